import PyProof.Rows.All
import Wide.All
import OpenK.AllK
import Wide.FinOn
import HandS.ForMost
import HandS.ForExc
import HandS.IsInst
import HandS.ExcIs
import HandS.ExcValue
import HandS.ExcCtx
import HandS.HotCalls
import HandS.ExcInitHot
import HandS.Head0
import HandS.Head1
import HandS.Head2
import HandS.HeadEnd
import HandS.HeadHook1
import HandS.HeadHook2
import HandS.HeadHook3
import HandS.HeadHook4
import HandS.HeadWalk
import HandS.Defaults
import HandS.ReplaceLit
import HandS.TupLe
import HandS.TupAny
import HandS.More
import HandS.Codes
import HandS.Conv
import HandS.Deep
import HandS.TupSets
import HandS.Style
import HandS.Strs
import HandS.AnyAll
import HandS.GenList
import HandS.JoinGen
import HandS.Zip
import KE.KUnpackStar
import HandS.DictTup
import HandS.SetFor
import HandS.SortInts
import HandS.Rev
import PySem.Challenge.RW_glitchnet_k25_no_formulas
import HandS.TupMul
import HandS.Lambda
set_option Elab.async false
set_option linter.all false
set_option maxRecDepth 100000
set_option maxHeartbeats 1000000
namespace Gk
open PySem PySem.Spec PyProof.Rows L2
/-! ### an exception handed on to a def -/
namespace GxE
open PySem PySem.Spec PyProof.Rows L2
/-- a caught exception, as it stands -/
def ExP (a : Addr) (oe : Obj) : HO := .ext fun h => h.get? a = some oe
theorem exP_ok {P : Program} {w : World} {H : Hp} {h : Heap} {a : Addr} {oe : Obj} (e : h.get? a = some oe) : ObjOk P w H h a (ExP a oe) := ⟨e, ⟨oe, e⟩, fun _ _ q k => k _ q⟩
/-- it is seen: told of, or there since the law began -/
def Seen (base : Heap) (H : Hp) (a : Addr) (oe : Obj) : Prop := H a = some (ExP a oe) ∨ base.get? a = some oe
theorem Seen.same {base : Heap} {H H' : Hp} {a : Addr} {oe : Obj} (h : Seen base H a oe) (s : Same H H') : Seen base H' a oe := h.imp (fun e => s _ _ e) id
section
variable {X : Cx} {pins : List (Addr × Obj)} {σ : L2.St} {H : Hp} {s : Shared}
theorem seen_at {a : Addr} {oe : Obj} (I : Inv X pins σ H s) (h : Seen X.base H a oe) : s.heap.get? a = some oe := by
  rcases h with h | h
  · exact (I.hok a _ h).1
  · exact (I.bs a oe h).1
theorem inst_of {h : Heap} {a D : Addr} {oe : Obj} (e : h.get? a = some oe) (hz : Zc (.ref D) none oe) (hf : ∃ vs, oe.data = .fields vs) : PySem.W.InstAt h a oe D none := by
  obtain ⟨vs, hv⟩ := hf
  obtain ⟨oc, od, oda, osl⟩ := oe
  obtain ⟨h1, h2⟩ := hz
  dsimp only at h1 h2 hv
  subst h1 h2 hv
  exact ⟨e, rfl, rfl, trivial⟩
/-- isinstance(e, c) -/
def rIsX (K : PySem.W.Frag) (base : Heap) : List V → Hp → VK → Prop := fun xs H Q => ∃ (a D : Addr) (oe : Obj) (c : V) (cv : Value) (b : Bool), xs = [.ref a, c] ∧ Seen base H a oe ∧ Zc (.ref D) none oe ∧ (∃ vs, oe.data = .fields vs) ∧ ExcC K D ∧ ClsV c cv ∧ PySem.W.kitOne K (.ref D) cv = some b ∧ Q (.bl b) H
theorem call_isX : CallR X (.builtin "isinstance") (rIsX X.K X.base) := by
  intro pins s σ H xs us Q I r h
  obtain ⟨a, D, oe, c, cv, b, rfl, seen, hz, hf, C, k, e, q⟩ := h
  obtain ⟨u1, u2, rfl, r1, r2⟩ := vals2 r
  have e2 := k.eq r2
  subst e2
  cases (show u1 = Value.ref a from r1)
  exact PySem.W.kia_one (PySem.W.handS_kitx_exc C.hg C.hk C.hs C.hd C.ha C.hn C.ht C.hm) I.kIn (inst_of (seen_at I seen) hz hf) e (fun z => nomatch z) fun tk => ⟨.bl b, H, I.tok tk, rfl, q⟩
/-- isinstance(e, (c1, c2, ..)) -/
def rIsXT (K : PySem.W.Frag) (base : Heap) : List V → Hp → VK → Prop := fun xs H Q => ∃ (a D : Addr) (oe : Obj) (tp : Addr) (cs : List V) (us : List Value) (b : Bool), xs = [.ref a, .ref tp] ∧ Seen base H a oe ∧ Zc (.ref D) none oe ∧ (∃ vs, oe.data = .fields vs) ∧ ExcC K D ∧ H tp = some (.tup cs) ∧ Paired ClsV cs us ∧ PySem.W.kitAny K (.ref D) us = some b ∧ Q (.bl b) H
theorem call_isXT : CallR X (.builtin "isinstance") (rIsXT X.K X.base) := by
  intro pins s σ H xs us Q I r h
  obtain ⟨a, D, oe, tp, cs, ws, b, rfl, seen, hz, hf, C, hT, k, e, q⟩ := h
  obtain ⟨u1, u2, rfl, r1, r2⟩ := vals2 r
  cases (show u1 = Value.ref a from r1)
  cases (show u2 = Value.ref tp from r2)
  obtain ⟨_, its, rv, o, h1, h2, n, h3⟩ := (show ObjOk X.prog X.w H s.heap tp (.tup cs) from I.hok tp _ hT)
  have e3 := ClsV.all k rv
  subst e3
  obtain ⟨oc, od, dt, sl⟩ := o
  simp only at h2 h3
  subst h2 h3
  exact PySem.W.kia_tup (PySem.W.handS_kitx_exc C.hg C.hk C.hs C.hd C.ha C.hn C.ht C.hm) I.kIn (inst_of (seen_at I seen) hz hf) h1 e (fun z => nomatch z) fun tk => ⟨.bl b, H, I.tok tk, rfl, q⟩
end
section
variable {P : Program} {w : World} {H H' : Hp} {h h' : Heap} {a : Addr} {oe : Obj}
theorem hok_add (x : HOk P w H h) (n : H a = none) (e : h.get? a = some oe) : HOk P w (upd H a (ExP a oe)) h := HOk.laidN x (fun _ _ z => z) n (exP_ok e)
theorem paired_imp {α β : Type} {R S : α → β → Prop} (f : ∀ a b, R a b → S a b) : ∀ {xs : List α} {ys : List β}, Paired R xs ys → Paired S xs ys
  | _, _, .nil => .nil
  | _, _, .cons r t => .cons (f _ _ r) (paired_imp f t)
/-- without what is only told of -/
theorem objOk_del {φ : Heap → Prop} (ha : H a = some (.ext φ)) : ∀ (u : HO) (b : Addr), ObjOk P w H h b u → ObjOk P w (delH H a) h b u := by
  have tup : ∀ {b xs}, H b = some (.tup xs) → delH H a b = some (.tup xs) := fun {b xs} e => by
    rw [delH_ne (fun z => by rw [z, ha] at e; cases e)]
    exact e
  have own : ∀ {b c}, H b = some (.own c) → delH H a b = some (.own c) := fun {b c} e => by
    rw [delH_ne (fun z => by rw [z, ha] at e; cases e)]
    exact e
  intro u
  induction u with
  | dT kvs =>
    rintro b ⟨h1, h2, xs, p, r⟩
    refine ⟨h1, h2, xs, ?_, r⟩
    exact paired_imp (fun _ _ ⟨q1, q2, q3⟩ => ⟨q1, tup q2, q3⟩) p
  | ins C dx fs =>
    rintro b ⟨h1, r⟩
    exact ⟨own h1, r⟩
  | frz o u ih =>
    rintro b ⟨h1, h2⟩
    exact ⟨h1, ih b h2⟩
  | _ => exact fun b x => x
theorem hok_del {φ : Heap → Prop} (x : HOk P w H h) (ha : H a = some (.ext φ)) : HOk P w (delH H a) h := fun b u e => by
  by_cases hb : b = a
  · rw [hb, delH_same] at e
    cases e
  · rw [delH_ne hb] at e
    exact objOk_del ha u b (x b u e)
end
section
variable {fs : List Addr} {H H2 : Hp} {h h' : Heap} {a : Addr} {oe : Obj}
theorem un_del (u : Un fs [] (upd H a (ExP a oe)) H2 h h') (n : H a = none) (e : h.get? a = some oe) (e' : h'.get? a = some oe) : Un fs [] H (delH H2 a) h h' := by
  have ne : ∀ {b : Addr} {o : HO}, H b = some o → b ≠ a := fun {b o} q z => by rw [z, n] at q; cases q
  refine ⟨fun b o q nb hb hx => ?_, fun b o q nb hb hx => ?_, fun b o q nb hx => ?_, fun b o q hx => u.there b o q hx, fun b xs q => ?_, fun b o v q => ?_, fun b ps q => ?_⟩
  · by_cases hz : b = a
    · rw [hz] at q ⊢
      rw [e] at q
      rw [e', ← q]
    · exact u.keep b o q (by rw [upd_ne hz]; exact nb) hb hx
  · by_cases hz : b = a
    · rw [hz] at q ⊢
      rw [e] at q
      cases q
      exact ⟨oe.slots, e'⟩
    · exact u.slot b o q (by rw [upd_ne hz]; exact nb) hb hx
  · by_cases hz : b = a
    · rw [hz]; exact delH_same
    · rw [delH_ne hz]
      exact u.free b o q (by rw [upd_ne hz]; exact nb) hx
  · rw [delH_ne (ne q)]
    exact u.tups b xs (by rw [upd_ne (ne q)]; exact q)
  · rw [delH_ne (ne q)]
    exact u.frzs b o v (by rw [upd_ne (ne q)]; exact q)
  · rw [delH_ne (ne q)]
    exact u.tbls b ps (by rw [upd_ne (ne q)]; exact q)
end
/-! ### a def that runs also where an exception is handled -/
structure FnR (P : Program) (w : World) (K : PySem.W.Frag) (mg : PySem.Str → Option Value) (base : Heap) (k : Nat) (f : Addr) (fd : FuncData) (ps : List PySem.Str) (sp : Sp) : Prop where
  len : ∀ vs H Q E, sp vs H Q E → vs.length = ps.length
  run : ∀ (A : Around) (outer : List Env) (s : Shared) (H : Hp) (args : Args) (us : List Value) (vs : List V) (Q : VK), L2H.RoomH k A → Env0 P w K mg base A outer s H → BindsTo s fd args (ps.zip us) → Vals vs us → sp vs H Q E0 →
    codeAny (model P w) A (.call (.ref f) args) (CR CX0 outer P w H s Q E0) s
theorem okR {P : Program} {w : World} {K : PySem.W.Frag} {mg : PySem.Str → Option Value} {base : Heap} {x qual : PySem.Str} {st : Stmt} {f : Addr} {fd : FuncData} {N ps : List PySem.Str} {k : Nat} {sp : Sp} (F : Fun K x qual st f fd) (S : FnScope N ps (defScope st)) (len : ∀ vs H Q E, sp vs H Q E → vs.length = ps.length)
    (body : ∀ (cdv : Value) (A : Around) (outer : List Env) (s : Shared) (H : Hp) (vs : List V) (Q : VK) (p : Addr × Obj), L2H.RoomH k (A.deeper (envOfC qual (defScope st) s.heap.objs.size f cdv)) → sp vs H Q E0 →
      ∃ t, PSs (L2H.cxH CX0 P w K mg base N qual (defScope st) f cdv A outer s H E0 p) (defBody st) t ∧ t { nx := fun _ H' => Q .non H', rt := Q } (L2.start N vs) H) : FnR P w K mg base (k + 1) f fd ps sp := by
  obtain ⟨oc, od, kV, doc, pm, an, cdv, ct, osl, rfl, lk, hcd⟩ := F.ex
  refine ⟨len, fun A outer s H args us vs Q hr e0 hb r hsp => ?_⟩
  have kin : K.In s.heap := e0.mod.kin.keeps fun b o e => (e0.bs b o e).1
  have nol : s.heap.NoLimit := e0.mod.nolimit.keeps fun b o e => (e0.bs b o e).1
  obtain ⟨go, ges, gep, hgo, hgx⟩ := id e0.mod.glob
  have pin : L2H.PinOk outer H s (mainGlobals, go) := by
    refine ⟨(e0.bs _ _ hgo).1, (e0.bs _ _ hgo).2, fun hm => ?_, fun v z => ?_⟩
    · have z := (e0.funs.mem hm).1
      rw [hgo] at z
      cases z
    · have z : go.data = .cell v := z
      rw [hgx.1] at z
      cases z
  have places : ∀ y ∈ ps.zip us, (defScope st).names.lookup y.1 = some .local ∨ ((defScope st).names.lookup y.1 = some .cell ∧ ((cellsFrom (s.heap.objs.size + 1) (defScope st).names []).lookup y.1).isSome = true) := fun ⟨n, v⟩ hy => by
    rcases S.par n (List.of_mem_zip hy).1 with q | q
    · exact .inl q
    · exact .inr ⟨q, PySem.W.cellsFrom_some _ _ _ (.inl q)⟩
  refine codeAny_call_function hr.depth (kin _ _ lk) rfl S.co S.gen rfl (PySem.W.codeRec_of kin hcd) (hb _ _ _ _ ?_)
  refine wpAny_newFunctionEnv_cells S.kind places fun env he s1 x => ?_
  subst he
  refine ⟨nol.keeps x.toInCall.keep, codeAny_func ?_⟩
  obtain ⟨t, ht, hq⟩ := body cdv A outer s H vs Q (mainGlobals, go) (hr.deeper _) hsp
  have I := L2H.inv_startH (CX := CX0) (E := E0) (f := f) (cd := cdv) (qual := qual) S pin e0 (len _ _ _ _ hsp) r x
  refine wpAny_mono (ht.run [] s1 (L2.start N vs) H _ I hq) (fun fl s' hs => ?_) fun e s' hs => hs
  cases fl with
  | ret u =>
    obtain ⟨v, σ', H', J, rv, q⟩ := hs
    exact ⟨v, H', J.os, J.bare, J.base, J.hok, rv, q⟩
  | next =>
    obtain ⟨σ', H', J, q⟩ := hs
    exact ⟨.non, H', J.os, J.bare, J.base, J.hok, rfl, q⟩
  | brk =>
    obtain ⟨_, _, _, q⟩ := hs
    exact False.elim q
  | cont =>
    obtain ⟨_, _, _, q⟩ := hs
    exact False.elim q
section
variable {X : Cx} {k : Nat} {f : Addr} {fd : FuncData} {ps : List PySem.Str} {sp : Sp} {x : PySem.Str} {p pos : Pos} {e : Expr} {es : List Expr} {t : TA} {a : Addr} {oe : Obj} {pn : List (Addr × Obj)} {cls : Value} {d : Option Addr}
/-- f(.., e, ..) in an except suite, e the exception -/
def tCallX (base : Heap) (a : Addr) (cls : Value) (d : Option Addr) (sp : Sp) (t : TA) : TE := fun σ H Q => t σ H fun vs H1 => ∀ oe : Obj, Zc cls d oe → (∃ vs, oe.data = .fields vs) →
  (H1 a = none → sp vs (upd H1 a (ExP a oe)) (fun v H2 => H2 a = some (ExP a oe) ∧ Q v (delH H2 a)) E0) ∧ (base.get? a = some oe → sp vs H1 Q E0)
theorem pe_callX (hz : Zc cls d oe) (hf : ∃ vs, oe.data = .fields vs) (F : FnR X.prog X.w X.K X.mg X.base k f fd ps sp) (hr : L2H.RoomH k (X.suite a ((a, oe) :: pn)).A) (hg : Gl X x) (hm : X.mg x = some (.ref f)) (hk : PySem.W.keepIn X.K (.ref f) = true) (hb : Binds X.K fd ps [])
    (ha : PA (X.suite a ((a, oe) :: pn)) (e :: es) t) (hdb : (x == ("__debug__" : PySem.Str)) = false := by decide) (he : starEach (e :: es) X.env = (false, eval e X.env) :: starEach es X.env := by rfl) (hpl : (backTo pos (starEach es X.env)).any (·.1) = false := by rfl) :
    PE (X.suite a ((a, oe) :: pn)) (.Call (.Name x p) (e :: es) [] pos) (tCallX X.base a cls d sp t) := by
  refine ⟨fun pins s σ H Q I h => ?_⟩
  refine wpAny_Call_Name_kw (ld_glob (X := X.suite a ((a, oe) :: pn)) I hg hm ?_ hdb)
  refine PySem.W.callWith_K (h₀ := X.base) I.ok.mod.kin hk (thn (ha.run pos pins s σ H _ I h) fun us s1 ⟨vs, H1, I1, r, q0⟩ => ⟨I1.kIn, ?_⟩) he hpl
  have q := q0 oe hz hf
  have pin := I1.pin (a, oe) (List.mem_append.mpr (.inl List.mem_cons_self))
  have e0 := I1.env0
  have na : H1 a = none := pin.2.1
  have bind : ∀ {H2 : Hp} {Q2 : VK}, sp vs H2 Q2 E0 → BindsTo s1 fd ⟨us, []⟩ (ps.zip us) := fun {H2 Q2} z => by
    have hl : (us ++ ([] : List Value)).length = ps.length := by rw [List.append_nil, ← r.length]; exact F.len _ _ _ _ z
    have y := hb s1 us I1.kIn hl
    rw [List.append_nil] at y
    exact y
  cases hbase : X.base.get? a with
  | some o =>
    have := (e0.bs a o hbase).1
    rw [pin.1] at this
    cases Option.some.inj this
    have h2 := q.2 hbase
    refine wpAny_call (codeAny_mono (F.run _ _ s1 _ ⟨us, []⟩ us vs _ hr e0 (bind h2) r h2) fun r' s' hq => ?_)
    cases r' with
    | error e' => exact False.elim hq
    | ok fl =>
      cases fl with
      | ret u => exact I1.after hq
      | next => exact False.elim hq
      | brk => exact False.elim hq
      | cont => exact False.elim hq
  | none =>
    have h2 := q.1 na
    have E1 : Env0 X.prog X.w X.K X.mg X.base (X.suite a ((a, oe) :: pn)).A (X.suite a ((a, oe) :: pn)).stack s1 (upd H1 a (ExP a oe)) :=
      ⟨e0.frames, e0.mod, fun b o z => ⟨(e0.bs b o z).1, by rw [upd_ne (fun y => by rw [y, hbase] at z; cases z)]; exact (e0.bs b o z).2⟩, e0.bsz, e0.funs, fun b hb' => by
        by_cases y : b = a
        · exfalso
          obtain ⟨_, o, ho, hnf⟩ := e0.funs.mem (show b ∈ frs _ from hb')
          rw [y, pin.1] at ho
          cases ho
          obtain ⟨vs', hv⟩ := hf
          exact hnf vs' hv
        · rw [upd_ne y]; exact e0.frf b hb', hok_add e0.hok na pin.1, e0.bare⟩
    refine wpAny_call (codeAny_mono (F.run _ _ s1 _ ⟨us, []⟩ us vs _ hr E1 (bind h2) r h2) fun r' s' hq => ?_)
    cases r' with
    | error e' => exact False.elim hq
    | ok fl =>
      cases fl with
      | ret u =>
        obtain ⟨v, H', os, bare, un, hok, rv, q1, q2⟩ := hq
        have e' : s'.heap.get? a = some oe := (hok a _ q1).1
        exact I1.after ⟨v, delH H' a, os, bare, un_del un na pin.1 e', hok_del hok q1, rv, q2⟩
      | next => exact False.elim hq
      | brk => exact False.elim hq
      | cont => exact False.elim hq
end
/-! ### defs that raise -/
theorem okN {P : Program} {w : World} {K : PySem.W.Frag} {mg : PySem.Str → Option Value} {base : Heap} {x qual : PySem.Str} {st : Stmt} {f : Addr} {fd : FuncData} {N ps : List PySem.Str} {k : Nat} {sp : Sp} (F : Fun K x qual st f fd) (S : FnScope N ps (defScope st)) (len : ∀ vs H Q E, sp vs H Q E → vs.length = ps.length)
    (body : ∀ (cdv : Value) (A : Around) (outer : List Env) (s : Shared) (H : Hp) (vs : List V) (Q : VK) (E : XK), Room k (A.deeper (envOfC qual (defScope st) s.heap.objs.size f cdv)) → sp vs H Q E →
      ∃ t, PSs (cxOf (L2N.CX P w) P w K mg base N qual (defScope st) f cdv A outer s H E) (defBody st) t ∧ t { nx := fun _ H' => Q .non H', rt := Q } (L2.start N vs) H) : FnOk P w K mg base (L2N.CX P w) (k + 1) f fd ps sp := by
  obtain ⟨oc, od, kV, doc, pm, an, cdv, ct, osl, rfl, lk, hcd⟩ := F.ex
  exact fn_of lk hcd S len fun A outer s H vs Q E hr hsp => body cdv A outer s H vs Q E hr hsp
theorem takesE {P : Program} {w : World} {K : PySem.W.Frag} {mg : PySem.Str → Option Value} {base : Heap} {N : List PySem.Str} {qual : PySem.Str} {sc : Scope} {f : Addr} {cd : Value} {A : Around} {outer : List Env} {s : Shared} {H : Hp} {E : XK} :
    L2N.Takes (cxOf (L2N.CX P w) P w K mg base N qual sc f cd A outer s H E) (fun cls d _ H => E cls d H) := L2N.takes_of rfl rfl rfl rfl
theorem takesN {X : Cx} : L2N.Takes X (fun _ _ _ _ => False) := fun _ _ x => by
  obtain ⟨_, _, _, _, _, _, _, _, _, _, _, _, _, _, _, _, z⟩ := x
  exact z.elim
end GxE
/-! ### what the top says of classes and of tuples of texts -/
namespace GxE
open PySem PySem.Spec PyProof.Rows L2
def excCB (K : PySem.W.Frag) (D : Addr) : Bool :=
  decide (PySem.W.findIn K (.ref D) "__getattribute__" = some (some (.builtin "BaseException.__getattribute__"))) && (decide (PySem.W.findIn K (.ref D) "__getattr__" = some none) &&
  (decide (PySem.W.subIn K (.ref D) (.type "BaseException") = some true) && (PySem.W.hasDictIn K D && (decide (PySem.W.findIn K (.ref D) "__class__" = some (some (.builtin "object.__class__"))) &&
  (decide (PySem.W.specialIn K (.builtin "object.__class__") "__get__" = some (some (.builtin "getset_descriptor.__get__"))) && (decide (PySem.W.takesIn K (.builtin "object.__class__") = some true) && decide (PySem.W.mroIn K D (.type "object") = some true)))))))
theorem excC_ok {K : PySem.W.Frag} {D : Addr} (h : excCB K D = true) : ExcC K D := by
  obtain ⟨h1, h⟩ := He.ba h
  obtain ⟨h2, h⟩ := He.ba h
  obtain ⟨h3, h⟩ := He.ba h
  obtain ⟨h4, h⟩ := He.ba h
  obtain ⟨h5, h⟩ := He.ba h
  obtain ⟨h6, h⟩ := He.ba h
  obtain ⟨h7, h8⟩ := He.ba h
  exact ⟨of_decide_eq_true h1, of_decide_eq_true h2, of_decide_eq_true h3, h4, of_decide_eq_true h5, of_decide_eq_true h6, of_decide_eq_true h7, of_decide_eq_true h8⟩
def strsB : List PySem.Str → List Value → Bool
  | [], [] => true
  | x :: r, .str y _ :: t => decide (y = x) && strsB r t
  | _, _ => false
theorem strsB_ok : ∀ {xs : List PySem.Str} {us : List Value}, strsB xs us = true → Vals (xs.map V.str) us
  | [], [], _ => .nil
  | x :: r, u :: t, h => by
    cases u with
    | str y k =>
      obtain ⟨h1, h2⟩ := He.ba h
      cases of_decide_eq_true h1
      exact .cons ⟨k, rfl⟩ (strsB_ok h2)
    | _ => cases h
  | [], _ :: _, h => by cases h
  | _ :: _, [], h => by cases h
def tupB (K : PySem.W.Frag) (x : PySem.Str) (xs : List PySem.Str) : Bool := match K.lookup (He.ga K x) with
  | some ⟨.type "tuple", none, .seq its _, _⟩ => strsB xs its.toList && decide (its.size ≤ 1000)
  | _ => false
theorem tupB_ok {K : PySem.W.Frag} {x : PySem.Str} {xs : List PySem.Str} (h : tupB K x xs = true) (H : Hp) : SqT K H (He.ga K x) (xs.map V.str) := by
  unfold tupB at h
  split at h
  · rename_i its n sl e
    obtain ⟨h1, h2⟩ := He.ba h
    exact .inr ⟨_, its, n, e, rfl, rfl, Nat.le_trans (of_decide_eq_true h2) (by decide), strsB_ok h1⟩
  · cases h
theorem tupB_ty {K : PySem.W.Frag} {x : PySem.Str} {xs : List PySem.Str} (h : tupB K x xs = true) : ∃ o, K.lookup (He.ga K x) = some o ∧ o.cls = .type "tuple" ∧ o.dict = none := by
  unfold tupB at h
  split at h
  · rename_i its n sl e
    exact ⟨_, e, rfl, rfl⟩
  · cases h
end GxE

/-! ### calls within a def that runs in an except suite; isinstance in the suite itself; X(e) -/
namespace GxE
open PySem PySem.Spec PyProof.Rows L2
section
variable {X : Cx} {k : Nat} {f : Addr} {fd : FuncData} {ps : List PySem.Str} {sp : Sp} {x : PySem.Str} {p pos : Pos} {e : Expr} {es : List Expr} {t : TA} {a : Addr} {oe : Obj} {pn : List (Addr × Obj)} {cls : Value} {d : Option Addr}
def tCallR (sp : Sp) (t : TA) : TE := fun σ H Q => t σ H fun vs H1 => sp vs H1 Q E0
theorem pe_callR (F : FnR X.prog X.w X.K X.mg X.base k f fd ps sp) (hr : L2H.RoomH k X.A) (hg : Gl X x) (hm : X.mg x = some (.ref f)) (hk : PySem.W.keepIn X.K (.ref f) = true) (hb : Binds X.K fd ps [])
    (ha : PA X (e :: es) t) (hdb : (x == ("__debug__" : PySem.Str)) = false := by decide) (he : starEach (e :: es) X.env = (false, eval e X.env) :: starEach es X.env := by rfl) (hpl : (backTo pos (starEach es X.env)).any (·.1) = false := by rfl) :
    PE X (.Call (.Name x p) (e :: es) [] pos) (tCallR sp t) := by
  refine ⟨fun pins s σ H Q I h => ?_⟩
  refine wpAny_Call_Name_kw (ld_glob I hg hm ?_ hdb)
  refine PySem.W.callWith_K (h₀ := X.base) I.ok.mod.kin hk (thn (ha.run pos pins s σ H _ I h) fun us s1 ⟨vs, H1, I1, r, q⟩ => ⟨I1.kIn, ?_⟩) he hpl
  have hl : (us ++ ([] : List Value)).length = ps.length := by rw [List.append_nil, ← r.length]; exact F.len _ _ _ _ q
  have y := hb s1 us I1.kIn hl
  rw [List.append_nil] at y
  refine wpAny_call (codeAny_mono (F.run _ _ s1 _ ⟨us, []⟩ us vs _ hr I1.env0 y r q) fun r' s' hq => ?_)
  cases r' with
  | error e' => exact False.elim hq
  | ok fl =>
    cases fl with
    | ret u => exact I1.after hq
    | next => exact False.elim hq
    | brk => exact False.elim hq
    | cont => exact False.elim hq
/-- isinstance(e, c) in the suite -/
def rIsP (K : PySem.W.Frag) (a : Addr) (cls : Value) (d : Option Addr) : List V → Hp → VK → Prop := fun xs H Q => ∃ (D : Addr) (c : V) (cv : Value) (b : Bool), xs = [.ref a, c] ∧ cls = .ref D ∧ d = none ∧ ExcC K D ∧ ClsV c cv ∧ PySem.W.kitOne K (.ref D) cv = some b ∧ Q (.bl b) H
theorem call_isP (hz : Zc cls d oe) (hf : ∃ vs, oe.data = .fields vs) : CallR (X.suite a ((a, oe) :: pn)) (.builtin "isinstance") (rIsP X.K a cls d) := by
  intro pins s σ H xs us Q I r h
  obtain ⟨D, c, cv, b, rfl, rfl, rfl, C, k, e, q⟩ := h
  obtain ⟨u1, u2, rfl, r1, r2⟩ := vals2 r
  have e2 := k.eq r2
  subst e2
  cases (show u1 = Value.ref a from r1)
  have pin := I.pin (a, oe) (List.mem_append.mpr (.inl List.mem_cons_self))
  exact PySem.W.kia_one (PySem.W.handS_kitx_exc C.hg C.hk C.hs C.hd C.ha C.hn C.ht C.hm) I.kIn (inst_of pin.1 hz hf) e (fun z => nomatch z) fun tk => ⟨.bl b, H, I.tok tk, rfl, q⟩
def rIsPT (K : PySem.W.Frag) (a : Addr) (cls : Value) (d : Option Addr) : List V → Hp → VK → Prop := fun xs H Q => ∃ (D tp : Addr) (cs : List V) (us : List Value) (b : Bool), xs = [.ref a, .ref tp] ∧ cls = .ref D ∧ d = none ∧ ExcC K D ∧ H tp = some (.tup cs) ∧ Paired ClsV cs us ∧ PySem.W.kitAny K (.ref D) us = some b ∧ Q (.bl b) H
theorem call_isPT (hz : Zc cls d oe) (hf : ∃ vs, oe.data = .fields vs) : CallR (X.suite a ((a, oe) :: pn)) (.builtin "isinstance") (rIsPT X.K a cls d) := by
  intro pins s σ H xs us Q I r h
  obtain ⟨D, tp, cs, ws, b, rfl, rfl, rfl, C, hT, k, e, q⟩ := h
  obtain ⟨u1, u2, rfl, r1, r2⟩ := vals2 r
  cases (show u1 = Value.ref a from r1)
  cases (show u2 = Value.ref tp from r2)
  obtain ⟨_, its, rv, o, h1, h2, n, h3⟩ := (show ObjOk X.prog X.w H s.heap tp (.tup cs) from I.hok tp _ hT)
  have e3 := ClsV.all k rv
  subst e3
  obtain ⟨oc, od, dt, sl⟩ := o
  simp only at h2 h3
  subst h2 h3
  have pin := I.pin (a, oe) (List.mem_append.mpr (.inl List.mem_cons_self))
  exact PySem.W.kia_tup (PySem.W.handS_kitx_exc C.hg C.hk C.hs C.hd C.ha C.hn C.ht C.hm) I.kIn (inst_of pin.1 hz hf) h1 e (fun z => nomatch z) fun tk => ⟨.bl b, H, I.tok tk, rfl, q⟩
end
section
variable {X : Cx}
/-- X(e), e a value -/
theorem pmk_one {C : Addr} {bmB : List Value} {B newId initId : String} {x : PySem.Str} {e : Expr} {ta : TE} {p pos : Pos} (F : ExcBaseFacts B newId initId bmB) (q : PySem.W.excIn X.K C bmB newId = true) (gC : X.mg x = some (.ref C)) (kC : PySem.W.keepIn X.K (.ref C) = true) (r : Raises X (.ref C)) (hg : Gl X x)
    (he : PE X e ta) (hs : starEach [e] X.env = (false, eval e X.env) :: starEach [] X.env := by rfl) (hdb : (x == ("__debug__" : PySem.Str)) = false := by decide) :
    L2N.PMk X (.Call (.Name x p) [e] [] pos) (fun σ H Q => ta σ H fun _ H1 => Q (.ref C) none H1) := by
  intro pins s σ H Q I h
  refine wpAny_Call_Name_kw (ld_glob I hg gC ?_ hdb)
  refine PySem.W.callWith_K (h₀ := X.base) I.ok.mod.kin kC ?_ hs (by rfl)
  rw [hs]
  show wpAny _ _ (spliced ((false, eval e X.env) :: backTo pos (starEach [] X.env))) _ _ s
  refine Calls.spliced_cons (thn (he.run pins s σ H _ I h) fun u s1 ⟨v, H1, I1, r1, q1⟩ => ?_)
  refine Calls.spliced_nil ⟨I1.kIn, ?_⟩
  show wpAny _ _ (call (.ref C) [u]) _ _ _
  obtain ⟨bm, N, nm, qn, bs, hdct, sn, sub, ab, col, dd, k0, k1, k2, k3, k5, mN, hC, hN, hni, T⟩ := exc_obj I1.kIn q
  refine wpAny_call_exc_subT F T hC hN hni (fun h' e hm => ?_) (by show 1 ≤ sizeLine; rw [sizeLine_eq]; omega)
  exact L2N.mk_of I1 hm r q1 (I1.hok.gone hm.new)
end
end GxE
theorem GxE.unH {k : Nat} {A : Around} (h : L2H.RoomH k A) : A.units + 64 < cLine := by
  have := h.un
  omega

/-! ### except C as e: m = e, where m is asked after the suite -/
namespace KpX
open PySem PySem.Spec PyProof.Rows L2
/-- an exception that was caught, held like any other thing -/
def ExK (cls : Value) (d : Option Addr) (a : Addr) : HO := .ext fun h => ∃ (oe : Obj) (vs : Array Value), h.get? a = some oe ∧ Zc cls d oe ∧ oe.data = .fields vs
section
variable {X : Cx} {pins : List (Addr × Obj)} {σ : L2.St} {H : Hp} {s : Shared}
theorem know {a : Addr} {oe : Obj} {vs : Array Value} {cls : Value} {d : Option Addr} (I : Inv X pins σ H s) (e : s.heap.get? a = some oe) (z : Zc cls d oe) (hd : oe.data = .fields vs) (na : H a = none) (n0 : X.s_0.heap.get? a = none) (nL : a ≠ X.env.locals) (np : ∀ p ∈ X.pn ++ pins, p.1 ≠ a) :
    Inv X pins σ (upd H a (ExK cls d a)) s := by
  have ne0 : ∀ b o, X.s_0.heap.get? b = some o → b ≠ a := fun b o q w => by
    rw [w, n0] at q
    cases q
  have neH : ∀ {b o}, H b = some o → b ≠ a := fun q w => by
    rw [w, na] at q
    cases q
  have nC : ∀ x c, X.env.cells.lookup x = some c → c ≠ a := fun x c hx hc => by
    obtain ⟨v, o, ho, hv⟩ := I.cell x c hx
    rw [hc, e] at ho
    cases ho
    rw [hd] at hv
    cases hv
  refine ⟨I.ok, I.os, I.bare, ⟨I.base.keep, I.base.slot, fun b o q n hx => ?_, I.base.there, fun b xs q => ?_, fun b o u q => ?_, fun b ps q => ?_⟩, I.loc, I.cell, ?_, fun x c hx => ?_, fun p hp => ?_, fun b u q => ?_, I.len⟩
  · rw [upd_ne (ne0 b o q)]
    exact I.base.free b o q n hx
  · have w := I.base.tups b xs q
    rw [upd_ne (neH w)]
    exact w
  · have w := I.base.frzs b o u q
    rw [upd_ne (neH w)]
    exact w
  · obtain ⟨m, w⟩ := I.base.tbls b ps q
    exact ⟨m, by rw [upd_ne (neH w)]; exact w⟩
  · rw [upd_ne nL.symm]
    exact I.free
  · rw [upd_ne (nC x c hx)]
    exact I.freeC x c hx
  · obtain ⟨p1, p2, p3⟩ := I.pin p hp
    exact ⟨p1, by rw [upd_ne (np p hp)]; exact p2, p3⟩
  · by_cases hb : b = a
    · subst hb
      rw [upd_same] at q
      cases q
      exact ⟨⟨oe, vs, e, z, hd⟩, ⟨oe, e⟩, fun _ _ ⟨o, v, w, r⟩ k => ⟨o, v, k o w, r⟩⟩
    · rw [upd_ne hb] at q
      exact (I.hok b u q).stay (fun c v _ w => w) (fun c w => by rw [upd_ne (neH w)]; exact w) fun c xs w => by rw [upd_ne (neH w)]; exact w
end
/-- what is wished of an exception of the body: it is of the class, and the suite hands it on -/
def wKp (K : PySem.W.Frag) (c : Value) (i : Nat) (ts : Addr → Value → Option Addr → TS) (D : Ends) : WX := fun cls d σ H =>
  PySem.W.exmOne K cls c = some true ∧ ∀ a, H a = none → ts a cls d { nx := fun σ' H' => D.nx (σ'.set i none) (upd H' a (ExK cls d a)), rt := fun _ _ => False, bk := fun _ _ => False, ct := fun _ _ => False } (σ.set i (some (.ref a))) H
section
variable {X : Cx} {x n : PySem.Str} {c : Value} {i : Nat} {body suite : List Stmt} {b₀ : Stmt} {np pos pos' : Pos} {tb : WX → TS} {ts : Addr → Value → Option Addr → TS}
theorem ps_keep (hex : X.ex = []) (hs : X.stack = X.env :: X.outer) (hf : X.env.frame = some X.env.locals) (hN : X.N.Nodup) (hi : X.N[i]? = some n) (hln : X.env.kindOf n = some .local) (hc : Names X x c)
    (hb : ∀ (W : WX) (pn : List (Addr × Obj)) (xe : Value → Shared → Prop), Takes (X.tr pn xe) W → PassesOwn (model X.prog X.w) X.A X.env xe → PSs (X.tr pn xe) body (tb W))
    (hsu : ∀ (a : Addr) (oe : Obj) (cls : Value) (d : Option Addr) (pn : List (Addr × Obj)), Zc cls d oe → (∃ vs, oe.data = .fields vs) → PSs (X.suite a ((a, oe) :: pn)) (b₀ :: suite) (ts a cls d)) :
    PS X (.Try body [.ExceptHandler (some (.Name x np)) (some n) (b₀ :: suite) pos'] [] [] pos) (fun D σ H => tb (wKp X.K c i ts D) D σ H) := by
  refine ⟨fun pins s σ H D I h => ?_⟩
  have ok := I.ok
  have fr : X.A.frames = some (X.env :: X.outer) := by rw [ok.frames, hs]
  refine wpAny_Try_except ?_
  refine wpAny_mono ((hb (wKp X.K c i ts D) (X.pn ++ pins) (fun e s₁ => wpAny (model X.prog X.w) X.A (noteFrame e X.env) (fun _ s₂ => wpAny (model X.prog X.w) X.A (setFlight e none) (fun _ s₃ =>
    wpAny (model X.prog X.w) X.A (handleBy e X.env [.ExceptHandler (some (.Name x np)) (some n) (b₀ :: suite) pos']) (SP X pins D) X.xe s₃) X.xe s₂) X.xe s₁) (fun u s' xx => ?_) PassesOwn.looking).run [] s σ H D (I.toTry _) h) (fun f s1 end1 => ?_) (fun e s1 q => q)
  rotate_left
  · cases f with
    | next =>
      obtain ⟨σ', H', J, q⟩ := end1
      exact wpAny_execs_nil ⟨σ', H', J.ofTry ok, q⟩
    | brk =>
      obtain ⟨σ', H', J, q⟩ := end1
      exact ⟨σ', H', J.ofTry ok, q⟩
    | cont =>
      obtain ⟨σ', H', J, q⟩ := end1
      exact ⟨σ', H', J.ofTry ok, q⟩
    | ret u =>
      obtain ⟨v, σ', H', J, r, q⟩ := end1
      exact ⟨v, σ', H', J.ofTry ok, r, q⟩
  -- what the body raised
  obtain ⟨a, B, sI, pins', σ', H', cls, d, rfl, J0, inB, up, sky, na, os, ag, same, wish⟩ := xx
  have J1 : Inv X pins σ' H' sI := J0.ofTry ok
  have sky' : Sky B (X.env :: X.outer) a (Zc cls d) X.env.locals s'.heap := by rw [← hs]; exact sky
  have Ba : B.get? a = none := by
    rcases sky' with ⟨_, q, _⟩ | ⟨_, q, _⟩ | ⟨_, q, _⟩ <;> exact q
  show wpAny (model X.prog X.w) X.A (noteFrame (.ref a) X.env) _ _ _
  refine Sky.land Zc.steady fr hf sky' fun h3 fl3 up3 => ?_
  have J3 : Inv X pins σ' H' { s' with heap := h3 } := J1.landed inB fl3.1 (up.trans up3) os ag
  obtain ⟨oe3, vs3, at3, z3, d3⟩ := fl3.there
  have offF : a ∉ frs (X.env :: X.outer) := fun hm => by
    obtain ⟨_, o', e', hnf⟩ := fl3.2.2.1.mem hm
    rw [at3] at e'
    cases e'
    exact hnf _ d3
  have nL : a ≠ X.env.locals := fun w => offF (List.mem_filterMap.mpr ⟨X.env, List.mem_cons_self, by rw [hf, w]⟩)
  have nF : a ∉ X.fs := fun hm => by
    obtain ⟨e, he, q⟩ := List.mem_filterMap.mp hm
    exact offF (List.mem_filterMap.mpr ⟨e, List.mem_cons_of_mem _ he, q⟩)
  have offS : a ∉ frs X.stack := by rw [hs]; exact offF
  -- it is new
  have outI : sI.heap.get? a = none := by
    cases q : sI.heap.get? a with
    | none => rfl
    | some o =>
      have w := inB a o q offS
      rw [Ba] at w
      cases w
  have n0 : X.s_0.heap.get? a = none := by
    cases q : X.s_0.heap.get? a with
    | none => rfl
    | some o =>
      obtain ⟨o', w⟩ := J1.base.there a o q (by rw [hex]; exact fun z => nomatch z)
      rw [outI] at w
      cases w
  have npin : ∀ p ∈ X.pn ++ pins, p.1 ≠ a := fun p hp w => by
    have q := (J1.pin p hp).1
    rw [w, outI] at q
    cases q
  have S3 := J3.suite at3 d3 na nL nF
  refine wpAny_handleBy_cons (codeAny_handlers_test ?_) (by intro q; cases q)
  have LT : PySem.W.Looks (model X.prog X.w) h3 (typeOf (.ref a)) cls := fun A Q E s k q => wpAny_typeOf_ref (k _ _ at3) (by rw [z3.1]; exact q)
  have LM := PySem.W.exm_one (M := model X.prog X.w) (J3.kIn) LT same
  have named : ∀ {Q : Value → Shared → Prop} {E : Value → Shared → Prop}, Q c { s' with heap := h3 } → wpAny (model X.prog X.w) (X.A.mark (some (.ref a))) (eval (.Name x np) X.env) Q E { s' with heap := h3 } := fun {Q E} q => by
    obtain ⟨g1, g2, g3 | ⟨g3, g4, g5⟩⟩ := hc
    · exact ld_glob (X := X.suite a ((a, oe3) :: (X.pn ++ pins))) S3 g1 g3 q g2
    · exact ld_blt (X := X.suite a ((a, oe3) :: (X.pn ++ pins))) S3 g1 g3 g4 q g5 g2
  refine named (LM.here ?_)
  refine codeAny_handlers_suite_as ?_
  refine HandSPX.lands_againZ fl3 fun h4 fl4 up4 => ?_
  have J4 : Inv X pins σ' H' { s' with heap := h4 } := J1.landed inB fl4.1 ((up.trans up3).trans up4) os ag
  obtain ⟨oe4, vs4, at4, z4, d4⟩ := fl4.there
  have S4 := J4.suite at4 d4 na nL nF
  refine store_ok (X := X.suite a ((a, oe4) :: (X.pn ++ pins))) (v := .ref a) S4 hN hi (.inl hln) rfl (fun s5 S5 => ?_) (.inr hln)
  refine wpAny_mono ((hsu a oe4 cls d (X.pn ++ pins) z4 ⟨_, d4⟩).run [] s5 _ H' _ S5 (wish a na)) (fun f s6 fin => ?_) (fun _ _ z => False.elim z)
  cases f with
  | next =>
    obtain ⟨σ6, H6, S6, q6⟩ := fin
    have pin6 := S6.pin (a, oe4) (List.mem_append_left _ List.mem_cons_self)
    have J6 : Inv X pins σ6 H6 s6 := S6.unsuite ok
    exact gone_ok (know J6 pin6.1 z4 d4 pin6.2.1 n0 nL npin) hN hi hln fun s7 J7 => ⟨_, _, J7, q6⟩
  | brk =>
    obtain ⟨σ6, H6, S6, q6⟩ := fin
    exact q6.elim
  | cont =>
    obtain ⟨σ6, H6, S6, q6⟩ := fin
    exact q6.elim
  | ret u =>
    obtain ⟨v6, σ6, H6, S6, r6, q6⟩ := fin
    exact q6.elim
end
section
variable {X : Cx}
/-- isinstance(e, C), e the exception that was kept -/
def rIsK (K : PySem.W.Frag) : List V → Hp → VK → Prop := fun xs H Q => ∃ (a D : Addr) (c : V) (cv : Value) (b : Bool), xs = [.ref a, c] ∧ H a = some (ExK (.ref D) none a) ∧ ExcC K D ∧ ClsV c cv ∧ PySem.W.kitOne K (.ref D) cv = some b ∧ Q (.bl b) H
theorem call_isK : CallR X (.builtin "isinstance") (rIsK X.K) := by
  intro pins s σ H xs us Q I r h
  obtain ⟨a, D, c, cv, b, rfl, ha, C, k, e, q⟩ := h
  obtain ⟨u1, u2, rfl, r1, r2⟩ := vals2 r
  have e2 := k.eq r2
  subst e2
  cases (show u1 = Value.ref a from r1)
  obtain ⟨⟨oe, vs, at_, z, hd⟩, _, _⟩ := I.hok a _ ha
  exact PySem.W.kia_one (PySem.W.handS_kitx_exc C.hg C.hk C.hs C.hd C.ha C.hn C.ht C.hm) I.kIn (GxE.inst_of at_ z ⟨vs, hd⟩) e (fun z => nomatch z) fun tk => ⟨.bl b, H, I.tok tk, rfl, q⟩
def rIsKT (K : PySem.W.Frag) : List V → Hp → VK → Prop := fun xs H Q => ∃ (a D tp : Addr) (cs : List V) (us : List Value) (b : Bool), xs = [.ref a, .ref tp] ∧ H a = some (ExK (.ref D) none a) ∧ ExcC K D ∧ H tp = some (.tup cs) ∧ Paired ClsV cs us ∧ PySem.W.kitAny K (.ref D) us = some b ∧ Q (.bl b) H
theorem call_isKT : CallR X (.builtin "isinstance") (rIsKT X.K) := by
  intro pins s σ H xs us Q I r h
  obtain ⟨a, D, tp, cs, ws, b, rfl, ha, C, hT, k, e, q⟩ := h
  obtain ⟨u1, u2, rfl, r1, r2⟩ := vals2 r
  cases (show u1 = Value.ref a from r1)
  cases (show u2 = Value.ref tp from r2)
  obtain ⟨_, its, rv, o, h1, h2, n, h3⟩ := (show ObjOk X.prog X.w H s.heap tp (.tup cs) from I.hok tp _ hT)
  have e3 := ClsV.all k rv
  subst e3
  obtain ⟨oc, od, dt, sl⟩ := o
  simp only at h2 h3
  subst h2 h3
  obtain ⟨⟨oe, vs, at_, z, hd⟩, _, _⟩ := I.hok a _ ha
  exact PySem.W.kia_tup (PySem.W.handS_kitx_exc C.hg C.hk C.hs C.hd C.ha C.hn C.ht C.hm) I.kIn (GxE.inst_of at_ z ⟨vs, hd⟩) h1 e (fun z => nomatch z) fun tk => ⟨.bl b, H, I.tok tk, rfl, q⟩
end
end KpX

end Gk

set_option Elab.async false
set_option linter.all false
set_option maxRecDepth 100000
set_option maxHeartbeats 1000000
namespace Gk
open PySem PySem.Spec PyProof.Rows L2
/-! ### the text -/
def topS (i : Nat) : Stmt := PySem.Challenge.pw_glitchnet_k25_no_formulas.main.body.getD i (.Pass ⟨0, 0, 0, 0⟩)
abbrev s_is_whole : Stmt := topS 1
abbrev s_is_signs : Stmt := topS 2
abbrev s_no_delays : Stmt := topS 4
abbrev s_is_net : Stmt := topS 16
abbrev s_is_gate : Stmt := topS 17
abbrev s_choices_of : Stmt := topS 18
abbrev s_table_worth : Stmt := topS 19
abbrev s_pairs_of : Stmt := topS 21
abbrev s_gate_word : Stmt := topS 22
abbrev s_goes_fro : Stmt := topS 23
abbrev s_pair_by : Stmt := topS 24
abbrev s_pairs_for : Stmt := topS 25
abbrev s_pairs_read : Stmt := topS 26
abbrev s_words_of : Stmt := topS 28
abbrev s_is_formula : Stmt := topS 29
abbrev s_shown : Stmt := topS 31
abbrev s_delays_by : Stmt := topS 32
abbrev s_input_delay : Stmt := topS 33
abbrev s_deck : Stmt := topS 35
abbrev s_draw : Stmt := topS 36
abbrev s_table : Stmt := topS 37
abbrev s_formula : Stmt := topS 38
abbrev s_chain : Stmt := topS 39
abbrev s_shared : Stmt := topS 40
abbrev s_change : Stmt := topS 41
abbrev s_worth : Stmt := topS 42
abbrev s_may : Stmt := topS 43
abbrev s_word : Stmt := topS 44
abbrev s_words : Stmt := topS 45
abbrev s_twice : Stmt := topS 46
abbrev s_refused : Stmt := topS 47
abbrev s_law : Stmt := topS 48
theorem sc_is_whole : FnScope ["thing"] ["thing"] (defScope s_is_whole) := ⟨rfl, rfl, rfl, by decide +kernel, rfl, by decide +kernel, by decide +kernel⟩
theorem sc_is_signs : FnScope ["many", "thing", "sign"] ["many", "thing"] (defScope s_is_signs) := ⟨rfl, rfl, rfl, by decide +kernel, rfl, by decide +kernel, by decide +kernel⟩
theorem sc_no_delays : FnScope ["net", "table", "ins"] ["net"] (defScope s_no_delays) := ⟨rfl, rfl, rfl, by decide +kernel, rfl, by decide +kernel, by decide +kernel⟩
theorem sc_is_net : FnScope ["thing", "many", "gates", "number", "gate"] ["thing"] (defScope s_is_net) := ⟨rfl, rfl, rfl, by decide +kernel, rfl, by decide +kernel, by decide +kernel⟩
theorem sc_is_gate : FnScope ["wires", "thing", "table", "ins", "wire"] ["wires", "thing"] (defScope s_is_gate) := ⟨rfl, rfl, rfl, by decide +kernel, rfl, by decide +kernel, by decide +kernel⟩
theorem sc_choices_of : FnScope ["lists", "choices", "options", "choice", "option"] ["lists"] (defScope s_choices_of) := ⟨rfl, rfl, rfl, by decide +kernel, rfl, by decide +kernel, by decide +kernel⟩
theorem sc_table_worth : FnScope ["table", "worths", "place", "worth"] ["table", "worths"] (defScope s_table_worth) := ⟨rfl, rfl, rfl, by decide +kernel, rfl, by decide +kernel, by decide +kernel⟩
theorem sc_pairs_of : FnScope ["word", "first", "last", "fro"] ["word"] (defScope s_pairs_of) := ⟨rfl, rfl, rfl, by decide +kernel, rfl, by decide +kernel, by decide +kernel⟩
theorem sc_gate_word : FnScope ["table", "words", "first", "last", "word"] ["table", "words"] (defScope s_gate_word) := ⟨rfl, rfl, rfl, by decide +kernel, rfl, by decide +kernel, by decide +kernel⟩
theorem sc_goes_fro : FnScope ["table", "words", "first", "last", "pairs", "early", "late", "word"] ["table", "words", "first", "last"] (defScope s_goes_fro) := ⟨rfl, rfl, rfl, by decide +kernel, rfl, by decide +kernel, by decide +kernel⟩
theorem sc_pair_by : FnScope ["table", "pairs", "p", "q"] ["table", "pairs"] (defScope s_pair_by) := ⟨rfl, rfl, rfl, by decide +kernel, rfl, by decide +kernel, by decide +kernel⟩
theorem sc_pairs_for : FnScope ["table", "options", "wanted", "pairs"] ["table", "options", "wanted"] (defScope s_pairs_for) := ⟨rfl, rfl, rfl, by decide +kernel, rfl, by decide +kernel, by decide +kernel⟩
theorem sc_pairs_read : FnScope ["net", "options", "wire", "wanted", "many", "gates", "wanted_of", "found", "gate", "table", "ins", "pairs", "place", "read"] ["net", "options", "wire", "wanted"] (defScope s_pairs_read) := ⟨rfl, rfl, rfl, by decide +kernel, rfl, by decide +kernel, by decide +kernel⟩
theorem sc_words_of : FnScope ["net", "change", "a", "b", "words", "table", "ins", "before", "after", "wire"] ["net", "change"] (defScope s_words_of) := ⟨rfl, rfl, rfl, by decide +kernel, rfl, by decide +kernel, by decide +kernel⟩
theorem sc_is_formula : FnScope ["net", "many", "gates", "read", "table", "ins", "wire"] ["net"] (defScope s_is_formula) := ⟨rfl, rfl, rfl, by decide +kernel, rfl, by decide +kernel, by decide +kernel⟩
theorem sc_shown : FnScope ["net", "change", "wire", "words", "first", "last", "fro"] ["net", "change", "wire"] (defScope s_shown) := ⟨rfl, rfl, rfl, by decide +kernel, rfl, by decide +kernel, by decide +kernel⟩
theorem sc_delays_by : FnScope ["net", "words", "wire", "pair", "gates", "options", "delays", "gate", "place", "read_pair", "table", "ins", "part", "read"] ["net", "words", "wire", "pair"] (defScope s_delays_by) := ⟨rfl, rfl, rfl, by decide +kernel, rfl, by decide +kernel, by decide +kernel⟩
theorem sc_input_delay : FnScope ["word", "pair", "worth"] ["word", "pair"] (defScope s_input_delay) := ⟨rfl, rfl, rfl, by decide +kernel, rfl, by decide +kernel, by decide +kernel⟩
theorem sc_deck : FnScope ["_law_script", "_law_cells", "_law_k", "_law_cell"] ["_law_script"] (defScope s_deck) := ⟨rfl, rfl, rfl, by decide +kernel, rfl, by decide +kernel, by decide +kernel⟩
theorem sc_draw : FnScope ["_law_deck_here", "_law_most", "_law_cell", "_law_number"] ["_law_deck_here", "_law_most"] (defScope s_draw) := ⟨rfl, rfl, rfl, by decide +kernel, rfl, by decide +kernel, by decide +kernel⟩
theorem sc_table : FnScope ["_law_deck_here", "_law_ins", "_law_way", "_law_some", "_law_k"] ["_law_deck_here", "_law_ins"] (defScope s_table) := ⟨rfl, rfl, rfl, by decide +kernel, rfl, by decide +kernel, by decide +kernel⟩
theorem sc_formula : FnScope ["_law_deck_here", "_law_many", "_law_count", "_law_gates", "_law_free", "_law_k", "_law_ins", "_law_place", "_law_way"] ["_law_deck_here", "_law_many", "_law_count"] (defScope s_formula) := ⟨rfl, rfl, rfl, by decide +kernel, rfl, by decide +kernel, by decide +kernel⟩
theorem sc_chain : FnScope ["_law_deck_here", "_law_many", "_law_count", "_law_gates", "_law_k", "_law_ins", "_law_place"] ["_law_deck_here", "_law_many", "_law_count"] (defScope s_chain) := ⟨rfl, rfl, rfl, by decide +kernel, rfl, by decide +kernel, by decide +kernel⟩
theorem sc_shared : FnScope ["_law_deck_here", "_law_many", "_law_count", "_law_gates", "_law_k", "_law_ins", "_law_place", "_law_way"] ["_law_deck_here", "_law_many", "_law_count"] (defScope s_shared) := ⟨rfl, rfl, rfl, by decide +kernel, rfl, by decide +kernel, by decide +kernel⟩
theorem sc_change : FnScope ["_law_deck_here", "_law_many", "_law_way", "_law_one", "_law_other", "_law_at", "_law_k", "_law_worth_here"] ["_law_deck_here", "_law_many"] (defScope s_change) := ⟨rfl, rfl, rfl, by decide +kernel, rfl, by decide +kernel, by decide +kernel⟩
theorem sc_worth : FnScope ["_law_table_here", "_law_worths", "_law_number", "_law_worth_here"] ["_law_table_here", "_law_worths"] (defScope s_worth) := ⟨rfl, rfl, rfl, by decide +kernel, rfl, by decide +kernel, by decide +kernel⟩
theorem sc_may : FnScope ["_law_word_here", "_law_pair", "_law_old", "_law_new", "_law_fro"] ["_law_word_here", "_law_pair"] (defScope s_may) := ⟨rfl, rfl, rfl, by decide +kernel, rfl, by decide +kernel, by decide +kernel⟩
theorem sc_word : FnScope ["_law_table_here", "_law_words_here", "_law_first", "_law_last", "_law_fro", "_law_code", "_law_rest", "_law_pairs", "_law_word_here", "_law_pair", "_law_one", "_law_other"] ["_law_table_here", "_law_words_here"] (defScope s_word) := ⟨rfl, rfl, rfl, by decide +kernel, rfl, by decide +kernel, by decide +kernel⟩
theorem sc_words : FnScope ["_law_net", "_law_change_here", "_law_found", "_law_table_here", "_law_ins", "_law_one", "_law_other", "_law_wire"] ["_law_net", "_law_change_here"] (defScope s_words) := ⟨rfl, rfl, rfl, by decide +kernel, rfl, by decide +kernel, by decide +kernel⟩
theorem sc_twice : FnScope ["_law_deck_here", "_law_net", "_law_way", "_law_many", "_law_gates", "_law_at", "_law_wire", "_law_later", "_law_found"] ["_law_deck_here", "_law_net"] (defScope s_twice) := ⟨rfl, rfl, rfl, by decide +kernel, rfl, by decide +kernel, by decide +kernel⟩
theorem sc_refused : FnScope ["_law_net", "_law_change_here", "_law_wire", "_law_caught", "e"] ["_law_net", "_law_change_here", "_law_wire"] (defScope s_refused) := ⟨rfl, rfl, rfl, by decide +kernel, rfl, by decide +kernel, by decide +kernel⟩
theorem sc_law : FnScope ["_law_script", "_law_deck_here", "_law_turn", "_law_count", "_law_many", "_law_plain", "_law_net", "_law_change_here", "_law_words_here", "_law_ahead", "_law_wire"] ["_law_script"] (defScope s_law) := ⟨rfl, rfl, rfl, by decide +kernel, rfl, by decide +kernel, by decide +kernel⟩
structure Tx (K : PySem.W.Frag) (mg : Str → Option Value) where
  f_is_whole : Addr
  fd_is_whole : FuncData
  F_is_whole : Fun K "is_whole" "is_whole" s_is_whole f_is_whole fd_is_whole
  g_is_whole : mg "is_whole" = some (.ref f_is_whole)
  b_is_whole : Binds K fd_is_whole ["thing"] []
  f_is_signs : Addr
  fd_is_signs : FuncData
  F_is_signs : Fun K "is_signs" "is_signs" s_is_signs f_is_signs fd_is_signs
  g_is_signs : mg "is_signs" = some (.ref f_is_signs)
  b_is_signs : Binds K fd_is_signs ["many", "thing"] []
  c_is_signs : Addr
  P_is_signs : Addr
  cd_is_signs : fd_is_signs.code = .ref c_is_signs
  f_no_delays : Addr
  fd_no_delays : FuncData
  F_no_delays : Fun K "no_delays" "no_delays" s_no_delays f_no_delays fd_no_delays
  g_no_delays : mg "no_delays" = some (.ref f_no_delays)
  b_no_delays : Binds K fd_no_delays ["net"] []
  c_no_delays : Addr
  P_no_delays : Addr
  cd_no_delays : fd_no_delays.code = .ref c_no_delays
  f_is_net : Addr
  fd_is_net : FuncData
  F_is_net : Fun K "is_net" "is_net" s_is_net f_is_net fd_is_net
  g_is_net : mg "is_net" = some (.ref f_is_net)
  b_is_net : Binds K fd_is_net ["thing"] []
  c_is_net : Addr
  P_is_net : Addr
  cd_is_net : fd_is_net.code = .ref c_is_net
  f_is_gate : Addr
  fd_is_gate : FuncData
  F_is_gate : Fun K "is_gate" "is_gate" s_is_gate f_is_gate fd_is_gate
  g_is_gate : mg "is_gate" = some (.ref f_is_gate)
  b_is_gate : Binds K fd_is_gate ["wires", "thing"] []
  c_is_gate : Addr
  P_is_gate : Addr
  cd_is_gate : fd_is_gate.code = .ref c_is_gate
  f_choices_of : Addr
  fd_choices_of : FuncData
  F_choices_of : Fun K "choices_of" "choices_of" s_choices_of f_choices_of fd_choices_of
  g_choices_of : mg "choices_of" = some (.ref f_choices_of)
  b_choices_of : Binds K fd_choices_of ["lists"] []
  f_table_worth : Addr
  fd_table_worth : FuncData
  F_table_worth : Fun K "table_worth" "table_worth" s_table_worth f_table_worth fd_table_worth
  g_table_worth : mg "table_worth" = some (.ref f_table_worth)
  b_table_worth : Binds K fd_table_worth ["table", "worths"] []
  f_pairs_of : Addr
  fd_pairs_of : FuncData
  F_pairs_of : Fun K "pairs_of" "pairs_of" s_pairs_of f_pairs_of fd_pairs_of
  g_pairs_of : mg "pairs_of" = some (.ref f_pairs_of)
  b_pairs_of : Binds K fd_pairs_of ["word"] []
  f_gate_word : Addr
  fd_gate_word : FuncData
  F_gate_word : Fun K "gate_word" "gate_word" s_gate_word f_gate_word fd_gate_word
  g_gate_word : mg "gate_word" = some (.ref f_gate_word)
  b_gate_word : Binds K fd_gate_word ["table", "words"] []
  f_goes_fro : Addr
  fd_goes_fro : FuncData
  F_goes_fro : Fun K "goes_fro" "goes_fro" s_goes_fro f_goes_fro fd_goes_fro
  g_goes_fro : mg "goes_fro" = some (.ref f_goes_fro)
  b_goes_fro : Binds K fd_goes_fro ["table", "words", "first", "last"] []
  f_pair_by : Addr
  fd_pair_by : FuncData
  F_pair_by : Fun K "pair_by" "pair_by" s_pair_by f_pair_by fd_pair_by
  g_pair_by : mg "pair_by" = some (.ref f_pair_by)
  b_pair_by : Binds K fd_pair_by ["table", "pairs"] []
  f_pairs_for : Addr
  fd_pairs_for : FuncData
  F_pairs_for : Fun K "pairs_for" "pairs_for" s_pairs_for f_pairs_for fd_pairs_for
  g_pairs_for : mg "pairs_for" = some (.ref f_pairs_for)
  b_pairs_for : Binds K fd_pairs_for ["table", "options", "wanted"] []
  f_pairs_read : Addr
  fd_pairs_read : FuncData
  F_pairs_read : Fun K "pairs_read" "pairs_read" s_pairs_read f_pairs_read fd_pairs_read
  g_pairs_read : mg "pairs_read" = some (.ref f_pairs_read)
  b_pairs_read : Binds K fd_pairs_read ["net", "options", "wire", "wanted"] []
  f_words_of : Addr
  fd_words_of : FuncData
  F_words_of : Fun K "words_of" "words_of" s_words_of f_words_of fd_words_of
  g_words_of : mg "words_of" = some (.ref f_words_of)
  b_words_of : Binds K fd_words_of ["net", "change"] []
  c_words_of : Addr
  P_words_of : Addr
  cd_words_of : fd_words_of.code = .ref c_words_of
  f_is_formula : Addr
  fd_is_formula : FuncData
  F_is_formula : Fun K "is_formula" "is_formula" s_is_formula f_is_formula fd_is_formula
  g_is_formula : mg "is_formula" = some (.ref f_is_formula)
  b_is_formula : Binds K fd_is_formula ["net"] []
  f_shown : Addr
  fd_shown : FuncData
  F_shown : Fun K "shown" "shown" s_shown f_shown fd_shown
  g_shown : mg "shown" = some (.ref f_shown)
  b_shown : Binds K fd_shown ["net", "change", "wire"] []
  f_delays_by : Addr
  fd_delays_by : FuncData
  F_delays_by : Fun K "delays_by" "delays_by" s_delays_by f_delays_by fd_delays_by
  g_delays_by : mg "delays_by" = some (.ref f_delays_by)
  b_delays_by : Binds K fd_delays_by ["net", "words", "wire", "pair"] []
  c_delays_by : Addr
  P_delays_by : Addr
  cd_delays_by : fd_delays_by.code = .ref c_delays_by
  f_input_delay : Addr
  fd_input_delay : FuncData
  F_input_delay : Fun K "input_delay" "input_delay" s_input_delay f_input_delay fd_input_delay
  g_input_delay : mg "input_delay" = some (.ref f_input_delay)
  b_input_delay : Binds K fd_input_delay ["word", "pair"] []
  c_input_delay : Addr
  P_input_delay : Addr
  cd_input_delay : fd_input_delay.code = .ref c_input_delay
  f_deck : Addr
  fd_deck : FuncData
  F_deck : Fun K "_law_deck" "_law_deck" s_deck f_deck fd_deck
  g_deck : mg "_law_deck" = some (.ref f_deck)
  b_deck : Binds K fd_deck ["_law_script"] []
  f_draw : Addr
  fd_draw : FuncData
  F_draw : Fun K "_law_draw" "_law_draw" s_draw f_draw fd_draw
  g_draw : mg "_law_draw" = some (.ref f_draw)
  b_draw : Binds K fd_draw ["_law_deck_here", "_law_most"] []
  f_table : Addr
  fd_table : FuncData
  F_table : Fun K "_law_table" "_law_table" s_table f_table fd_table
  g_table : mg "_law_table" = some (.ref f_table)
  b_table : Binds K fd_table ["_law_deck_here", "_law_ins"] []
  f_formula : Addr
  fd_formula : FuncData
  F_formula : Fun K "_law_formula" "_law_formula" s_formula f_formula fd_formula
  g_formula : mg "_law_formula" = some (.ref f_formula)
  b_formula : Binds K fd_formula ["_law_deck_here", "_law_many", "_law_count"] []
  f_chain : Addr
  fd_chain : FuncData
  F_chain : Fun K "_law_chain" "_law_chain" s_chain f_chain fd_chain
  g_chain : mg "_law_chain" = some (.ref f_chain)
  b_chain : Binds K fd_chain ["_law_deck_here", "_law_many", "_law_count"] []
  f_shared : Addr
  fd_shared : FuncData
  F_shared : Fun K "_law_shared" "_law_shared" s_shared f_shared fd_shared
  g_shared : mg "_law_shared" = some (.ref f_shared)
  b_shared : Binds K fd_shared ["_law_deck_here", "_law_many", "_law_count"] []
  f_change : Addr
  fd_change : FuncData
  F_change : Fun K "_law_change" "_law_change" s_change f_change fd_change
  g_change : mg "_law_change" = some (.ref f_change)
  b_change : Binds K fd_change ["_law_deck_here", "_law_many"] []
  f_worth : Addr
  fd_worth : FuncData
  F_worth : Fun K "_law_worth" "_law_worth" s_worth f_worth fd_worth
  g_worth : mg "_law_worth" = some (.ref f_worth)
  b_worth : Binds K fd_worth ["_law_table_here", "_law_worths"] []
  f_may : Addr
  fd_may : FuncData
  F_may : Fun K "_law_may" "_law_may" s_may f_may fd_may
  g_may : mg "_law_may" = some (.ref f_may)
  b_may : Binds K fd_may ["_law_word_here", "_law_pair"] []
  f_word : Addr
  fd_word : FuncData
  F_word : Fun K "_law_word" "_law_word" s_word f_word fd_word
  g_word : mg "_law_word" = some (.ref f_word)
  b_word : Binds K fd_word ["_law_table_here", "_law_words_here"] []
  f_words : Addr
  fd_words : FuncData
  F_words : Fun K "_law_words" "_law_words" s_words f_words fd_words
  g_words : mg "_law_words" = some (.ref f_words)
  b_words : Binds K fd_words ["_law_net", "_law_change_here"] []
  f_twice : Addr
  fd_twice : FuncData
  F_twice : Fun K "_law_twice" "_law_twice" s_twice f_twice fd_twice
  g_twice : mg "_law_twice" = some (.ref f_twice)
  b_twice : Binds K fd_twice ["_law_deck_here", "_law_net"] []
  f_refused : Addr
  fd_refused : FuncData
  F_refused : Fun K "_law_refused" "_law_refused" s_refused f_refused fd_refused
  g_refused : mg "_law_refused" = some (.ref f_refused)
  b_refused : Binds K fd_refused ["_law_net", "_law_change_here", "_law_wire"] []
  f_law : Addr
  fd_law : FuncData
  F_law : Fun K "law" "law" s_law f_law fd_law
  g_law : mg "law" = some (.ref f_law)
  b_law : Binds K fd_law ["_law_script"] []
  m_ValueError : mg "ValueError" = none
  m_all : mg "all" = none
  m_bool : mg "bool" = none
  m_enumerate : mg "enumerate" = none
  m_int : mg "int" = none
  m_isinstance : mg "isinstance" = none
  m_len : mg "len" = none
  m_list : mg "list" = none
  m_max : mg "max" = none
  m_range : mg "range" = none
  m_set : mg "set" = none
  m_sorted : mg "sorted" = none
  m_str : mg "str" = none
  m_sum : mg "sum" = none
  m_tuple : mg "tuple" = none
  m_zip : mg "zip" = none
  k_MOST_INPUTS : ∃ t, mg "MOST_INPUTS" = some (.int 6 t)
  k_MOST_INS : ∃ t, mg "MOST_INS" = some (.int 3 t)
  C_NetError : Addr
  gC_NetError : mg "NetError" = some (.ref C_NetError)
  C_NoText : Addr
  gC_NoText : mg "NoText" = some (.ref C_NoText)
  C_TooMany : Addr
  gC_TooMany : mg "TooMany" = some (.ref C_TooMany)
  C_NotFormula : Addr
  gC_NotFormula : mg "NotFormula" = some (.ref C_NotFormula)
  C_NoTurn : Addr
  gC_NoTurn : mg "NoTurn" = some (.ref C_NoTurn)
  C_NoForms : Addr
  gC_NoForms : mg "NoForms" = some (.ref C_NoForms)
  C_NoRow : Addr
  gC_NoRow : mg "NoRow" = some (.ref C_NoRow)
  q_NotFormula : PySem.W.excIn K C_NotFormula He.veBase "ValueError.__new__" = true
  kC_NotFormula : PySem.W.keepIn K (.ref C_NotFormula) = true
  su_NotFormula : PySem.W.subIn K (.ref C_NotFormula) (.type "BaseException") = some true
  ty_NotFormula : PySem.W.typeIn K (.ref C_NotFormula) = some (.type "type")
  X_NotFormula : ExcC K C_NotFormula
  v_NotFormula : PySem.W.kitOne K (.ref C_NotFormula) (.type "ValueError") = some true
  t_NotFormula_NetError : PySem.W.kitOne K (.ref C_NotFormula) (.ref C_NetError) = some true
  x_NotFormula_NetError : PySem.W.exmOne K (.ref C_NotFormula) (.ref C_NetError) = some true
  t_NotFormula_NoText : PySem.W.kitOne K (.ref C_NotFormula) (.ref C_NoText) = some false
  x_NotFormula_NoText : PySem.W.exmOne K (.ref C_NotFormula) (.ref C_NoText) = some false
  t_NotFormula_TooMany : PySem.W.kitOne K (.ref C_NotFormula) (.ref C_TooMany) = some false
  x_NotFormula_TooMany : PySem.W.exmOne K (.ref C_NotFormula) (.ref C_TooMany) = some false
  t_NotFormula_NotFormula : PySem.W.kitOne K (.ref C_NotFormula) (.ref C_NotFormula) = some true
  x_NotFormula_NotFormula : PySem.W.exmOne K (.ref C_NotFormula) (.ref C_NotFormula) = some true
  t_NotFormula_NoTurn : PySem.W.kitOne K (.ref C_NotFormula) (.ref C_NoTurn) = some false
  x_NotFormula_NoTurn : PySem.W.exmOne K (.ref C_NotFormula) (.ref C_NoTurn) = some false
  t_NotFormula_NoForms : PySem.W.kitOne K (.ref C_NotFormula) (.ref C_NoForms) = some false
  x_NotFormula_NoForms : PySem.W.exmOne K (.ref C_NotFormula) (.ref C_NoForms) = some false
  t_NotFormula_NoRow : PySem.W.kitOne K (.ref C_NotFormula) (.ref C_NoRow) = some false
  x_NotFormula_NoRow : PySem.W.exmOne K (.ref C_NotFormula) (.ref C_NoRow) = some false
structure Tb (base : Heap) {K : PySem.W.Frag} {mg : Str → Option Value} (T : Tx K mg) : Prop where
  TB_is_signs : GxR.TabB base mg T.c_is_signs T.P_is_signs
  TB_no_delays : GxR.TabB base mg T.c_no_delays T.P_no_delays
  TB_is_net : GxR.TabB base mg T.c_is_net T.P_is_net
  TB_is_gate : GxR.TabB base mg T.c_is_gate T.P_is_gate
  TB_words_of : GxR.TabB base mg T.c_words_of T.P_words_of
  TB_delays_by : GxR.TabB base mg T.c_delays_by T.P_delays_by
  TB_input_delay : GxR.TabB base mg T.c_input_delay T.P_input_delay
def Tx.tabs {K : PySem.W.Frag} {mg : Str → Option Value} (T : Tx K mg) : List Addr := [T.P_is_signs, T.P_no_delays, T.P_is_net, T.P_is_gate, T.P_words_of, T.P_delays_by, T.P_input_delay]
/-! ### generator expressions whose elements may call -/
theorem inv_moved {X : Cx} {cp : List (Addr × Obj)} {σ : L2.St} {H : Hp} {s s' : Shared} (I : Inv X cp σ H s) (os : s'.os = s.os) (bare : AllBare s'.gens) (k : ∀ b o, s.heap.get? b = some o → s'.heap.get? b = some o) : Inv X cp σ H s' :=
  I.call' (ch := []) os (Un.kept k) (I.hok.kept k) bare fun b hb => absurd hb (by simp)
/-- the context of a generator expression's frame: C its frame, s, H the entry, fp its iterator's objects -/
abbrev gblk (X : Cx) (A : Around) (s : Shared) (H : Hp) (cenv : Env) (fp : List Addr) : Cx :=
  { X with A := A, s_0 := s, H_0 := H, env := cenv, outer := X.stack, stack := cenv :: X.stack, ex := fp, fn := fun _ => false, pn := [], xe := fun _ _ => False }
section
variable {X : Cx} {pins : List (Addr × Obj)} {σ : L2.St} {H : Hp} {s : Shared}
theorem gen_start {scope : Scope} {own : List (Str × Nat)} {fp : List Addr} {A : Around} {code it : Value} {s5 : Shared} {cp : List (Addr × Obj)}
    (I : Inv X pins σ H s) (ok : BlkOk X.N X.env.scope scope own) (nocell : ∀ y ∈ scope.names, y.2 ≠ .cell) (hN : X.N.Nodup) (hfp : ∀ b ∈ fp, FpOk X pins H b ∧ b < s.heap.objs.size)
    (hh : A.handled = none) (hfr : A.frames = some (genEnv scope (cloFrom X.env.cells scope.names []) s.heap.objs.size code builtinsNs X.env :: X.stack))
    (os : s5.os = s.os) (bare : AllBare s5.gens) (kp : ∀ b o, s.heap.get? b = some o → s5.heap.get? b = some o)
    (hns : s5.heap.Ns s.heap.objs.size fun y => if y = ".0" then some it else none)
    (hcp : ∀ p ∈ cp, s.heap.objs.size < p.1 ∧ s5.heap.get? p.1 = some p.2 ∧ ∀ v, p.2.data ≠ .cell v) :
    Inv (gblk X A s H (genEnv scope (cloFrom X.env.cells scope.names []) s.heap.objs.size code builtinsNs X.env) fp) cp (wipe σ (own.map (·.2))) H s5 := by
  have hfree : ∀ y ∈ scope.names, y.2 = .free → ∃ c, X.env.cells.lookup y.1 = some c := fun y hy e => by
    rcases ok.free y hy e with k | k
    · exact I.ok.has _ (.inl k)
    · exact I.ok.has _ (.inr k)
  generalize hcenv : genEnv scope (cloFrom X.env.cells scope.names []) s.heap.objs.size code builtinsNs X.env = cenv at hfr ⊢
  have hL : cenv.locals = s.heap.objs.size := by rw [← hcenv]; rfl
  have hcl : cenv.cells = cloFrom X.env.cells scope.names [] := by rw [← hcenv]; rfl
  have hsc : cenv.scope = scope := by rw [← hcenv]; rfl
  have cm : ∀ {y c}, (y, c) ∈ cloFrom X.env.cells scope.names [] → X.env.cells.lookup y = some c ∧ c < s.heap.objs.size := fun {y c} hm => by
    rcases cloFrom_mem hm with hm | ⟨h1, rfl⟩
    · cases hm
    · obtain ⟨c, hc⟩ := hfree _ h1 rfl
      rw [hc]
      obtain ⟨w, z⟩ := I.cell _ _ hc
      exact ⟨rfl, z.lt⟩
  have mem : ∀ {y c}, cenv.cells.lookup y = some c → X.env.cells.lookup y = some c ∧ c < s.heap.objs.size := fun {y c} e => by
    rw [hcl] at e
    exact cm (PySem.mem_of_lookup e)
  have look : ∀ {y}, scope.names.lookup y = some .free → ∃ c, cenv.cells.lookup y = some c ∧ X.env.cells.lookup y = some c := fun {y} hl => by
    have hy : (y, NameKind.free) ∈ scope.names := PySem.mem_of_lookup hl
    obtain ⟨c', e'⟩ := mem_lookup (cloFrom_has (cells := X.env.cells) (acc := []) hy)
    rw [← hcl] at e'
    exact ⟨c', e', (mem e').1⟩
  have okB : (gblk X A s H cenv fp).Ok := by
    refine ⟨I.ok.mod, by show cenv.scope.kind = _; rw [hsc]; exact ok.kind, by show cenv.globals = _; rw [← hcenv]; exact I.ok.glob, by show cenv.builtins = _; rw [← hcenv]; rfl, by show s.heap.objs.size ≤ cenv.locals; rw [hL]; exact Nat.le_refl _,
      fun y z c e1 e2 => I.ok.inj y z c (mem e1).1 (mem e2).1, fun y hy => ?_, fun y c z e => (by cases z), fun _ => hh, hfr, .inr ⟨rfl, by show cenv.frame = some cenv.locals; rw [← hcenv]; rfl⟩, fun b hb => ⟨?_, fun y c e z => ?_⟩, I.bs, Nat.le_trans I.ok.bsz I.sz, fun b o e hb => ?_, fun b hb z => ?_, I.stack, I.stkFree⟩
    · have hy' : scope.names.lookup y = some .cell ∨ scope.names.lookup y = some .free := by
        rw [← hsc]
        exact hy
      rcases hy' with e | e
      · exact absurd rfl (nocell _ (PySem.mem_of_lookup e))
      · obtain ⟨c, h1, _⟩ := look e
        exact ⟨c, h1⟩
    · show b ≠ cenv.locals
      rw [hL]; exact Nat.ne_of_lt (hfp b hb).2
    · exact (hfp b hb).1.2.2.2.2.1 y c (mem e).1 z
    · rcases (hfp b hb).1.2.2.2.1 with z | z
      · exact I.ok.noex b o e z
      · exact absurd (Nat.lt_of_lt_of_le (Heap.lt_size e) (Nat.le_trans I.ok.bsz z)) (Nat.lt_irrefl _)
    · rcases List.mem_cons.mp (I.stkSub b z) with z | z
      · exact (hfp b hb).1.2.1 z
      · exact (hfp b hb).1.2.2.1 z
  refine ⟨okB, os, bare, Un.kept kp, ⟨_, (by show s5.heap.Ns cenv.locals _; rw [hL]; exact hns), fun i y av e1 e2 e3 => ?_⟩, fun y c e => ?_, ?_, fun y c e => I.freeC y c (mem e).1, fun p hp => ?_, I.hok.kept kp, by rw [wipe_length]; exact I.len⟩
  · obtain ⟨e2, hne⟩ := wipe_some e2
    have e3 : Vis scope y := by rw [← hsc]; exact e3
    have no : ∀ k, scope.names.lookup y = some k → ¬ (k = .local ∨ k = .cell) := fun k e hh => by
      rcases ok.own _ (PySem.mem_of_lookup e) hh with e' | e'
      · obtain ⟨p, hp, hpy⟩ := List.mem_map.mp e'
        have e3 := ok.ix p hp
        have : p.1 = y := hpy
        rw [this] at e3
        exact hne (List.mem_map.mpr ⟨p, hp, nodup_ix hN e3 e1⟩)
      · exact e' (List.mem_of_getElem? e1)
    have hfr2 : scope.names.lookup y = some .free := by
      rcases e3 with e | e | e
      · exact absurd (.inl rfl) (no _ e)
      · exact absurd (.inr rfl) (no _ e)
      · exact e
    obtain ⟨m, hn, hl⟩ := I.loc
    have hvis : Vis X.env.scope y := (ok.free _ (PySem.mem_of_lookup hfr2) rfl).elim (fun k => .inr (.inl k)) (fun k => .inr (.inr k))
    obtain ⟨w, r, q⟩ := hl i y av e1 e2 hvis
    refine ⟨w, r, .inr ⟨.inr (by show cenv.scope.names.lookup y = some .free; rw [hsc]; exact hfr2), ?_⟩⟩
    obtain ⟨c, h1, h2⟩ := look hfr2
    rcases q with ⟨k, _⟩ | ⟨_, c', e', z⟩
    · have k : X.env.scope.names.lookup y = some .local := k
      rcases ok.free _ (PySem.mem_of_lookup hfr2) rfl with k' | k' <;> rw [show X.env.scope.names.lookup y = _ from k'] at k <;> cases k
    · rw [h2] at e'; cases e'
      exact ⟨c, h1, z.keeps kp⟩
  · obtain ⟨w, z⟩ := I.cell y c (mem e).1
    exact ⟨w, z.keeps kp⟩
  · show H cenv.locals = none
    rw [hL]; exact I.hok.fresh (Nat.le_refl _)
  · have hp : p ∈ cp := by simpa using hp
    obtain ⟨h1, h2, h3⟩ := hcp p hp
    refine ⟨h2, I.hok.fresh (Nat.le_of_lt h1), by show p.1 ≠ cenv.locals; rw [hL]; exact Nat.ne_of_gt h1, fun z => ?_, h3⟩
    rcases List.mem_cons.mp (I.stkSub _ z) with z | z
    · exact absurd (Nat.lt_trans I.lt h1) (by rw [z]; exact Nat.lt_irrefl _)
    · exact I.nofs (Nat.le_of_lt h1) z
end
/-! ### the talk of a generator and who asks it -/
section
variable {α : Type}
/-- handed out: x; the asker's state a (laid down in the pins cp) goes to one with Nx -/
def YG (Xg : Cx) (fp : List Addr) (tn : Nat → Heap → Prop) (AC : α → List (Addr × Obj) → Prop) (Yd : α → V → Hp → (α → Hp → Prop) → Prop) : Protocol := fun _ s0 v s kap =>
  ∃ (a : α) (x : V) (σ : L2.St) (H : Hp) (i : Nat) (cp : List (Addr × Obj)) (Nx : α → Hp → Prop), RelV x v ∧ AC a cp ∧ (∀ p ∈ cp, s0.heap.get? p.1 = some p.2) ∧ Inv Xg cp σ H s ∧ tn i s.heap ∧ (∀ b ∈ fp, H b = none) ∧ Yd a x H Nx ∧
    ∀ a' cp' s', Nx a' H → AC a' cp' → Inv Xg cp' σ H s' → tn i s'.heap → kap (.send .none) s'
def RG (Xg : Cx) (AC : α → List (Addr × Obj) → Prop) (End : α → Hp → Prop) : GenEnd := fun _ s0 r s =>
  ((r = .ok (.ret .none) ∨ r = .ok .next) ∧ ∃ (a : α) (σ : L2.St) (H : Hp) (cp : List (Addr × Obj)), AC a cp ∧ (∀ p ∈ cp, s0.heap.get? p.1 = some p.2) ∧ Inv Xg cp σ H s ∧ End a H) ∨ ∃ e, r = .error e ∧ False
/-- a generator's turns -/
def tGx (J : It) (g : TG) (tt : TT) (te : TE) (σ0 : L2.St) (vs : List Nat) (End : α → Hp → Prop) (Yd : α → V → Hp → (α → Hp → Prop) → Prop) (W : Nat → Nat → α → Hp → Prop) : Prop :=
  ∀ i m a H, W i m a H → (J.stop i H ∧ End a H) ∨ (J.go i H ∧ ∃ Nx : α → Hp → Prop, (∀ a' H', Nx a' H' → ∃ m', m' < m ∧ W (i + 1) m' a' H') ∧
    ∀ x H', J.yld i H x H' → g x σ0 H' fun σ2 H2 => wipe σ2 vs = σ0 ∧ tt σ2 H2 fun b H3 => if b = true then te σ2 H3 fun y H4 => Yd a y H4 Nx else Nx a H3)
theorem wipe_wipe_some {σ σ2 : L2.St} {vs : List Nat} (h : wipe σ2 vs = σ) : ∀ (j : Nat) v, σ[j]? = some (some v) → σ2[j]? = some (some v) := fun j v e => by
  rw [← h] at e
  exact (wipe_some e).1
theorem seg_gx {X : Cx} {A A' : Around} {s_0 : Shared} {H_0 : Hp} {elt tg iter : Expr} {ifs : List Expr} {scope : Scope} {pos : Pos} {it : Addr} {fp : List Addr} {tn : Nat → Heap → Prop} {J : It} {cenv : Env} {g : TG} {tt : TT} {te : TE} {σ0 : L2.St} {vs : List Nat}
    {AC : α → List (Addr × Obj) → Prop} {End : α → Hp → Prop} {Yd : α → V → Hp → (α → Hp → Prop) → Prop} {W : Nat → Nat → α → Hp → Prop}
    (hA : A.over (.compLoop (.GeneratorExp elt [⟨tg, iter, ifs, 0⟩] scope pos) 0 (.ref it) .none cenv) [] = A') (hc : X.calm = true) (hco : cenv.scope.isCoroutine = false)
    (T : Turn X.prog X.w X.K tg J fp it tn) (pg : PG (gblk X A' s_0 H_0 cenv fp) tg g) (pt : PTs (gblk X A' s_0 H_0 cenv fp) ifs tt) (pe : PE (gblk X A' s_0 H_0 cenv fp) elt te)
    (hAC : ∀ a cp, AC a cp → ∀ p ∈ cp, ∀ b ∈ fp, p.1 ≠ b) (turn : tGx J g tt te σ0 vs End Yd W) :
    ∀ (m n i : Nat) (a : α) (H : Hp) (s₀ s : Shared) (cp : List (Addr × Obj)), m < n → W i m a H → AC a cp → (∀ p ∈ cp, s₀.heap.get? p.1 = some p.2) → Inv (gblk X A' s_0 H_0 cenv fp) cp σ0 H s → tn i s.heap → (∀ b ∈ fp, H b = none) →
      Seg (model X.prog X.w) A (RG (gblk X A' s_0 H_0 cenv fp) AC End) (YG (gblk X A' s_0 H_0 cenv fp) fp tn AC Yd) n s₀
        (.compLoop (.GeneratorExp elt [⟨tg, iter, ifs, 0⟩] scope pos) 0 (.ref it) .none cenv)
        ((model X.prog X.w).den (.compLoop (.GeneratorExp elt [⟨tg, iter, ifs, 0⟩] scope pos) 0 (.ref it) .none cenv)) [] s := by
  have stat : ∀ {a : α} {cp : List (Addr × Obj)} {σ' : L2.St} {H' : Hp} {s' : Shared}, AC a cp → Inv (gblk X A' s_0 H_0 cenv fp) cp σ' H' s' → (∀ b ∈ fp, H' b = none) → ∀ b ∈ fp, FpOk (gblk X A' s_0 H_0 cenv fp) cp H' b := fun {a cp σ' H' s'} hac I' hn b hb =>
    ⟨hn b hb, (I'.ok.exf b hb).1, I'.ok.exfs b hb, .inl hb, fun x c e => (I'.ok.exf b hb).2 x c e, fun p hp => hAC a cp hac p (by simpa using hp) b hb⟩
  intro m
  induction m using Nat.strongRecOn with
  | ind m ih =>
    intro n i a H s₀ s cp hmn w hac tie I st nf
    show Seg _ A _ _ _ s₀ _ ((compTurn (.GeneratorExp elt [⟨tg, iter, ifs, 0⟩] scope pos) 0 (.ref it) .none cenv).onRaise (leaving cenv)) [] s
    rw [compTurn_gen, Sem.onRaise_eq_wrap]
    refine seg_bind_wrap (wpAny_standAt ?_)
    rcases turn i m a H w with ⟨stop, hend⟩ | ⟨go, Nx, hNx, step⟩
    · refine seg_bind_wrap ?_
      rw [hA]
      refine thnF (T.done (gblk X A' s_0 H_0 cenv fp) rfl rfl rfl hc i cp s σ0 H (fun _ _ => False) I (stat hac I nf) st stop) fun r s1 ⟨hr, I1⟩ => ?_
      subst hr
      exact seg_end (.ok .next) (.inl ⟨.inr rfl, a, _, H, cp, hac, tie, I1, hend⟩)
    · refine seg_bind_wrap ?_
      rw [hA]
      refine thnF (T.item (gblk X A' s_0 H_0 cenv fp) rfl rfl rfl hc i cp s σ0 H (fun _ _ => False) I (stat hac I nf) st go) fun r s1 ⟨u, hr, h1⟩ => ?_
      subst hr
      refine seg_bind_wrap ?_
      rw [hA]
      refine thnF h1 fun _ s2 ⟨x, H2, I2, r2, y2, st2, n2⟩ => ?_
      have I2' := I2.pinned (stat hac I2 n2) (T.obj _ _ st2)
      refine seg_bind_wrap ?_
      rw [hA]
      refine thnF (pg.run _ s2 _ H2 x u _ I2' r2 (step x H2 y2)) fun _ s3 ⟨σ3, H3, I3, hw3, q3⟩ => ?_
      refine seg_bind_wrap ?_
      rw [hA]
      refine thnF (pt.run _ s3 σ3 H3 _ I3 q3) fun b s4 ⟨H4, I4, q4⟩ => ?_
      have hl : σ0.length = σ3.length := by rw [← hw3, wipe_length]
      have fin : ∀ {s' : Shared} {H' : Hp}, Inv (gblk X A' s_0 H_0 cenv fp) (cp ++ pinsAt fp s2.heap) σ3 H' s' → Inv (gblk X A' s_0 H_0 cenv fp) cp σ0 H' s' ∧ tn (i + 1) s'.heap ∧ ∀ b ∈ fp, H' b = none := fun {s' H'} I' => by
        have pin' : ∀ b ∈ fp, ∀ o, s2.heap.get? b = some o → s'.heap.get? b = some o ∧ H' b = none := fun b hb o e =>
          let z := I'.pin (b, o) (List.mem_append_right _ (List.mem_append_right _ (mem_pinsAt hb e)))
          ⟨z.1, z.2.1⟩
        refine ⟨(I'.unpinned (pins := cp)).weak hl (wipe_wipe_some hw3), T.keep _ _ _ st2 fun b hb o e => (pin' b hb o e).1, fun b hb => ?_⟩
        obtain ⟨o, e, _⟩ := T.obj _ _ st2 b hb
        exact (pin' b hb o e).2
      cases b with
      | false =>
        simp only [Bool.false_eq_true, if_false] at q4 ⊢
        obtain ⟨m', hm, w'⟩ := hNx a H4 q4
        obtain ⟨J1, J2, J3⟩ := fin I4
        exact seg_again rfl (ih m' hm n (i + 1) a H4 s₀ s4 cp (by omega) w' hac tie J1 J2 J3)
      | true =>
        simp only [if_true] at q4 ⊢
        have hy : ∀ v, yieldOut cenv v = yieldValue v := fun v => by simp only [yieldOut, hco, Bool.false_eq_true, if_false]
        simp only [hy]
        rw [Sem.bind_eq_wrap', Sem.bind_eq_wrap', Sem.wrap_wrap, Sem.wrap_wrap]
        refine seg_wrap ?_
        rw [hA]
        refine thnF (pe.run _ s4 σ3 H4 _ I4 q4) fun yv s5 ⟨y, H5, I5, r5, q5⟩ => ?_
        obtain ⟨J1, J2, J3⟩ := fin I5
        -- at least one more
        cases n with
        | zero => exact absurd hmn (Nat.not_lt_zero _)
        | succ n =>
          refine seg_at (seg_yield rfl rfl rfl ⟨a, y, σ0, H5, i + 1, cp, Nx, r5, hac, tie, J1, J2, J3, q5, fun a' cp' s' nx hac' I' st' => ?_⟩)
          obtain ⟨m', hm, w'⟩ := hNx a' H5 nx
          exact seg_again rfl (ih m' hm n (i + 1) a' H5 s' s' cp' (by omega) w' hac' (fun p hp => (I'.pin p (List.mem_append_right _ hp)).1) I' st' J3)
end
/-! ### a generator that is made -/
section
variable {X : Cx} {pins : List (Addr × Obj)} {σ : L2.St} {H : Hp} {s : Shared}
def GenObj (o : Obj) (g : Nat) : Prop := ∃ nm qn, o.cls = .type "generator" ∧ o.data = .fields #[.int g 0, nm, qn] ∧ o.slots = #[]
theorem GenObj.isGen {o : Obj} {g : Nat} (h : GenObj o g) {a : Addr} {hp : Heap} (e : hp.get? a = some o) : hp.IsGen a g := by
  obtain ⟨nm, qn, h1, h2, h3⟩ := h
  exact ⟨o, nm, qn, e, h1, h2, h3⟩
/-- the generator u, made and not begun, in the state s5 -/
def Gx (X : Cx) (pins : List (Addr × Obj)) (σ : L2.St) (A : Around) (J : It) (g : TG) (tt : TT) (te : TE) (vs : List Nat) (H4 : Hp) (u : Value) (s5 : Shared) : Prop :=
  ∃ (A' : Around) (s_0 : Shared) (H_0 : Hp) (cenv : Env) (fp : List Addr) (ga : Addr) (gn : Nat) (go : Obj) (tn : Nat → Heap → Prop) (gs : GenState),
    u = .ref ga ∧ GenObj go gn ∧ s5.gens[gn]? = some gs ∧ gs.bare = true ∧ Inv (gblk X A' s_0 H_0 cenv fp) [(ga, go)] (wipe σ vs) H4 s5 ∧ tn 0 s5.heap ∧ (∀ b ∈ fp, H4 b = none) ∧ (∀ b ∈ fp, b < ga) ∧
    (∀ i h h', tn i h → (∀ b ∈ fp, ∀ o, h.get? b = some o → h'.get? b = some o) → tn i h') ∧ (∀ cp σ' H' s', Inv (gblk X A' s_0 H_0 cenv fp) cp σ' H' s' → Inv X pins σ H' s') ∧
    ∀ (α : Type) (AC : α → List (Addr × Obj) → Prop) (End : α → Hp → Prop) (Yd : α → V → Hp → (α → Hp → Prop) → Prop) (W : Nat → Nat → α → Hp → Prop) (m n : Nat) (a : α) (cp : List (Addr × Obj)) (s' : Shared),
      tGx J g tt te (wipe σ vs) vs End Yd W → W 0 m a H4 → m < n → (∀ a cp, AC a cp → ∀ p ∈ cp, ∀ b ∈ fp, p.1 ≠ b) → AC a cp → Inv (gblk X A' s_0 H_0 cenv fp) cp (wipe σ vs) H4 s' → tn 0 s'.heap →
      gs.Goes (model X.prog X.w) A (RG (gblk X A' s_0 H_0 cenv fp) AC End) (YG (gblk X A' s_0 H_0 cenv fp) fp tn AC Yd) n (.send .none) s'
/-- what stands about an asker -/
structure Near (A B : Around) : Prop where
  hd : B.handled = A.handled
  fr : B.frames = A.frames
  gd : B.guards = A.guards
  dp : B.depth = A.depth
  un : B.units ≤ A.units + 8
theorem gx_make {c P : Addr} {elt tg iter : Expr} {ifs : List Expr} {gpos : Pos} {scope : Scope} {own : List (Str × Nat)} {wi : TI} {g : TG} {tt : TT} {te : TE} {k : Nat} {Q' : Value → Shared → Prop} {R : It → Hp → Prop} {A : Around}
    (hr : Room (k + 1) X.A) (near : Near X.A A) (hc : X.calm = true) (hN : X.N.Nodup) (TB : GxR.TabB X.base X.mg c P) (hcode : X.env.code = .ref c) (hco : scope.isCoroutine = false) (hdot : scope.names.lookup (".0" : Str) = some NameKind.local)
    (nocell : ∀ y ∈ scope.names, y.2 ≠ .cell) (ok : BlkOk X.N X.env.scope scope own) (hi : PI X tg iter wi)
    (hg : ∀ (A' : Around) (s : Shared) (H : Hp) (C : Addr) (cl : List (Str × Addr)) (code : Value) (fp : List Addr), Room k A' → A'.guards = X.A.guards → PG (gblk X A' s H (genEnv scope cl C code builtinsNs X.env) fp) tg g)
    (ht : ∀ (A' : Around) (s : Shared) (H : Hp) (C : Addr) (cl : List (Str × Addr)) (code : Value) (fp : List Addr), Room k A' → A'.guards = X.A.guards → PTs (gblk X A' s H (genEnv scope cl C code builtinsNs X.env) fp) ifs tt)
    (he : ∀ (A' : Around) (s : Shared) (H : Hp) (C : Addr) (cl : List (Str × Addr)) (code : Value) (fp : List Addr), Room k A' → A'.guards = X.A.guards → PE (gblk X A' s H (genEnv scope cl C code builtinsNs X.env) fp) elt te)
    (hs : ∀ v, genFold iter X.env v = pure v) (I : Inv X pins σ H s) (h : wi σ H fun J H1 => GxR.TabG H1 P ∧ R J H1)
    (hQ : ∀ J H1 H2 u s5, R J H1 → GxR.Tabbed P H1 H2 → Gx X pins σ A J g tt te (own.map (·.2)) H2 u s5 → Q' u s5) :
    wpAny (model X.prog X.w) X.A (eval (.GeneratorExp elt [⟨tg, iter, ifs, 0⟩] scope gpos) X.env) Q' X.xe s := by
  have hfree : ∀ y ∈ scope.names, y.2 = .free → ∃ c, X.env.cells.lookup y.1 = some c := fun y hy e => by
    rcases ok.free y hy e with k | k
    · exact I.ok.has _ (.inl k)
    · exact I.ok.has _ (.inr k)
  refine wpAny_GeneratorExp_make hco (closure_ok hfree) nocell hdot ok.kind (by have := hr.dp; omega) ?_ hs
  refine thn (hi.run pins s σ H _ I h) fun xv s1 hx => thn hx fun itv s2 h2 => ?_
  obtain ⟨it, fp, tn, J, H2, rfl, I2, T, st2, f2, ⟨ps, hP, ht3⟩, q⟩ := h2
  refine ⟨I2.nolimit, ?_⟩
  have hPs : s2.heap.get? P = some { cls := .none, data := .fields ps } := I2.hok P _ hP
  have cd : PySem.W.CodeHd s2.heap c P := TB.code.keeps fun b u e => I2.bk b u e
  have nP : ∀ b, H2 b = none → b ≠ P := fun b e z => by
    rw [z, hP] at e
    cases e
  have cont : ∀ (code : Value) (h3 : Heap) (tk : Nat) (ps' : Array Value), Heap.ExtBut P s2.heap h3 → s2.heap.objs.size ≤ h3.objs.size → h3.get? P = some { cls := .none, data := .fields ps' } → (∃ more, ps' = ps ++ more) → TriplesOk ps'.toList →
      wpAny (model X.prog X.w) X.A (builtinsFor X.env.globals X.env.builtins) (fun bi s₄ =>
        ∀ h', h'.Ns s₄.heap.objs.size (fun y => if y = ".0" then some (Value.ref it) else none) → Heap.SameBut s₄.heap.objs.size (s₄.heap.push { cls := .type "frame", data := .dict #[] }) h' →
          Q' (.ref h'.objs.size) { s₄ with
            gens := s₄.gens.push (.fresh (.compStart (.GeneratorExp elt [⟨tg, iter, ifs, 0⟩] scope gpos) 0 (.ref it) .none (genEnv scope (cloFrom X.env.cells scope.names []) s₄.heap.objs.size code bi X.env))),
            toks := s₄.toks + 1 + 1 + 1,
            heap := h'.push { cls := .type "generator", data := .fields #[.int s₄.gens.size 0, .str "<genexpr>" (s₄.toks + 1), .str (X.env.qual ++ "<genexpr>") (s₄.toks + 1 + 1)] } }) X.xe { s2 with heap := h3, toks := tk } := by
    rintro code h3 tk ps' hx hsz hP3 ⟨more, rfl⟩ ht4
    obtain ⟨bm, ob, e1, e2, e3, e4, e5, e6, e7, e8⟩ := TB.bm
    refine wpAny_builtinsFor (m := X.mg) (by rw [I2.ok.glob]; exact (I2.mod.glob.keeps I2.bk).extBut hx TB.gP) e1 e2 (hx _ _ e4 (I2.bk _ _ e5)) e6 e7 e8 ?_
    intro h' hns hsb
    have I3 : Inv X pins σ (upd H2 P (.tbl (ps ++ more))) { s2 with heap := h3, toks := tk } := GxR.inv_tab (g' := s2.gens) (d' := s2.drawn) I2 hP (fun b o hb e => hx b o hb e) hP3 I2.bare
    have lt2 : ∀ b ∈ fp, b < s2.heap.objs.size := fun b hb => by
      obtain ⟨o, e, _⟩ := T.obj _ _ st2 b hb
      exact Heap.lt_size e
    have f3 : ∀ b ∈ fp, FpOk X pins (upd H2 P (.tbl (ps ++ more))) b ∧ b < ({ s2 with heap := h3, toks := tk } : Shared).heap.objs.size := fun b hb => by
      refine ⟨⟨?_, (f2 b hb).2⟩, Nat.lt_of_lt_of_le (lt2 b hb) hsz⟩
      rw [upd_ne (nP b (f2 b hb).1)]
      exact (f2 b hb).1
    have st3 : tn 0 h3 := T.keep _ _ _ st2 fun b hb o e => hx b o (nP b (f2 b hb).1) e
    generalize hs4 : ({ s2 with heap := h3, toks := tk } : Shared) = s4 at I3 f3 hns hsb ⊢
    have h4 : s4.heap = h3 := by rw [← hs4]
    have hsz4 : h'.objs.size = s4.heap.objs.size + 1 := by rw [hsb.1, Heap.size_push]
    have keep' : ∀ b o, s4.heap.get? b = some o → h'.get? b = some o := fun b o e => hsb.extBut b o (Nat.ne_of_lt (Heap.lt_size e)) (Heap.get?_push_of_some _ e)
    generalize hgo : ({ cls := .type "generator", data := .fields #[.int s4.gens.size 0, .str "<genexpr>" (s4.toks + 1), .str (X.env.qual ++ "<genexpr>") (s4.toks + 1 + 1)] } : Obj) = go
    have hGO : GenObj go s4.gens.size := by rw [← hgo]; exact ⟨_, _, rfl, rfl, rfl⟩
    have k5 : ∀ b o, s4.heap.get? b = some o → (h'.push go).get? b = some o := fun b o e => Heap.get?_push_of_some _ (keep' b o e)
    have pg := fun A' => hg A' s4 (upd H2 P (.tbl (ps ++ more))) s4.heap.objs.size (cloFrom X.env.cells scope.names []) code fp
    have pt := fun A' => ht A' s4 (upd H2 P (.tbl (ps ++ more))) s4.heap.objs.size (cloFrom X.env.cells scope.names []) code fp
    have pe := fun A' => he A' s4 (upd H2 P (.tbl (ps ++ more))) s4.heap.objs.size (cloFrom X.env.cells scope.names []) code fp
    generalize hce : genEnv scope (cloFrom X.env.cells scope.names []) s4.heap.objs.size code builtinsNs X.env = cenv at pg pt pe ⊢
    have hscn : cenv.scope = scope := by rw [← hce]; rfl
    generalize hA' : A.over (.compLoop (.GeneratorExp elt [⟨tg, iter, ifs, 0⟩] scope gpos) 0 (.ref it) .none cenv) [] = A'
    have hfrA : A'.frames = some (cenv :: X.stack) := by
      rw [← hA']
      show pushEnvs [cenv] A.frames = _
      rw [near.fr, I2.ok.frames]
      rfl
    have hhd : A'.handled = none := by
      rw [← hA']
      show A.handled = none
      rw [near.hd]
      exact hr.hd
    have rm : Room k A' := by
      refine ⟨hhd, ?_, ?_⟩
      · have := hr.dp
        have := near.dp
        rw [← hA']
        show A.depth + 0 + 1 + 3 * k + 5 < _
        omega
      · have := hr.un
        have := near.un
        rw [← hA']
        show A.units + 0 + 3 + 16 * k + 200 < _
        omega
    have gdA : A'.guards = X.A.guards := by
      rw [← hA']
      show pushGuards [] A.guards = _
      rw [near.gd]
      rfl
    have I5 : Inv (gblk X A' s4 (upd H2 P (.tbl (ps ++ more))) cenv fp) [(h'.objs.size, go)] (wipe σ (own.map (·.2))) (upd H2 P (.tbl (ps ++ more)))
        { s4 with gens := s4.gens.push (.fresh (.compStart (.GeneratorExp elt [⟨tg, iter, ifs, 0⟩] scope gpos) 0 (.ref it) .none cenv)), toks := s4.toks + 1 + 1 + 1, heap := h'.push go } := by
      subst hce
      refine gen_start (it := .ref it) I3 ok nocell hN f3 hhd hfrA rfl (I3.bare.push rfl) k5 (hns.push _) fun p hp => ?_
      have e : p = (h'.objs.size, go) := by simpa using hp
      subst e
      refine ⟨by show s4.heap.objs.size < h'.objs.size; omega, Heap.get?_push_size _ (by rw [← hgo]; rfl), fun v z => ?_⟩
      rw [← hgo] at z
      cases z
    refine hQ J H2 _ _ _ q ⟨⟨_, upd_same, ht4⟩, fun b hb => upd_ne hb⟩ ⟨A', s4, _, cenv, fp, h'.objs.size, s4.gens.size, go, tn, _, rfl, hGO, Array.getElem?_push_size .., rfl, I5, ?_, fun b hb => (f3 b hb).1.1, fun b hb => ?_, T.keep, fun cp σ' H' s' I' => ?_, ?_⟩
    · exact T.keep _ _ _ st3 fun b _ o e => k5 b o (by rw [h4]; exact e)
    · have := (f3 b hb).2
      rw [hsz4]
      exact Nat.lt_succ_of_lt this
    · exact I3.call' (ch := fp) I'.os I'.base I'.hok I'.bare fun b hb => ⟨(f3 b hb).1.2.2.2.1, (f3 b hb).1.2.1, (f3 b hb).1.2.2.2.2.1, (f3 b hb).1.2.2.2.2.2⟩
    · intro α AC End Yd W m n a cp s' turn w hmn hAC hac I' st'
      refine ⟨rfl, ?_⟩
      have loop := seg_gx (A := A) (pos := gpos) (iter := iter) (scope := scope) hA' hc (by rw [hscn]; exact hco) T (pg A' rm gdA) (pt A' rm gdA) (pe A' rm gdA) hAC turn m n 0 a _ s' s' cp hmn w hac (fun p hp => (I'.pin p (List.mem_append_right _ hp)).1) I' st' fun b hb => (f3 b hb).1.1
      show Seg _ A _ _ _ s' _ ((compStart (.GeneratorExp elt [⟨tg, iter, ifs, 0⟩] scope gpos) 0 (.ref it) .none cenv).onRaise (leaving cenv)) [] s'
      unfold compStart
      rw [Sem.onRaise_eq_wrap]
      show Seg _ A _ _ _ s' _ ((ask >>= _).wrap _ _ _ _) [] s'
      refine seg_bind_wrap (wpAny_askSetting ?_)
      split
      · exact seg_again rfl loop
      · first
          | exact seg_bind_wrap (wpAny_rule (seg_bind_wrap (wpAny_standAt (seg_bind_wrap (T.self _ 0 s' _ _ st' (seg_again rfl loop))))))
          | (refine seg_bind_wrap (wpAny_rule ?_); show Seg _ A _ _ _ s' _ ((standAt iter.pos >>= _).wrap _ _ _ _) [] s'; exact seg_bind_wrap (wpAny_standAt (seg_bind_wrap (T.self _ 0 s' _ _ st' (seg_again rfl loop)))))
  cases hf : codeAmong gpos ps.toList with
  | none =>
    refine wpAny_genexprCodeX hcode (cd.code hPs ht3) (cd.tab hPs) hf fun c' h' tk hx hge hlt hco' _ htab' _ => ?_
    obtain ⟨o1, vs, f1, tf, fl, tg, inF, tx, tt, op, _, _, _, _, _, _, _, _, _, htr, _⟩ := hco'
    exact cont _ h' tk _ hx (Nat.le_trans hge (Nat.le_of_lt hlt)) htab'.2 ⟨_, rfl⟩ htr
  | some cv =>
    refine wpAny_genexprCode_hit hcode (cd.code hPs ht3) hf ?_
    exact cont cv s2.heap s2.toks ps (Heap.ExtBut.refl _ _) (Nat.le_refl _) hPs ⟨#[], by simp⟩ ht3
end
/-! ### asking -/
section
variable {α : Type} {X : Cx} {A A' : Around} {s_0 : Shared} {H_0 : Hp} {cenv : Env} {fp : List Addr} {tn : Nat → Heap → Prop} {AC : α → List (Addr × Obj) → Prop} {End : α → Hp → Prop} {Yd : α → V → Hp → (α → Hp → Prop) → Prop} {ga : Addr} {gn n : Nat} {go : Obj}
theorem next_gx2 {gs : GenState} {s : Shared} {Q : Option Value → Shared → Prop} {E : Value → Shared → Prop} (hh : A.handled = none) (hroom : A.depth < recursionLimit) (hl : s.heap.NoLimit) (hG : GenObj go gn) (e : s.heap.get? ga = some go) (hgs : s.gens[gn]? = some gs)
    (hgo : gs.Goes (model X.prog X.w) A.in1 (RG (gblk X A' s_0 H_0 cenv fp) AC End) (YG (gblk X A' s_0 H_0 cenv fp) fp tn AC Yd) n (.send .none) (s.setGen gn .running))
    (item : ∀ (a : α) (x : V) (σ : L2.St) (H : Hp) (i : Nat) (cp : List (Addr × Obj)) (Nx : α → Hp → Prop) (v : Value) (s1 : Shared) (gs' : GenState), RelV x v → AC a cp → (∀ p ∈ cp, s.heap.get? p.1 = some p.2) → Inv (gblk X A' s_0 H_0 cenv fp) cp σ H s1 → tn i s1.heap → Yd a x H Nx → s1.gens[gn]? = some gs' →
      (∀ a' cp' s', Nx a' H → AC a' cp' → Inv (gblk X A' s_0 H_0 cenv fp) cp' σ H s' → tn i s'.heap → ∃ m, n = m + 1 ∧ gs'.Goes (model X.prog X.w) A.in1 (RG (gblk X A' s_0 H_0 cenv fp) AC End) (YG (gblk X A' s_0 H_0 cenv fp) fp tn AC Yd) m (.send .none) s') → Q (some v) s1)
    (done : ∀ (a : α) (σ : L2.St) (H : Hp) (cp : List (Addr × Obj)) (s1 : Shared), AC a cp → (∀ p ∈ cp, s.heap.get? p.1 = some p.2) → Inv (gblk X A' s_0 H_0 cenv fp) cp σ H s1 → End a H → Q none s1) :
    wpAny (model X.prog X.w) A (pyNext (.ref ga)) Q E s := by
  have hgl : gn < s.gens.size := (Array.getElem?_eq_some_iff.mp hgs).1
  refine GenW.wpAny_gsz (n := gn + 1) hgl (next_genG (Er := fun _ _ => False) hh hl hroom (hG.isGen e) hgs hgo (fun v s₁ gs' hbare hv => ?_) (fun s₁ hp h' hk => ?_) fun e s₁ he => he.elim)
  · intro hsz
    obtain ⟨a, x, σ, H, i, cp, Nx, r, hac, tie, I, st, nf, hy, kap⟩ := hv
    have hsz1 : gn < s₁.gens.size := by
      have q : (s₁.setGen gn gs').gens.size = s₁.gens.size := GenW.setGen_size _ _ _
      have hsz' : gn + 1 ≤ (s₁.setGen gn gs').gens.size := hsz
      omega
    refine item a x σ H i cp Nx v (s₁.setGen gn gs') gs' r hac tie (inv_moved I rfl (allBare_setGen I.bare hbare) fun _ _ q => q) st hy (setGen_at hsz1) fun a' cp' s' nx hac' I' st' => ?_
    have z := kap a' cp' s' nx hac' I' st'
    cases n with
    | zero => exact z.elim
    | succ m => exact ⟨m, rfl, z⟩
  · intro _
    obtain ⟨a, σ, H, cp, hac, tie, I, q⟩ := hp
    exact done a σ H cp _ hac tie (inv_moved I rfl (allBare_setGen I.bare rfl) hk) q
theorem next_gx {gs : GenState} {s : Shared} {Q : Option Value → Shared → Prop} {E : Value → Shared → Prop} (hh : A.handled = none) (hroom : A.depth < recursionLimit) (hl : s.heap.NoLimit) (hG : GenObj go gn) (e : s.heap.get? ga = some go) (hgs : s.gens[gn]? = some gs)
    (hgo : gs.Goes (model X.prog X.w) A.in1 (RG (gblk X A' s_0 H_0 cenv fp) AC End) (YG (gblk X A' s_0 H_0 cenv fp) fp tn AC Yd) n (.send .none) (s.setGen gn .running))
    (item : ∀ (a : α) (x : V) (σ : L2.St) (H : Hp) (i : Nat) (cp : List (Addr × Obj)) (Nx : α → Hp → Prop) (v : Value) (s1 : Shared) (gs' : GenState), RelV x v → AC a cp → Inv (gblk X A' s_0 H_0 cenv fp) cp σ H s1 → tn i s1.heap → Yd a x H Nx → s1.gens[gn]? = some gs' →
      (∀ a' cp' s', Nx a' H → AC a' cp' → Inv (gblk X A' s_0 H_0 cenv fp) cp' σ H s' → tn i s'.heap → ∃ m, n = m + 1 ∧ gs'.Goes (model X.prog X.w) A.in1 (RG (gblk X A' s_0 H_0 cenv fp) AC End) (YG (gblk X A' s_0 H_0 cenv fp) fp tn AC Yd) m (.send .none) s') → Q (some v) s1)
    (done : ∀ (a : α) (σ : L2.St) (H : Hp) (cp : List (Addr × Obj)) (s1 : Shared), AC a cp → Inv (gblk X A' s_0 H_0 cenv fp) cp σ H s1 → End a H → Q none s1) :
    wpAny (model X.prog X.w) A (pyNext (.ref ga)) Q E s :=
  next_gx2 hh hroom hl hG e hgs hgo (fun a x σ H i cp Nx v s1 gs' r hac _ I st hy at_ kap => item a x σ H i cp Nx v s1 gs' r hac I st hy at_ kap) fun a σ H cp s1 hac _ I q => done a σ H cp s1 hac I q
/-- all(..) asks on -/
theorem all_gx {R : Result → Shared → Prop} {Stop : Hp → Prop} {End : Unit → Hp → Prop} (hh : A.handled = none) (hroom : A.depth < recursionLimit) (hG : GenObj go gn)
    (yes : ∀ (σ : L2.St) (H : Hp) (cp : List (Addr × Obj)) (s1 : Shared), Inv (gblk X A' s_0 H_0 cenv fp) cp σ H s1 → End () H → R (.ok (.ret (.bool true))) s1)
    (no : ∀ (σ : L2.St) (H : Hp) (cp : List (Addr × Obj)) (s1 : Shared), Inv (gblk X A' s_0 H_0 cenv fp) cp σ H s1 → Stop H → R (.ok (.ret (.bool false))) s1) :
    ∀ (n : Nat) (s : Shared), s.heap.NoLimit → s.heap.get? ga = some go → (∃ gs, s.gens[gn]? = some gs ∧ gs.Goes (model X.prog X.w) A.in1.in1 (RG (gblk X A' s_0 H_0 cenv fp) (fun _ cp => cp = [(ga, go)]) End)
      (YG (gblk X A' s_0 H_0 cenv fp) fp tn (fun _ cp => cp = [(ga, go)]) (fun _ y H Nx => ∃ b : Bool, y = .bl b ∧ if b = true then Nx () H else Stop H)) n (.send .none) (s.setGen gn .running)) →
      codeAny (model X.prog X.w) A (.builtin "all.loop" ⟨[.ref ga], []⟩) R s := by
  intro n
  induction n with
  | zero =>
    rintro s hl e ⟨gs, hgs, hgo⟩
    refine codeAny_builtin F.entry_all_loop ?_
    rw [Around.under_plainId F.plain_all_loop _]
    show wpAny _ A.in1 (pyNext (.ref ga) >>= _) _ _ s
    refine wpAny_bind (next_gx (A := A.in1) hh hroom hl hG e hgs hgo (fun a x σ H i cp Nx v s1 gs' r hac I st hy at_ kap => ?_) fun a σ H cp s1 hac I q => ?_)
    · obtain ⟨b, rfl, hb⟩ := hy
      cases (show v = Value.bool b from r)
      refine wpAny_bind (wpAny_holding (wpAny_truthy_bool ?_))
      refine wpAny_bind (wpAny_letGo ?_)
      cases b with
      | true =>
        obtain ⟨m, hm, _⟩ := kap () cp s1 hb hac I st
        cases hm
      | false =>
        simp only [Bool.false_eq_true, if_false] at hb ⊢
        exact wpAny_bind (wpAny_rule (wpAny_pure (no σ H cp s1 I hb)))
    · exact wpAny_bind (wpAny_rule (wpAny_pure (yes σ H cp s1 I q)))
  | succ n ih =>
    rintro s hl e ⟨gs, hgs, hgo⟩
    refine codeAny_builtin F.entry_all_loop ?_
    rw [Around.under_plainId F.plain_all_loop _]
    show wpAny _ A.in1 (pyNext (.ref ga) >>= _) _ _ s
    refine wpAny_bind (next_gx (A := A.in1) hh hroom hl hG e hgs hgo (fun a x σ H i cp Nx v s1 gs' r hac I st hy at_ kap => ?_) fun a σ H cp s1 hac I q => ?_)
    · obtain ⟨b, rfl, hb⟩ := hy
      cases (show v = Value.bool b from r)
      refine wpAny_bind (wpAny_holding (wpAny_truthy_bool ?_))
      refine wpAny_bind (wpAny_letGo ?_)
      cases b with
      | true =>
        simp only [if_true] at hb ⊢
        subst hac
        refine wpAny_pure ⟨plainId_quiet F.plain_all_loop _, ih s1 I.nolimit (I.pin (ga, go) (List.mem_append_right _ List.mem_cons_self)).1 ⟨gs', at_, ?_⟩⟩
        obtain ⟨m, hm, z⟩ := kap () [(ga, go)] (s1.setGen gn .running) hb rfl (inv_moved I rfl (allBare_setGen I.bare rfl) fun _ _ q => q) st
        cases hm
        exact z
      | false =>
        simp only [Bool.false_eq_true, if_false] at hb ⊢
        exact wpAny_bind (wpAny_rule (wpAny_pure (no σ H cp s1 I hb)))
    · exact wpAny_bind (wpAny_rule (wpAny_pure (yes σ H cp s1 I q)))
end
section
variable {X : Cx}
/-- all(elt for tg in iter ..) -/
def tAllX (P : Addr) (wi : TI) (g : TG) (tt : TT) (te : TE) (vs : List Nat) : TE := fun σ H Q => wi σ H fun J H1 => GxR.TabG H1 P ∧ ∀ H2, GxR.Tabbed P H1 H2 → ∃ W : Nat → Nat → Unit → Hp → Prop, (∃ m, W 0 m () H2) ∧
  tGx J g tt te (wipe σ vs) vs (fun _ H => Q (.bl true) H) (fun _ y H Nx => ∃ b : Bool, y = .bl b ∧ if b = true then Nx () H else Q (.bl false) H) W
theorem pe_allX {c P : Addr} {elt tg iter : Expr} {ifs : List Expr} {p pos gpos : Pos} {scope : Scope} {own : List (Str × Nat)} {wi : TI} {g : TG} {tt : TT} {te : TE} {k : Nat}
    (hr : Room (k + 1) X.A) (hc : X.calm = true) (hN : X.N.Nodup) (hgl : Gl X "all") (hm : X.mg "all" = none) (hb : bootBuiltins "all" = some (.builtin "all")) (TB : GxR.TabB X.base X.mg c P) (hcode : X.env.code = .ref c)
    (hco : scope.isCoroutine = false) (hdot : scope.names.lookup (".0" : Str) = some NameKind.local) (nocell : ∀ y ∈ scope.names, y.2 ≠ .cell) (ok : BlkOk X.N X.env.scope scope own) (hi : PI X tg iter wi)
    (hg : ∀ (A' : Around) (s : Shared) (H : Hp) (C : Addr) (cl : List (Str × Addr)) (code : Value) (fp : List Addr), Room k A' → A'.guards = X.A.guards → PG (gblk X A' s H (genEnv scope cl C code builtinsNs X.env) fp) tg g)
    (ht : ∀ (A' : Around) (s : Shared) (H : Hp) (C : Addr) (cl : List (Str × Addr)) (code : Value) (fp : List Addr), Room k A' → A'.guards = X.A.guards → PTs (gblk X A' s H (genEnv scope cl C code builtinsNs X.env) fp) ifs tt)
    (he : ∀ (A' : Around) (s : Shared) (H : Hp) (C : Addr) (cl : List (Str × Addr)) (code : Value) (fp : List Addr), Room k A' → A'.guards = X.A.guards → PE (gblk X A' s H (genEnv scope cl C code builtinsNs X.env) fp) elt te)
    (hs : ∀ v, genFold iter X.env v = pure v)
    (hst : starEach [.GeneratorExp elt [⟨tg, iter, ifs, 0⟩] scope gpos] X.env = (false, eval (.GeneratorExp elt [⟨tg, iter, ifs, 0⟩] scope gpos) X.env) :: starEach [] X.env := by rfl) :
    PE X (.Call (.Name "all" p) [.GeneratorExp elt [⟨tg, iter, ifs, 0⟩] scope gpos] [] pos) (tAllX P wi g tt te (own.map (·.2))) := by
  refine ⟨fun pins s σ H Q I h => ?_⟩
  refine wpAny_Call_Name_kw (ld_blt I hgl hm hb ?_)
  refine PyProof.Rows.callWith_builtin1 ?_ hst (by rfl)
  rw [hst]
  show wpAny _ _ (spliced ((false, eval (.GeneratorExp elt [⟨tg, iter, ifs, 0⟩] scope gpos) X.env) :: backTo pos (starEach [] X.env))) _ _ s
  refine Calls.spliced_cons (gx_make (A := X.A.in1.in1) hr ⟨rfl, rfl, rfl, rfl, (by show X.A.units + 1 + 1 ≤ _; omega)⟩ hc hN TB hcode hco hdot nocell ok hi hg ht he hs I h fun J H1 H2 u s5 hR hT hG => ?_)
  obtain ⟨A', s_0, H_0, cenv, fp, ga, gn, go, tn, gs, rfl, hGO, hgs, hbare, I5, st5, nf, hlt, keep, back, goes⟩ := hG
  obtain ⟨W, ⟨m, w0⟩, turn⟩ := hR H2 hT
  refine Calls.spliced_nil ?_
  have pin5 := (I5.pin (ga, go) (List.mem_append_right _ List.mem_cons_self)).1
  refine call_function_tree F.kind_all F.plain_all F.entry_all (F.args_all1 _) ?_
  unfold Builtin.«all»
  refine wpAny_bind (m := oneArg "all" _) (wpAny_pure ?_)
  refine wpAny_bind (wpAny_pyIter_gen (hGO.isGen pin5) ?_)
  refine wpAny_pure ⟨plainId_quiet F.plain_all_loop _, all_gx (A' := A') (s_0 := s_0) (H_0 := H_0) (cenv := cenv) (fp := fp) (tn := tn) (go := go) (gn := gn) (Stop := fun H => Q (.bl false) H) (End := fun _ H => Q (.bl true) H) hr.hd hr.depth hGO
    (fun σ' H' cp s1 I1 q => ⟨.bl true, H', back _ _ _ _ I1, rfl, q⟩) (fun σ' H' cp s1 I1 q => ⟨.bl false, H', back _ _ _ _ I1, rfl, q⟩) (m + 1) s5 I5.nolimit pin5 ⟨gs, hgs, ?_⟩⟩
  refine goes Unit _ _ _ W m (m + 1) () [(ga, go)] _ turn w0 (Nat.lt_succ_self _) (fun a cp hac p hp b hb z => ?_) rfl (inv_moved I5 rfl (allBare_setGen I5.bare rfl) fun _ _ q => q) st5
  subst hac
  have e : p = (ga, go) := by simpa using hp
  subst e
  exact absurd (hlt b hb) (by rw [← z]; exact Nat.lt_irrefl _)
end
/-! ### tuple(..) -/
section
variable {X : Cx} {A A' : Around} {s_0 : Shared} {H_0 : Hp} {cenv : Env} {fp : List Addr} {tn : Nat → Heap → Prop} {ga S : Addr} {gn n : Nat} {go : Obj}
/-- the asker's list S holds what is out -/
def ACl (ga : Addr) (go : Obj) (S : Addr) (ys : List V) (cp : List (Addr × Obj)) : Prop := ∃ (acc : Array Value) (c : Nat), cp = [(ga, go), (S, lstObj acc c)] ∧ Vals ys acc.toList
def YdL (ys : List V) (y : V) (H : Hp) (Nx : List V → Hp → Prop) : Prop := ys.length < sizeLine ∧ Nx (ys ++ [y]) H
theorem ext_gx {R : Result → Shared → Prop} {End : List V → Hp → Prop} {res : Value} (hh : A.handled = none) (hroom : A.depth < recursionLimit) (hG : GenObj go gn) (hSa : S ≠ ga) (far : (gblk X A' s_0 H_0 cenv fp).s_0.heap.objs.size ≤ S) (hSc : ∀ x c, cenv.cells.lookup x = some c → c ≠ S)
    (keep : ∀ i h h', tn i h → (∀ b ∈ fp, ∀ o, h.get? b = some o → h'.get? b = some o) → tn i h') (hSf : ∀ b ∈ fp, b ≠ S)
    (yes : ∀ (σ : L2.St) (H : Hp) (ys : List V) (acc : Array Value) (c : Nat) (s1 : Shared), Inv (gblk X A' s_0 H_0 cenv fp) [(ga, go), (S, lstObj acc c)] σ H s1 → Vals ys acc.toList → End ys H → R (.ok (.ret res)) s1) :
    ∀ (n : Nat) (s : Shared), s.heap.NoLimit → s.heap.get? ga = some go → (∃ gs, s.gens[gn]? = some gs ∧ gs.Goes (model X.prog X.w) A.in1.in1 (RG (gblk X A' s_0 H_0 cenv fp) (ACl ga go S) End)
      (YG (gblk X A' s_0 H_0 cenv fp) fp tn (ACl ga go S) YdL) n (.send .none) (s.setGen gn .running)) →
      codeAny (model X.prog X.w) A (.builtin "list.extend.loop" ⟨[.ref S, .ref ga, res], []⟩) R s := by
  intro n
  induction n with
  | zero =>
    rintro s hl e ⟨gs, hgs, hgo⟩
    refine codeAny_builtin F.entry_extend_loop ?_
    rw [Around.under_plainId F.plain_extend_loop _]
    show wpAny _ A.in1 (pyNext (.ref ga) >>= _) _ _ s
    refine wpAny_bind (next_gx (A := A.in1) hh hroom hl hG e hgs hgo (fun ys x σ H i cp Nx v s1 gs' r hac I st hy at_ kap => ?_) fun ys σ H cp s1 hac I q => ?_)
    · obtain ⟨acc, c, rfl, rv⟩ := hac
      have pS := I.pin (S, lstObj acc c) (List.mem_append_right _ (List.mem_cons_of_mem _ List.mem_cons_self))
      have I0 : Inv (gblk X A' s_0 H_0 cenv fp) [(ga, go)] σ H s1 := I.pins_of fun p hp => I.pin p (List.mem_append_right _ (by rw [List.mem_singleton.mp hp]; exact List.mem_cons_self))
      have I1 := I0.turned (t' := s1.toks) (h' := s1.heap.update S (Obj.mapSeq (·.push v))) (it := S) (fun b o hb q => (Heap.get?_update_other _ _ (Ne.symm hb)).trans q) pS.2.1 pS.2.2.1 (.inr far) hSc (fun p hp => by rw [List.mem_singleton.mp (show p ∈ [(ga, go)] by simpa using hp)]; exact Ne.symm hSa)
      have e2 := Heap.get?_update_self (Obj.mapSeq (·.push v)) pS.1 rfl
      obtain ⟨m, hm, _⟩ := kap (ys ++ [x]) [(ga, go), (S, _)] _ hy.2 ⟨acc.push v, _, rfl, by rw [Array.toList_push]; exact rv.append (.cons r .nil)⟩ (I1.pins_of fun p hp => by
        rcases List.mem_cons.mp hp with z | z
        · rw [z]; exact I1.pin (ga, go) (List.mem_append_right _ List.mem_cons_self)
        · rw [List.mem_singleton.mp z]; exact ⟨e2, pS.2.1, pS.2.2.1, pS.2.2.2.1, fun v q => by cases q⟩) (keep _ _ _ st fun b hb o q => (Heap.get?_update_other _ _ (Ne.symm (hSf b hb))).trans q)
      cases hm
    · obtain ⟨acc, c, rfl, rv⟩ := hac
      exact wpAny_pure (yes σ H ys acc c s1 I rv q)
  | succ n ih =>
    rintro s hl e ⟨gs, hgs, hgo⟩
    refine codeAny_builtin F.entry_extend_loop ?_
    rw [Around.under_plainId F.plain_extend_loop _]
    show wpAny _ A.in1 (pyNext (.ref ga) >>= _) _ _ s
    refine wpAny_bind (next_gx (A := A.in1) hh hroom hl hG e hgs hgo (fun ys x σ H i cp Nx v s1 gs' r hac I st hy at_ kap => ?_) fun ys σ H cp s1 hac I q => ?_)
    · obtain ⟨acc, c, rfl, rv⟩ := hac
      have pS := I.pin (S, lstObj acc c) (List.mem_append_right _ (List.mem_cons_of_mem _ List.mem_cons_self))
      have I0 : Inv (gblk X A' s_0 H_0 cenv fp) [(ga, go)] σ H s1 := I.pins_of fun p hp => I.pin p (List.mem_append_right _ (by rw [List.mem_singleton.mp hp]; exact List.mem_cons_self))
      have I1 := I0.turned (t' := s1.toks) (h' := s1.heap.update S (Obj.mapSeq (·.push v))) (it := S) (fun b o hb q => (Heap.get?_update_other _ _ (Ne.symm hb)).trans q) pS.2.1 pS.2.2.1 (.inr far) hSc (fun p hp => by rw [List.mem_singleton.mp (show p ∈ [(ga, go)] by simpa using hp)]; exact Ne.symm hSa)
      have e2 := Heap.get?_update_self (Obj.mapSeq (·.push v)) pS.1 rfl
      have hln := rv.length
      have hlt : acc.size < sizeLine := by
        have := hy.1
        rw [hln] at this
        simpa using this
      have pG := I1.pin (ga, go) (List.mem_append_right _ List.mem_cons_self)
      show wpAny _ A.in1 (updateSeq S (·.push v) >>= _) _ _ _
      refine wpAny_bind ?_
      refine wpAny_updateSeq pS.1 rfl (wpAny_pure ⟨plainId_quiet F.plain_extend_loop _, ih _ I1.nolimit pG.1 ⟨gs', at_, ?_⟩⟩) (Nat.le_of_lt hlt) (by show (acc.push v).size ≤ sizeLine + 1; rw [Array.size_push]; omega)
      obtain ⟨m, hm, z⟩ := kap (ys ++ [x]) [(ga, go), (S, _)] (({ s1 with heap := s1.heap.update S (Obj.mapSeq (·.push v)) } : Shared).setGen gn .running) hy.2 ⟨acc.push v, _, rfl, by rw [Array.toList_push]; exact rv.append (.cons r .nil)⟩ (inv_moved (I1.pins_of fun p hp => by
        rcases List.mem_cons.mp hp with z | z
        · rw [z]; exact pG
        · rw [List.mem_singleton.mp z]; exact ⟨e2, pS.2.1, pS.2.2.1, pS.2.2.2.1, fun v q => by cases q⟩) rfl (allBare_setGen (s := { s1 with heap := s1.heap.update S (Obj.mapSeq (·.push v)) }) I1.bare rfl) fun _ _ q => q) (keep _ _ _ st fun b hb o q => (Heap.get?_update_other _ _ (Ne.symm (hSf b hb))).trans q)
      cases hm
      exact z
    · obtain ⟨acc, c, rfl, rv⟩ := hac
      exact wpAny_pure (yes σ H ys acc c s1 I rv q)
end
section
variable {X : Cx} {pins : List (Addr × Obj)} {σ : L2.St} {s5 : Shared} {J : It} {g : TG} {tt : TT} {te : TE} {vs : List Nat} {H4 : Hp} {u : Value}
/-- all that a generator hands out, in a list of the asker's own -/
theorem collect_gx {A : Around} {E : Value → Shared → Prop} {Q : List Value → Shared → Prop} {End : List V → Hp → Prop} {W : Nat → Nat → List V → Hp → Prop} {m : Nat} (hh : A.handled = none) (hroom : A.depth < recursionLimit) (G : Gx X pins σ A.in1.in1 J g tt te vs H4 u s5)
    (w0 : W 0 m [] H4) (turn : tGx J g tt te (wipe σ vs) vs End YdL W)
    (hQ : ∀ (s' : Shared) (acc : Array Value) (ys : List V) (H' : Hp), Inv X pins σ H' s' → Vals ys acc.toList → End ys H' → Q acc.toList s') : wpAny (model X.prog X.w) A (collect u) Q E s5 := by
  obtain ⟨A', s_0, H_0, cenv, fp, ga, gn, go, tn, gs, rfl, hGO, hgs, hbare, I5, st5, nf, hlt, keep, back, goes⟩ := G
  have pin5 := I5.pin (ga, go) (List.mem_append_right _ List.mem_cons_self)
  have glt : ga < s5.heap.objs.size := Heap.lt_size pin5.1
  have hSI : s5.heap.objs.size ≠ ga := Nat.ne_of_gt glt
  unfold collect
  refine wpAny_bind (wpAny_runValue (codeAny_builtin F.entry_proto_collect ?_))
  rw [Around.under_plainId F.plain_proto_collect _]
  show wpAny _ A.in1 (newList [] >>= fun l => again (.builtin "list.__iadd__" ⟨[l, .ref ga], []⟩)) _ _ s5
  refine wpAny_bind (wpAny_newObj_type ?_)
  refine wpAny_pure ⟨plainId_quiet F.plain_list_iadd _, codeAny_builtin F.entry_list_iadd ?_⟩
  rw [Around.under_plainId F.plain_list_iadd _]
  show wpAny _ A.in1 (Builtin.List.listExtendWith (.ref s5.heap.objs.size) (.ref ga) (.ref s5.heap.objs.size)) _ _ _
  unfold Builtin.List.listExtendWith
  have k1 : ∀ b o, s5.heap.get? b = some o → (s5.heap.push { cls := .type "list", data := .seq ([] : List Value).toArray }).get? b = some o := fun b o e => Heap.get?_push_of_some _ e
  have hT : Shared.TypeIs { s5 with heap := s5.heap.push { cls := .type "list", data := .seq ([] : List Value).toArray } } (.ref ga) "generator" := Heap.IsGen.typeIs (s := { s5 with heap := _ }) (hGO.isGen (k1 _ _ pin5.1))
  refine wpAny_bind (wpAny_typeOf hT ?_)
  have h1 : Builtin.List.listSameRef (.ref s5.heap.objs.size) (.ref ga) = false := by simp [Builtin.List.listSameRef, hSI]
  have h2 : (Value.type "generator" == Value.type "list") = false := by decide
  have h3 : (Value.type "generator" == Value.type "tuple") = false := by decide
  simp only [h1, h2, h3, Bool.or_false, Bool.false_eq_true, if_false]
  refine wpAny_bind (wpAny_pyIter_gen (s := { s5 with heap := _ }) (hGO.isGen (k1 _ _ pin5.1)) ?_)
  refine wpAny_bind (wpAny_holding ?_)
  unfold Builtin.List.listLengthHint
  refine wpAny_bind (wpAny_specialOf hT F.gen_no_len ?_)
  show wpAny _ A.in1 (specialOf (Value.ref ga) (Str.ofString "__length_hint__") >>= _) _ _ _
  refine wpAny_bind (wpAny_specialOf hT F.gen_no_hint ?_)
  refine wpAny_pure ?_
  show wpAny _ A.in1 (rule "list.extend.makes-room" >>= fun _ => Builtin.List.listTouch (.ref s5.heap.objs.size) >>= fun _ =>
    again (.builtin "list.extend.loop" ⟨[.ref s5.heap.objs.size, .ref ga, .ref s5.heap.objs.size], []⟩)) _ _ _
  refine wpAny_bind (wpAny_rule ?_)
  have hS₁ : (s5.heap.push { cls := .type "list", data := .seq ([] : List Value).toArray }).get? s5.heap.objs.size = some { cls := .type "list", data := .seq ([] : List Value).toArray } := Heap.get?_push_size _ rfl
  refine wpAny_bind ?_
  show wpAny _ A.in1 (updateSeq s5.heap.objs.size (·.push .none) >>= fun _ => updateSeq s5.heap.objs.size (·.pop)) _ _ _
  refine wpAny_bind (wpAny_updateSeq hS₁ rfl ?_)
  have hS₂ := Heap.get?_update_self (Obj.mapSeq (·.push Value.none)) hS₁ rfl
  refine wpAny_updateSeq hS₂ rfl ?_
  have hS₃ := Heap.get?_update_self (Obj.mapSeq (·.pop)) hS₂ rfl
  obtain ⟨c3, hS₄⟩ : ∃ c, (((s5.heap.push { cls := .type "list", data := .seq ([] : List Value).toArray }).update s5.heap.objs.size (Obj.mapSeq (·.push Value.none))).update s5.heap.objs.size (Obj.mapSeq (·.pop))).get? s5.heap.objs.size = some (lstObj #[] c) := ⟨_, hS₃⟩
  have k3 : ∀ b o, s5.heap.get? b = some o → (((s5.heap.push { cls := .type "list", data := .seq ([] : List Value).toArray }).update s5.heap.objs.size (Obj.mapSeq (·.push Value.none))).update s5.heap.objs.size (Obj.mapSeq (·.pop))).get? b = some o :=
    fun b o e => (Heap.get?_update_other _ _ (Ne.symm (Nat.ne_of_lt (Heap.lt_size e)))).trans ((Heap.get?_update_other _ _ (Ne.symm (Nat.ne_of_lt (Heap.lt_size e)))).trans (k1 b o e))
  have fS : FpOk (gblk X A' s_0 H_0 cenv fp) [(ga, go)] H4 s5.heap.objs.size := I5.fpOk (Nat.le_refl _) (I5.hok.fresh (Nat.le_refl _))
  have hfS : ∀ b ∈ fp, b ≠ s5.heap.objs.size := fun b hb => Nat.ne_of_lt (Nat.lt_trans (hlt b hb) glt)
  have I6 := inv_moved (s' := { s5 with heap := ((s5.heap.push { cls := .type "list", data := .seq ([] : List Value).toArray }).update s5.heap.objs.size (Obj.mapSeq (·.push Value.none))).update s5.heap.objs.size (Obj.mapSeq (·.pop)) }) I5 rfl I5.bare k3
  refine wpAny_pure ⟨plainId_quiet F.plain_extend_loop _, ext_gx (A := A) (A' := A') (s_0 := s_0) (H_0 := H_0) (cenv := cenv) (fp := fp) (tn := tn) (go := go) (gn := gn) (End := End) hh hroom hGO hSI ?_ fS.2.2.2.2.1 keep hfS
    (fun σ' H' ys acc c s1 I1 rv q => ?_) (m + 1) _ I6.nolimit (k3 _ _ pin5.1) ⟨gs, hgs, ?_⟩⟩
  · exact Nat.le_trans I5.sz (Nat.le_refl _)
  · show wpAny _ A (load s5.heap.objs.size >>= _) _ _ s1
    have pS := (I1.pin (s5.heap.objs.size, lstObj acc c) (List.mem_append_right _ (List.mem_cons_of_mem _ List.mem_cons_self))).1
    refine wpAny_bind (wpAny_load pS ?_)
    exact wpAny_pure (hQ s1 acc ys H' (back _ _ _ _ I1) rv q)
  · refine goes (List V) (ACl ga go s5.heap.objs.size) End YdL W m (m + 1) [] [(ga, go), (s5.heap.objs.size, lstObj #[] c3)] _ turn w0 (Nat.lt_succ_self _) (fun ys cp hac p hp b hb z => ?_) ⟨#[], c3, rfl, .nil⟩
      (inv_moved (I6.pins_of fun p hp => ?_) rfl (allBare_setGen (s := { s5 with heap := _ }) I5.bare rfl) fun _ _ q => q) (keep _ _ _ st5 fun b hb o q => k3 b o q)
    · obtain ⟨acc, c, rfl, _⟩ := hac
      rcases List.mem_cons.mp hp with e | e
      · rw [e] at z
        exact absurd (hlt b hb) (by rw [← z]; exact Nat.lt_irrefl _)
      · rw [List.mem_singleton.mp e] at z
        exact hfS b hb z.symm
    · rcases List.mem_cons.mp hp with e | e
      · rw [e]
        exact I6.pin (ga, go) (List.mem_append_right _ List.mem_cons_self)
      · rw [List.mem_singleton.mp e]
        exact ⟨hS₄, fS.1, fS.2.1, fS.2.2.1, fun v q => by cases q⟩
end
section
variable {X : Cx}
/-- tuple(elt for tg in iter ..) -/
def tTupX (P : Addr) (wi : TI) (g : TG) (tt : TT) (te : TE) (vs : List Nat) : TE := fun σ H Q => wi σ H fun J H1 => GxR.TabG H1 P ∧ ∀ H2, GxR.Tabbed P H1 H2 → ∃ W : Nat → Nat → List V → Hp → Prop, (∃ m, W 0 m [] H2) ∧
  tGx J g tt te (wipe σ vs) vs (fun ys H => ys.length ≤ sizeLine ∧ ∀ p, H p = none → Q (.ref p) (upd H p (.tup ys))) YdL W
theorem pe_tupX {c P : Addr} {elt tg iter : Expr} {ifs : List Expr} {p pos gpos : Pos} {scope : Scope} {own : List (Str × Nat)} {wi : TI} {g : TG} {tt : TT} {te : TE} {k : Nat}
    (hr : Room (k + 1) X.A) (hc : X.calm = true) (hN : X.N.Nodup) (hgl : Gl X "tuple") (hm : X.mg "tuple" = none) (hb : bootBuiltins "tuple" = some (.type "tuple")) (TB : GxR.TabB X.base X.mg c P) (hcode : X.env.code = .ref c)
    (hco : scope.isCoroutine = false) (hdot : scope.names.lookup (".0" : Str) = some NameKind.local) (nocell : ∀ y ∈ scope.names, y.2 ≠ .cell) (ok : BlkOk X.N X.env.scope scope own) (hi : PI X tg iter wi)
    (hg : ∀ (A' : Around) (s : Shared) (H : Hp) (C : Addr) (cl : List (Str × Addr)) (code : Value) (fp : List Addr), Room k A' → A'.guards = X.A.guards → PG (gblk X A' s H (genEnv scope cl C code builtinsNs X.env) fp) tg g)
    (ht : ∀ (A' : Around) (s : Shared) (H : Hp) (C : Addr) (cl : List (Str × Addr)) (code : Value) (fp : List Addr), Room k A' → A'.guards = X.A.guards → PTs (gblk X A' s H (genEnv scope cl C code builtinsNs X.env) fp) ifs tt)
    (he : ∀ (A' : Around) (s : Shared) (H : Hp) (C : Addr) (cl : List (Str × Addr)) (code : Value) (fp : List Addr), Room k A' → A'.guards = X.A.guards → PE (gblk X A' s H (genEnv scope cl C code builtinsNs X.env) fp) elt te)
    (hs : ∀ v, genFold iter X.env v = pure v)
    (hst : starEach [.GeneratorExp elt [⟨tg, iter, ifs, 0⟩] scope gpos] X.env = (false, eval (.GeneratorExp elt [⟨tg, iter, ifs, 0⟩] scope gpos) X.env) :: starEach [] X.env := by rfl) :
    PE X (.Call (.Name "tuple" p) [.GeneratorExp elt [⟨tg, iter, ifs, 0⟩] scope gpos] [] pos) (tTupX P wi g tt te (own.map (·.2))) := by
  refine ⟨fun pins s σ H Q I h => ?_⟩
  refine wpAny_Call_Name_kw (ld_blt I hgl hm hb ?_)
  refine PyProof.Rows.callWith_type1 ?_ hst (by rfl)
  rw [hst]
  show wpAny _ _ (spliced ((false, eval (.GeneratorExp elt [⟨tg, iter, ifs, 0⟩] scope gpos) X.env) :: backTo pos (starEach [] X.env))) _ _ s
  refine Calls.spliced_cons (gx_make (A := X.A.in1.in1.in1.in1) hr ⟨rfl, rfl, rfl, rfl, (by show X.A.units + 1 + 1 + 1 + 1 ≤ _; omega)⟩ hc hN TB hcode hco hdot nocell ok hi hg ht he hs I h fun J H1 H2 u s5 hR hT hG => ?_)
  obtain ⟨W, ⟨m, w0⟩, turn⟩ := hR H2 hT
  refine Calls.spliced_nil ?_
  have ⟨A', s_0, H_0, cenv, fp, ga, gn, go, tn, gs, eu, hGO, hgs, hbare, I5, st5, nf, hlt, keep, back, goes⟩ := hG
  have pin5 := (I5.pin (ga, go) (List.mem_append_right _ List.mem_cons_self)).1
  rw [eu] at hG ⊢
  refine callType_codes (Q₁ := fun obj s₁ => s₁.TypeIs obj "tuple" ∧ EP X pins σ Q obj s₁) F.called_tuple (F.typeCall_tuple_1 _) F.entry_object_init ?_ fun obj s₁ h₁ =>
    ⟨h₁.1, F.args_object_init_2 obj _, object_init_meets F.called_tuple.init.lookup F.called_tuple.made (by decide) X.prog X.w X.A.in1 _ s₁ ⟨h₁.1, rfl, h₁.2⟩⟩
  refine codeAny_of_tree ?_
  show wpAny _ X.A.in1.in1 (do checkBuiltinCall "tuple.__new__" ⟨[.type "tuple", .ref ga], []⟩; again (.builtin "tuple.__new__" ⟨[.type "tuple", .ref ga], []⟩)) _ _ s5
  refine wpAny_bind (wpAny_of_eq (F.newCall_tuple_1 _) (wpAny_pure ⟨plainId_quiet F.plain_tuple_new _, codeAny_builtin F.entry_tuple_new ?_⟩))
  rw [Around.under_plainId F.plain_tuple_new _]
  have hsub := sub_tuple_self
  have hinit := init_tuple_lookup
  have hmh := madeHere_tuple
  have hTI : s5.TypeIs (.ref ga) "generator" := (hGO.isGen pin5).typeIs
  have col : ∀ {Q0 : List Value → Shared → Prop} {E0 : Value → Shared → Prop}, (∀ (s' : Shared) (acc : Array Value), (∃ (ys : List V) (H' : Hp), Inv X pins σ H' s' ∧ Vals ys acc.toList ∧ ys.length ≤ sizeLine ∧ ∀ p, H' p = none → Q (.ref p) (upd H' p (.tup ys))) → Q0 acc.toList s') →
      wpAny (model X.prog X.w) X.A.in1.in1 (collect (.ref ga)) Q0 E0 s5 := fun hq => collect_gx hr.hd hr.depth hG w0 turn (fun s' acc ys H' I' rv q => hq s' acc ⟨ys, H', I', rv, q.1, q.2⟩)
  wp_walk using wpAny_typeOf hTI, col
  rintro s' acc ⟨ys, H', I', rv, small, q⟩
  show wpAny _ _ (Builtin.Tuple.tupleExact acc.toList.toArray >>= fun v => ret v) _ _ _
  unfold Builtin.Tuple.tupleExact
  refine wpAny_bind (wpAny_newObj_type ?_ (by show acc.toList.toArray.size ≤ sizeLine; rw [List.size_toArray, ← rv.length]; exact small))
  refine wpAny_pure ?_
  have free : H' s'.heap.objs.size = none := I'.hok.fresh (Nat.le_refl _)
  refine ⟨⟨_, Heap.get?_push_size _ rfl, rfl⟩, .ref s'.heap.objs.size, upd H' s'.heap.objs.size (.tup ys), I'.laid (t' := s'.toks) (fun b u z => Heap.get?_push_of_some _ z) (Nat.le_refl _) ⟨small, acc.toList, rv, ?_⟩, rfl, q _ free⟩
  exact ⟨_, Heap.get?_push_size _ rfl, rfl, 0, rfl⟩
end
/-! ### a def by its body, its code object known -/
theorem okC {P : Program} {w : World} {K : PySem.W.Frag} {mg : Str → Option Value} {base : Heap} {x qual : Str} {st : Stmt} {f : Addr} {fd : FuncData} {N ps : List Str} {k : Nat} {sp : Sp} (F : Fun K x qual st f fd) (S : FnScope N ps (defScope st)) (len : ∀ vs H Q E, sp vs H Q E → vs.length = ps.length)
    (body : ∀ (A : Around) (outer : List Env) (s : Shared) (H : Hp) (vs : List V) (Q : VK) (E : XK), Room k (A.deeper (envOfC qual (defScope st) s.heap.objs.size f fd.code)) → sp vs H Q E →
      ∃ t, PSs (cxOf CX0 P w K mg base N qual (defScope st) f fd.code A outer s H E).nox (defBody st) t ∧ t { nx := fun _ H' => Q .non H', rt := Q } (start N vs) H) : FnOk P w K mg base CX0 (k + 1) f fd ps sp := by
  obtain ⟨oc, od, kV, doc, pm, an, cdv, ct, osl, rfl, lk, hcd⟩ := F.ex
  refine fn_of lk hcd S len fun A outer s H vs Q E hr hsp => ?_
  obtain ⟨t, h, q⟩ := body A outer s H vs Q E hr hsp
  exact ⟨t, h.nox, q⟩
/-! ### from the head's facts -/
theorem fun_of {K : PySem.W.Frag} {x qual : Str} {st : Stmt} {f : Addr} {fd : FuncData} (F : FunD K x qual (defArgs st) (defBody st) (defScope st) [] [] f fd) : Fun K x qual st f fd := by
  obtain ⟨oc, od, dV, kV, doc, pm, an, cdv, ct, osl, rfl, lk, hcd, hd, _⟩ := F.ex
  rcases hd with ⟨_, rfl⟩ | ⟨z, _⟩
  · exact ⟨⟨oc, od, kV, doc, pm, an, cdv, ct, osl, rfl, lk, hcd⟩, F.kp⟩
  · exact absurd rfl z
theorem code_of {K : PySem.W.Frag} {x qual : Str} {st : Stmt} {p : He.Defn} {fd : FuncData} (F : Fun K x qual st (He.fAd K p) fd) : fd.code = .ref (He.cT K p).1 := by
  obtain ⟨oc, od, kV, doc, pm, an, cdv, ct, osl, rfl, lk, hcd⟩ := F.ex
  obtain ⟨c, rfl⟩ := He.codeIn_ref hcd
  show Value.ref c = Value.ref (He.codeOf K p)
  rw [He.codeOf_eq lk rfl]
theorem tab_of {base : Heap} {mg : Str → Option Value} {c P : Addr} (h : LamX.TabB base mg c P) : GxR.TabB base mg c P := ⟨h.code, h.bm, h.gP⟩
/-! ### heaps whose tables grow -/
def Tabs (H : Hp) (Ps : List Addr) : Prop := ∀ P ∈ Ps, GxR.TabG H P
/-- what is no table stays; tables stay tables -/
def Gr (H H' : Hp) : Prop := (∀ b o, (∀ ps, o ≠ HO.tbl ps) → H b = some o → H' b = some o) ∧ ∀ b, GxR.TabG H b → GxR.TabG H' b
theorem Gr.refl {H : Hp} : Gr H H := ⟨fun _ _ _ e => e, fun _ e => e⟩
theorem Gr.trans {H H1 H2 : Hp} (a : Gr H H1) (b : Gr H1 H2) : Gr H H2 := ⟨fun c o n e => b.1 c o n (a.1 c o n e), fun c e => b.2 c (a.2 c e)⟩
theorem Gr.of {H H' : Hp} (h : ∀ b o, H b = some o → H' b = some o) : Gr H H' := ⟨fun b o _ e => h b o e, fun b ⟨ps, e, t⟩ => ⟨ps, h _ _ e, t⟩⟩
theorem Gr.tab {P : Addr} {H H' : Hp} (t : GxR.TabG H P) (h : GxR.Tabbed P H H') : Gr H H' := by
  obtain ⟨ps, e, _⟩ := t
  refine ⟨fun b o n q => ?_, fun b q => ?_⟩
  · by_cases hb : b = P
    · rw [hb, e] at q
      exact absurd (Option.some.inj q).symm (n ps)
    · rw [h.2 b hb]; exact q
  · by_cases hb : b = P
    · rw [hb]; exact h.1
    · obtain ⟨ps', e', t'⟩ := q
      exact ⟨ps', by rw [h.2 b hb]; exact e', t'⟩
theorem Gr.tup {H H' : Hp} (g : Gr H H') {a : Addr} {xs : List V} (h : H a = some (.tup xs)) : H' a = some (.tup xs) := g.1 a _ (fun _ z => by cases z) h
theorem Gr.lst {H H' : Hp} (g : Gr H H') {a : Addr} {xs : List V} (h : H a = some (.lst xs)) : H' a = some (.lst xs) := g.1 a _ (fun _ z => by cases z) h
theorem Gr.tabs {H H' : Hp} (g : Gr H H') {Ps : List Addr} (h : Tabs H Ps) : Tabs H' Ps := fun P hP => g.2 P (h P hP)
theorem Gr.none {H : Hp} {a : Addr} {o : HO} (n : H a = Option.none) : Gr H (upd H a o) := Gr.of fun b u e => by
  rw [upd_ne (ne_of_none e n)]
  exact e
namespace CwR
/-- behind it a token is out -/
def PEp (X : Cx) (e : Expr) (t : TE) : Prop := ∀ (pins : List (Addr × Obj)) (s : Shared) (σ : L2.St) (H : Hp) (Q : VK), Inv X pins σ H s → t σ H Q → wpAny (model X.prog X.w) X.A (eval e X.env) (fun u s' => 1 ≤ s'.toks ∧ EP X pins σ Q u s') X.xe s
theorem pep_ix {X : Cx} {a : Expr} {i : Int} {j : Nat} {p pos : Pos} {ta : TE} {r : R2} (hr : IxR X r) (ha : PE X a ta) (hs : PlainIx (.Constant (.int i) j p)) : PEp X (.Subscript a (.Constant (.int i) j p) pos) (tOp r ta (tC (.int i))) := by
  intro pins s σ H Q I h
  refine Subscript_ (thn (ha.run pins s σ H _ I h) fun v s1 ⟨x, H1, I1, r1, q1⟩ => wpAny_Constant_int ?_)
  refine wpAny_mono (PySem.wpAny_toks (hr a _ pins { s1 with toks := s1.toks + 1 } σ H1 x (.int i) v (.int i s1.toks) Q (I1.tok _) r1 ⟨_, rfl⟩ q1 (hs _ _))) (fun u s2 q => ⟨?_, q.2⟩) fun _ _ z => z.2
  have h1 : s1.toks + 1 ≤ s2.toks := q.1
  omega
theorem pep_repl {X : Cx} {o : Expr} {to : TE} {y z : Str} {j k : Nat} {c0 c1 apos pos : Pos} (ho : PEp X o to) (hyz : (y == z) = false := by decide)
    (hst : starEach [.Constant (.str y) j c0, .Constant (.str z) k c1] X.env = [(false, eval (.Constant (.str y) j c0) X.env), (false, eval (.Constant (.str z) k c1) X.env)] := by rfl)
    (hbase : attributeBase o "replace" X.env (eval o X.env) = eval o X.env := by rfl) (hline : (apos.endLine == pos.line) = true := by rfl) :
    PEp X (.Call (.Attribute o "replace" apos) [.Constant (.str y) j c0, .Constant (.str z) k c1] [] pos) (CwR.tReplC to y z) := by
  intro pins s σ H Q I h
  refine PySem.Call_method2 hbase hst hline (wpAny_mono (ho pins s σ H _ I h) (fun v s1 q => ?_) fun _ _ z => z)
  obtain ⟨hk, v', H1, I1, r1, x, e1, hb, q⟩ := q
  subst e1
  obtain ⟨tx, e2⟩ := r1
  subst e2
  refine ⟨"str", _, PySem.F.plainAttrs_str, PySem.F.slot_str_replace, PySem.F.type_str_replace, typeIs_str _ _ _, (fun _ e => nomatch e), Calls.callWith_builtin rfl (Calls.evalArgs_plain (Calls.spliced_cons ?_))⟩
  refine Calls.Constant_str (Calls.spliced_cons (Calls.Constant_str (Calls.spliced_nil ?_)))
  refine wpAny_mono (PySem.wpAny_toks (PySem.SC.replace (Q := fun u s' => EP X pins σ Q u s') (by show s1.toks ≠ 0; omega) (by show s1.toks + 1 ≠ 0; omega) (by show s1.toks ≠ s1.toks + 1; omega) hyz hb fun t' k => ⟨.str (Txt.replace x y z), H1, I1.tok k, ⟨t', rfl⟩, q⟩)) (fun u s2 q => ⟨?_, q.2⟩) fun _ _ z => z.2
  have h1 : s1.toks + 1 + 1 ≤ s2.toks := q.1
  omega
theorem pe_replP {X : Cx} {e : Expr} {t : TE} (h : PEp X e t) : PE X e t := ⟨fun pins s σ H Q I q => wpAny_mono (h pins s σ H Q I q) (fun _ _ z => z.2) fun _ _ z => z⟩
end CwR

/-! ### x, *y = a list -/
namespace StarR
section
open PySem.W
variable {X : Cx}
theorem pgs_star {e : Expr} {p : Pos} {es : List Expr} {t : TG} {u : TGs} (h1 : PG X e t) (h2 : PGs X es u) : PGs X (.Starred e p :: es) (gCons t u) := by
  refine ⟨fun pins s σ H vs us Q I r h => ?_⟩
  obtain ⟨v, vr, e1, h⟩ := h
  subst e1
  cases r with
  | cons r rr =>
    show wpAny _ _ (assignInOrder (assign e X.env :: (assignEach es X.env).map (·.2)) _) _ _ _
    refine assignInOrder_cons (thn (h1.run pins s σ H _ _ _ I r h) fun _ s1 ⟨σ1, H1, I1, q1⟩ => ?_)
    exact h2.run pins s1 σ1 H1 _ _ Q I1 rr q1
theorem star_list {prog : Program} {w : World} {A : Around} {E : Value → Shared → Prop} {s : Shared} {l : Addr} {items : Array Value} {Q : List Value → Shared → Prop} (hl : s.heap.IsList l items) (hh : A.handled = none) (hn : 1 ≤ items.size) (hz : items.size ≤ sizeLine)
    (h : ∀ (h' : Heap) (tk : Nat), (∀ b o, s.heap.get? b = some o → h'.get? b = some o) → Q (items.toList.take 1 ++ [.ref h'.objs.size] ++ []) { s with heap := h'.push { cls := .type "list", data := .seq (items.toList.drop 1).toArray }, toks := tk }) : wpAny (model prog w) A (unpackItems (.ref l) 2 (some 1)) Q E s := by
  have hlt : l ≠ s.heap.objs.size := by obtain ⟨o, ho, _⟩ := hl; exact Nat.ne_of_lt (Heap.lt_size ho)
  unfold unpackItems
  refine wpAny_bind ?_
  unfold notIterableAtAll
  refine wpAny_bind (wpAny_specialOf hl.typeIs slot_list_iter.lookup ?_)
  refine wpAny_pure ?_
  simp only [Bool.false_eq_true, if_false]
  refine wpAny_bind (wpAny_holding (wpAny_pyIter_list hl ?_))
  refine wpAny_bind (wpAny_holding (kun_draw hlt 1 0 _ _ ⟨_, Heap.get?_push_size _ rfl, rfl, rfl⟩ (hl.push _) (by omega) fun h₁ hit₁ hs₁ => ?_))
  have hl₁ : h₁.IsList l items := (hl.push _).extBut hs₁.extBut hlt
  rw [Nat.zero_add] at hit₁
  have hit₁' := hit₁
  obtain ⟨oi, hoi, _⟩ := hit₁'
  have hl₁' := hl₁
  obtain ⟨ol, hol, _⟩ := hl₁'
  rw [List.drop_zero]
  have hfl : (items.toList.take 1).length = 1 := by rw [List.length_take, Array.length_toList]; omega
  rw [if_neg (show ¬ ((items.toList.take 1).length < 1) by rw [hfl]; omega)]
  refine wpAny_bind (wpAny_holding (kun_collect (s := { s with heap := h₁ }) (T := "list_iterator") (.inr (.inr (.inl rfl))) (Walks.list (A := A.in1) hh s.heap.objs.size l hlt items) (fun j u st => st.1.typeIs) (k := 1) (by omega) ⟨hit₁, hl₁⟩ (Heap.lt_size hoi) (Heap.lt_size hol) (fun h₂ tk hk => ?_) hz))
  have hrl : (items.toList.drop 1).length = items.size - 1 := by rw [List.length_drop, Array.length_toList]
  show wpAny _ _ (if (items.toList.drop 1).length < 0 then _ else _) _ _ _
  rw [if_neg (by omega)]
  show wpAny _ _ (newList ((items.toList.drop 1).take ((items.toList.drop 1).length - 0)) >>= fun d => pure (items.toList.take 1 ++ [d] ++ (items.toList.drop 1).drop ((items.toList.drop 1).length - 0))) _ _ _
  rw [Nat.sub_zero, List.take_length, List.drop_length]
  have he : ∀ b o, s.heap.get? b = some o → h₂.get? b = some o := fun b o e => by
    have hb : b ≠ s.heap.objs.size := Nat.ne_of_lt (Heap.lt_size e)
    exact hk b o hb (hs₁.extBut b o hb (Heap.get?_push_of_some _ e))
  exact wpAny_bind (wpAny_newList (wpAny_pure (h h₂ tk he)) (by rw [hrl]; omega))
/-- x, *y = a list that has an x -/
def gStar (K : PySem.W.Frag) (t : TGs) : TG := fun v σ H Q => ∃ a x xs, v = .ref a ∧ SqL K H a (x :: xs) ∧ ∀ D, H D = none → t [x, .ref D] σ (upd H D (.lst xs)) Q
theorem pg_star {es : List Expr} {k : Nat} {pos : Pos} {t : TGs} (hc : X.calm = true) (h : PGs X es t)
    (hn : (assignEach es X.env).length = 2 := by rfl) (hst : (assignEach es X.env).findIdx? (·.1) = some 1 := by rfl) : PG X (.Tuple es k pos) (gStar X.K t) := by
  refine ⟨fun pins s σ H v u Q I r hw => ?_⟩
  obtain ⟨a, x, xs, e1, hq, hw⟩ := hw
  subst e1
  cases r
  obtain ⟨its, rv, pl, hz⟩ := I.list hq
  have hl' : s.heap.IsList a its.toArray := by
    obtain ⟨o, m, e, c, d, q⟩ := pl
    exact ⟨o, e, c, m, q⟩
  cases rv with
  | cons r1 rr =>
    rename_i y ys
    have lz : ys.length + 1 ≤ sizeLine := by
      have := rr.length
      rw [← this]
      exact hz
    rw [PyProof.Rows.assign_Tuple]
    refine wpAny_bind (wpAny_standAt ?_)
    unfold unpack
    rw [hn, hst]
    refine wpAny_bind (wpAny_holding (star_list hl' (I.ok.hd hc) (by simp) (by simpa using lz) fun h' tk hx => ?_))
    have I1 : Inv X pins σ H { s with heap := h', toks := tk } := I.kept hx
    have hf : H h'.objs.size = none := I1.hok.fresh (Nat.le_refl _)
    have I2 : Inv X pins σ (upd H h'.objs.size (.lst xs)) { s with heap := h'.push { cls := .type "list", data := .seq ys.toArray }, toks := tk } :=
      I1.laid (t' := tk) (fun b u e => Heap.get?_push_of_some _ e) (Nat.le_refl _) ⟨by have : xs.length + 1 ≤ sizeLine := hz; omega, ys, 0, rr, Heap.get?_push_size _ rfl⟩
    have e2 : ((y :: ys).toArray.toList.take 1 ++ [Value.ref h'.objs.size] ++ []) = [y, .ref h'.objs.size] := by simp
    have e3 : ((y :: ys).toArray.toList.drop 1).toArray = ys.toArray := by simp
    rw [e2, e3]
    exact h.run pins _ σ _ _ _ Q I2 (.cons r1 (.cons (show L2.RelV (V.ref h'.objs.size) (Value.ref h'.objs.size) from rfl) .nil)) (hw _ hf)
end
end StarR

/-! ### heaps -/
theorem same_upd {H : Hp} {p : Addr} {o : HO} (h : H p = none) : Same H (upd H p o) := fun b x e => by
  rw [upd_ne (ne_of_none e h)]
  exact e
def Fr (d l : Addr) (H H' : Hp) : Prop := ∀ b o, b ≠ d → b ≠ l → H b = some o → H' b = some o
theorem Fr.trans {d l : Addr} {H H1 H2 : Hp} (a : Fr d l H H1) (b : Fr d l H1 H2) : Fr d l H H2 := fun c o h1 h2 h => b c o h1 h2 (a c o h1 h2 h)
theorem Fr.refl {d l : Addr} {H : Hp} : Fr d l H H := fun _ _ _ _ h => h
theorem Fr.new {d l p : Addr} {H : Hp} {o : HO} (h : H p = none) : Fr d l H (upd H p o) := fun b x _ _ e => same_upd h b x e
theorem Fr.of {d l : Addr} {H H' : Hp} (h : Same H H') : Fr d l H H' := fun b x _ _ e => h b x e
theorem Fr.d {d l : Addr} {H : Hp} {o : HO} : Fr d l H (upd H d o) := fun b x h1 _ e => by rw [upd_ne h1]; exact e
theorem Fr.l {d l : Addr} {H : Hp} {o : HO} : Fr d l H (upd H l o) := fun b x _ h2 e => by rw [upd_ne h2]; exact e
def Deck (H : Hp) (d l : Addr) : Prop := d ≠ l ∧ ∃ (cs : List Int) (z : Int), H d = some (.lst [.ref l, .int z]) ∧ H l = some (.lst (cs.map V.int)) ∧ cs.length ≤ 63 ∧ 0 ≤ z ∧ z < 4294967296
theorem Deck.same {H H' : Hp} {d l : Addr} (D : Deck H d l) (s : Same H H') : Deck H' d l := by
  obtain ⟨ne, cs, z, hd, hl, r⟩ := D
  exact ⟨ne, cs, z, s _ _ hd, s _ _ hl, r⟩
theorem Deck.new {H : Hp} {d l p : Addr} {o : HO} (D : Deck H d l) (h : H p = none) : Deck (upd H p o) d l := D.same (same_upd h)
theorem Deck.ne_new {H : Hp} {d l p : Addr} (D : Deck H d l) (h : H p = none) : p ≠ d ∧ p ≠ l := by
  obtain ⟨ne, cs, z, hd, hl, r⟩ := D
  exact ⟨(ne_of_none hd h).symm, (ne_of_none hl h).symm⟩
theorem p29 : (0 : Int) < 2147483629 := by decide
theorem p47 : (0 : Int) < 2147483647 := by decide
theorem p87 : (0 : Int) < 2147483587 := by decide
theorem sl1 : 1 ≤ sizeLine := by decide
theorem sl2 : 2 ≤ sizeLine := by decide
theorem sl3 : 3 ≤ sizeLine := by decide
theorem sl4 : 4 ≤ sizeLine := by decide
theorem seqIx0 {α : Type} (x : α) (xs : List α) : seqIndex? 0 (x :: xs).length = some 0 := by
  refine (ixN_seq (n := (x :: xs).length) (i := 0) (j := 0) ?_).1
  unfold ixN
  rw [if_pos (by decide), if_pos (by rw [List.length_cons]; omega)]
  rfl
theorem dpInts {K : PySem.W.Frag} {H : Hp} : ∀ cs : List Int, DpAll K H (cs.map V.int) (cs.map PyData.int)
  | [] => .nil
  | c :: r => .cons (.int c) (dpInts r)
theorem shInts (ns : List Int) : SeqAt.shaped (.list (ns.map PyData.int)) = true := by
  unfold SeqAt.shaped
  rw [Bool.and_eq_true]
  refine ⟨?_, ?_⟩
  · simp only [PyData.canLay0, canLayAll_ints]
  · simp only [PyData.depth, depthAll_ints]
    decide
theorem at_pick {xs : List V} {j : Int} (h0 : 0 ≤ j) (h1 : j < xs.length) : ∃ x, atI xs j = some x ∧ x ∈ xs := by
  obtain ⟨k, rfl⟩ : ∃ k : Nat, j = (k : Int) := ⟨j.toNat, (Int.toNat_of_nonneg h0).symm⟩
  have hk : k < xs.length := by omega
  exact ⟨xs[k], atI_nat (List.getElem?_eq_getElem hk), List.getElem_mem hk⟩
theorem units65 {k : Nat} {A : Around} (r : Room k A) : A.units + 65 < cLine := by have := r.un; omega
def rLenK (K : PySem.W.Frag) : List V → Hp → VK → Prop := fun xs H Q => ∃ p ys, xs = [.ref p] ∧ (SqL K H p ys ∨ SqT K H p ys) ∧ Q (.int ys.length) H
def rTupK (K : PySem.W.Frag) : List V → Hp → VK → Prop := fun xs H Q => ∃ p ys, xs = [.ref p] ∧ ((SqL K H p ys ∧ ∀ l, H l = none → Q (.ref l) (upd H l (.tup ys))) ∨ (SqT K H p ys ∧ Q (.ref p) H))
def rLstK (K : PySem.W.Frag) : List V → Hp → VK → Prop := fun xs H Q => ∃ p ys, xs = [.ref p] ∧ (SqL K H p ys ∨ SqT K H p ys) ∧ ∀ l, H l = none → Q (.ref l) (upd H l (.lst ys))
/-- joining ways behind a test, behind an expression -/
def tCutT (t : TT) : TT := fun σ H Q => ∃ Mid : Bool → Hp → Prop, t σ H Mid ∧ ∀ b H1, Mid b H1 → Q b H1
theorem pt_cut {X : Cx} {e : Expr} {t : TT} (h : PT X e t) : PT X e (tCutT t) := ⟨fun pins s σ H Q I hw => by
  obtain ⟨Mid, h1, q⟩ := hw
  exact thn (h.run pins s σ H _ I h1) fun c s1 ⟨H1, I1, m⟩ => ⟨H1, I1, q _ _ m⟩⟩
def tCutE (t : TE) : TE := fun σ H Q => ∃ Mid : VK, t σ H Mid ∧ ∀ v H1, Mid v H1 → Q v H1
theorem pe_cut {X : Cx} {e : Expr} {t : TE} (h : PE X e t) : PE X e (tCutE t) := ⟨fun pins s σ H Q I hw => by
  obtain ⟨Mid, h1, q⟩ := hw
  exact thn (h.run pins s σ H _ I h1) fun u s1 ⟨v, H1, I1, r, m⟩ => ⟨v, H1, I1, r, q _ _ m⟩⟩

/-! ### data made by the law or the program: numbers, truths, texts, lists and tuples of these -/
mutual
inductive Tk (H : Hp) : V → PyData → Prop
  | bl (b : Bool) : Tk H (.bl b) (.bool b)
  | int (i : Int) : Tk H (.int i) (.int i)
  | str (x : Str) : Tk H (.str x) (.str x)
  | lst {a : Addr} {xs : List V} {ds : List PyData} : H a = some (.lst xs) → TkAll H xs ds → Tk H (.ref a) (.list ds)
  | tup {a : Addr} {xs : List V} {ds : List PyData} : H a = some (.tup xs) → TkAll H xs ds → Tk H (.ref a) (.tuple ds)
inductive TkAll (H : Hp) : List V → List PyData → Prop
  | nil : TkAll H [] []
  | cons {v : V} {vs : List V} {d : PyData} {ds : List PyData} : Tk H v d → TkAll H vs ds → TkAll H (v :: vs) (d :: ds)
end
theorem TkAll.length {H : Hp} : ∀ {vs : List V} {ds : List PyData}, TkAll H vs ds → vs.length = ds.length
  | _, _, .nil => rfl
  | _, _, .cons _ t => by rw [List.length_cons, List.length_cons, t.length]
mutual
theorem Tk.same {H H' : Hp} (s : Same H H') : ∀ {v : V} {d : PyData}, Tk H v d → Tk H' v d
  | _, _, .bl b => .bl b
  | _, _, .int i => .int i
  | _, _, .str x => .str x
  | _, _, .lst h t => .lst (s _ _ h) (t.same s)
  | _, _, .tup h t => .tup (s _ _ h) (t.same s)
theorem TkAll.same {H H' : Hp} (s : Same H H') : ∀ {vs : List V} {ds : List PyData}, TkAll H vs ds → TkAll H' vs ds
  | _, _, .nil => .nil
  | _, _, .cons h t => .cons (h.same s) (t.same s)
end
theorem TkAll.get {H : Hp} : ∀ {xs : List V} {ds : List PyData} {j : Nat} {x : V}, TkAll H xs ds → xs[j]? = some x → ∃ d, ds[j]? = some d ∧ Tk H x d
  | _, _, _, _, .nil, h => by simp at h
  | _, _, 0, _, .cons (d := d) a _, h => by
    cases (Option.some.inj h)
    exact ⟨d, rfl, a⟩
  | _, _, j + 1, _, .cons _ t, h => t.get h
theorem TkAll.append {H : Hp} : ∀ {xs ys : List V} {ds es : List PyData}, TkAll H xs ds → TkAll H ys es → TkAll H (xs ++ ys) (ds ++ es)
  | _, _, _, _, .nil, t => t
  | _, _, _, _, .cons a r, t => .cons a (r.append t)
theorem TkAll.ints {H : Hp} : ∀ ns : List Int, TkAll H (ns.map V.int) (ns.map PyData.int)
  | [] => .nil
  | n :: r => .cons (.int n) (TkAll.ints r)
theorem Tk.int_inv {H : Hp} {v : V} {i : Int} (h : Tk H v (.int i)) : v = .int i := by cases h; rfl
theorem Tk.tup_inv {H : Hp} {v : V} {ds : List PyData} (h : Tk H v (.tuple ds)) : ∃ a xs, v = .ref a ∧ H a = some (.tup xs) ∧ TkAll H xs ds := by
  cases h with
  | tup h t => exact ⟨_, _, rfl, h, t⟩
theorem Tk.lst_inv {H : Hp} {v : V} {ds : List PyData} (h : Tk H v (.list ds)) : ∃ a xs, v = .ref a ∧ H a = some (.lst xs) ∧ TkAll H xs ds := by
  cases h with
  | lst h t => exact ⟨_, _, rfl, h, t⟩
theorem TkAll.int_inv {H : Hp} : ∀ {vs : List V} {ns : List Int}, TkAll H vs (ns.map PyData.int) → vs = ns.map V.int
  | _, [], .nil => rfl
  | _, n :: r, .cons h t => by rw [List.map_cons, h.int_inv, t.int_inv]
/-- heaps without one place -/
def hd1 (p : Addr) (H : Hp) : Hp := fun b => if b = p then none else H b
theorem hd1_le {p : Addr} {H : Hp} : Same (hd1 p H) H := fun b o e => by
  unfold hd1 at e
  by_cases h : b = p
  · rw [if_pos h] at e; cases e
  · rw [if_neg h] at e; exact e
theorem hd1_same {p : Addr} {H H' : Hp} (s : Same H H') : Same (hd1 p H) (hd1 p H') := fun b o e => by
  unfold hd1 at e ⊢
  by_cases h : b = p
  · rw [if_pos h] at e; cases e
  · rw [if_neg h] at e ⊢; exact s _ _ e
theorem hd1_upd {p : Addr} {H : Hp} {o : HO} : Same (hd1 p H) (hd1 p (upd H p o)) := fun b x e => by
  unfold hd1 at e ⊢
  by_cases h : b = p
  · rw [if_pos h] at e; cases e
  · rw [if_neg h] at e ⊢; rw [upd_ne h]; exact e
theorem hd1_at {p b : Addr} {H : Hp} (h : b ≠ p) : hd1 p H b = H b := if_neg h
theorem hd1_of {p : Addr} {H H' : Hp} (s : Same H H') (n : H p = none) : Same H (hd1 p H') := fun b o e => by
  rw [hd1_at (ne_of_none e n)]
  exact s _ _ e
theorem same_of_hd1 {p : Addr} {H H' : Hp} {o : HO} (s : Same H (hd1 p H')) : Same H (upd H' p o) := fun b x e => by
  have z := s b x e
  unfold hd1 at z
  by_cases h : b = p
  · rw [if_pos h] at z; cases z
  · rw [if_neg h] at z; rw [upd_ne h]; exact z

/-! ### tables and gates -/
def tabOf (bs : List Bool) : Str := ⟨(bs.map fun b => if b = true then 49 else 48).toArray⟩
def plc (ws : List Int) : Int := ws.foldl (fun p w => 2 * p + w) 0
def gateM (bs : List Bool) (ws : List Int) : Int := if bs.getD (plc ws).toNat false = true then 1 else 0
theorem plc_snoc (ws : List Int) (w : Int) : plc (ws ++ [w]) = 2 * plc ws + w := by
  unfold plc
  rw [List.foldl_append]
  rfl
theorem plc_take {ws : List Int} {i : Nat} {u : Int} (h : ws[i]? = some u) : plc (ws.take (i + 1)) = 2 * plc (ws.take i) + u := by
  rw [List.take_add_one, h]
  exact plc_snoc _ _
theorem plc_bd : ∀ (n : Nat) (ws : List Int), ws.length = n → (∀ w ∈ ws, w = 0 ∨ w = 1) → 0 ≤ plc ws ∧ plc ws < 2 ^ n := by
  intro n
  induction n with
  | zero =>
    intro ws h _
    cases List.eq_nil_of_length_eq_zero h
    decide
  | succ n ih =>
    intro ws h hw
    have hne : ws ≠ [] := fun z => by rw [z] at h; cases h
    obtain ⟨r, x, rfl⟩ : ∃ r x, ws = r ++ [x] := ⟨ws.dropLast, ws.getLast hne, (List.dropLast_concat_getLast hne).symm⟩
    have hr := ih r (by rw [List.length_append] at h; simpa using h) fun w h' => hw w (List.mem_append_left _ h')
    have hx := hw x (by simp)
    rw [plc_snoc, Int.pow_succ]
    omega
theorem gate01 (bs : List Bool) (ws : List Int) : gateM bs ws = 0 ∨ gateM bs ws = 1 := by
  unfold gateM
  split
  · exact .inr rfl
  · exact .inl rfl
theorem int_sign (b : Bool) : PySem.intText? ⟨#[if b = true then 49 else 48]⟩ = some (if b = true then 1 else 0) := by
  cases b <;> decide +kernel
def spGate (K : PySem.W.Frag) : Sp := fun vs H Q _ => ∃ (bs : List Bool) (la : Addr) (ws : List Int), vs = [.str (tabOf bs), .ref la] ∧ SqL K H la (ws.map V.int) ∧ (∀ w ∈ ws, w = 0 ∨ w = 1) ∧ bs.length = 2 ^ ws.length ∧ ws.length ≤ 3 ∧ Q (.int (gateM bs ws)) H
theorem gate_read {bs : List Bool} {ws : List Int} (hw : ∀ w ∈ ws, w = 0 ∨ w = 1) (hb : bs.length = 2 ^ ws.length) (h3 : ws.length ≤ 3) : ∃ b : Bool, 0 ≤ plc ws ∧ plc ws < 2 ^ 63 ∧ plc ws < (tabOf bs).length ∧ (tabOf bs).cps[(plc ws).toNat]? = some (if b = true then 49 else 48) ∧ gateM bs ws = if b = true then 1 else 0 := by
  obtain ⟨p0, p1⟩ := plc_bd _ ws rfl hw
  have p8 : plc ws < 8 := by
    have : (2 : Int) ^ ws.length ≤ 8 := by
      have : ws.length = 0 ∨ ws.length = 1 ∨ ws.length = 2 ∨ ws.length = 3 := by omega
      rcases this with h | h | h | h <;> rw [h] <;> decide
    omega
  have hlt : (plc ws).toNat < bs.length := by
    have : ((2 ^ ws.length : Nat) : Int) = (2 : Int) ^ ws.length := by simp
    omega
  refine ⟨bs[(plc ws).toNat], p0, by omega, ?_, ?_, ?_⟩
  · have : (tabOf bs).length = bs.length := by simp [tabOf, Str.length]
    rw [this]
    omega
  · simp [tabOf, List.getElem?_eq_getElem hlt]
  · unfold gateM
    rw [List.getD_eq_getElem?_getD, List.getElem?_eq_getElem hlt]
    rfl

/-! ### walks -/
theorem gx_tup {α : Type} {K : PySem.W.Frag} {a : Addr} {xs : List V} {g : TG} {tt : TT} {te : TE} {vs : List Nat} {σ0 : L2.St} {End : α → Hp → Prop} {Yd : α → V → Hp → (α → Hp → Prop) → Prop} {a0 : α} {H0 : Hp} (Pv : Nat → α → Hp → Prop) (h0 : Pv 0 a0 H0)
    (hl : ∀ i c H, i ≤ xs.length → Pv i c H → SqT K H a xs)
    (hs : ∀ i x c H, xs[i]? = some x → Pv i c H → g x σ0 H fun σ2 H2 => wipe σ2 vs = σ0 ∧ tt σ2 H2 fun b H3 => if b = true then te σ2 H3 fun y H4 => Yd c y H4 (Pv (i + 1)) else Pv (i + 1) c H3) (hd : ∀ c H, Pv xs.length c H → End c H) :
    ∃ W : Nat → Nat → α → Hp → Prop, (∃ m, W 0 m a0 H0) ∧ tGx (Itt K a) g tt te σ0 vs End Yd W := by
  refine ⟨fun i m c H => m = xs.length - i ∧ i ≤ xs.length ∧ Pv i c H, ⟨xs.length, rfl, Nat.zero_le _, h0⟩, ?_⟩
  rintro i m c H ⟨rfl, hi, p⟩
  by_cases hlt : i < xs.length
  · have hx : xs[i]? = some xs[i] := List.getElem?_eq_getElem hlt
    refine .inr ⟨⟨xs, xs[i], hl i c H hi p, hx⟩, Pv (i + 1), fun c' H' p' => ⟨xs.length - (i + 1), by omega, rfl, hlt, p'⟩, fun x H' y => ?_⟩
    obtain ⟨rfl, y⟩ := y
    exact hs i x c _ (y xs (hl i c _ hi p)) p
  · have e : i = xs.length := by omega
    subst e
    exact .inl ⟨⟨xs, hl _ c H hi p, Nat.le_refl _⟩, hd c H p⟩
theorem lc_zipT {K : PySem.W.Frag} {a b : Addr} {xs ys : List V} {g : TG} {tt : TT} {te : TE} {vs : List Nat} {σ : L2.St} {H1 : Hp} {D : Addr} {Qd : Hp → Prop} (el : xs.length = ys.length) (Pv : Nat → Hp → Prop) (h0 : Pv 0 (upd H1 D (.lst []))) (hl : ∀ i H, i ≤ xs.length → Pv i H → SqT K H a xs ∧ SqT K H b ys)
    (hs : ∀ i x y T H, xs[i]? = some x → ys[i]? = some y → H T = none → Pv i H → g (.ref T) (wipe σ vs) (upd H T (.tup [x, y])) fun σ2 H2 => wipe σ2 vs = wipe σ vs ∧ tt σ2 H2 fun b H3 =>
      if b = true then te σ2 H3 fun y H4 => ∃ acc, H4 D = some (.lst acc) ∧ acc.length < sizeLine ∧ Pv (i + 1) (upd H4 D (.lst (acc ++ [y]))) else Pv (i + 1) H3) (hd : ∀ H, Pv xs.length H → Qd H) :
    ∃ W : Nat → Nat → Hp → Prop, (∃ m, W 0 m (upd H1 D (.lst []))) ∧ ∀ i m H, W i m H →
      ((RZ.ItzT K a b).stop i H ∧ Qd H) ∨ ((RZ.ItzT K a b).go i H ∧ ∃ Nx : Hp → Prop, (∀ H', Nx H' → ∃ m', m' < m ∧ W (i + 1) m' H') ∧ ∀ x H', (RZ.ItzT K a b).yld i H x H' → g x (wipe σ vs) H' fun σ2 H2 => wipe σ2 vs = wipe σ vs ∧ tt σ2 H2 fun b H3 =>
        if b = true then te σ2 H3 fun y H4 => ∃ acc, H4 D = some (.lst acc) ∧ acc.length < sizeLine ∧ Nx (upd H4 D (.lst (acc ++ [y]))) else Nx H3) := by
  refine ⟨fun i m H => m = xs.length - i ∧ i ≤ xs.length ∧ Pv i H, ⟨xs.length, by simp, Nat.zero_le _, h0⟩, ?_⟩
  rintro i m H ⟨rfl, hi, p⟩
  obtain ⟨qx, qy⟩ := hl i H hi p
  by_cases hlt : i < xs.length
  · have hx : xs[i]? = some xs[i] := List.getElem?_eq_getElem hlt
    have hy : ys[i]? = some (ys[i]'(by omega)) := List.getElem?_eq_getElem _
    refine .inr ⟨⟨xs, ys, _, _, qx, qy, hx, hy⟩, Pv (i + 1), fun H' p' => ⟨xs.length - (i + 1), by omega, rfl, hlt, p'⟩, fun x H' y => ?_⟩
    obtain ⟨T, x1, y1, rfl, nT, rfl, e1, e2⟩ := y
    exact hs i x1 y1 T H (e1 xs qx) (e2 ys qy) nT p
  · have e : i = xs.length := by omega
    subst e
    exact .inl ⟨⟨xs, ys, qx, qy, .inl (Nat.le_refl _)⟩, hd H p⟩

/-! ### enumerate(tuple) -/
theorem draws_tuple {P : Program} {w : World} {A : Around} (hA : A.handled = none) (it a : Addr) (items : Array Value) (hne : a ≠ it) : Draws P w A it [it, a] items.size (fun i v => items[i]? = some v) (fun i h => h.IsTupleIter it a i ∧ h.IsTuple a items) where
  live := fun _ _ st => let ⟨o, ho, _⟩ := st.1; ⟨o, ho⟩
  frame := fun _ _ _ st hk => ⟨st.1.at fun o e => hk it (by simp) o e, by
    obtain ⟨o, ho, r⟩ := st.2
    exact ⟨o, hk a (by simp) o ho, r⟩⟩
  item := fun i s Q E hi st hQ => by
    refine RZ.nextOf_tuple_item st.1 st.2 (x := items[i]) (by simp [hi]) fun h' hit' hs' => ?_
    refine hQ _ h' s.toks (by simp [hi]) ⟨hit', ?_⟩ hs'
    obtain ⟨o, ho, r⟩ := st.2
    exact ⟨o, hs'.extBut a o hne ho, r⟩
  done := fun s Q E st hE => RZ.nextOf_tuple_end hA st.1 st.2 (by simp) hE
open PySem.AutoSeq1 in
set_option maxHeartbeats 1000000 in
theorem meets_enumerate_newT (l : Addr) (items : Array Value) (o : Obj) (hc : o.cls = .type "tuple") (n : Nat) (hd : o.data = .seq items n) :
    Meets (Builtin.«enumerate.__new__» ⟨[.type "enumerate", .ref l], []⟩) (fun _ R s => s.heap.get? l = some o ∧
      R (.ok (.ret (.ref (s.heap.push { cls := .type "tuple_iterator", data := .fields #[.ref l, .int 0 0] }).objs.size)))
        { s with heap := (s.heap.push { cls := .type "tuple_iterator", data := .fields #[.ref l, .int 0 0] }).push { cls := .type "enumerate", data := .fields #[.none, .bool false, .ref s.heap.objs.size, rawInt 0, .none, .none] } }) :=
  .of_wp fun prog w A R s h => by
    obtain ⟨hp, g, d, tk, os⟩ := s; obtain ⟨hl, h⟩ := h
    have hsub := sub_enumerate
    have hL : Heap.IsTuple (Shared.heap ⟨hp, g, d, tk, os⟩) l items := ⟨_, hl, hc, n, hd⟩
    wp_walk using wpAny_loadPart' hl
    refine wpAny_stack_any fun st => wpAny_pure ?_
    split
    · rename_i c _ _ _ _ _
      cases (c == Value.type "enumerate")
      · wp_walk using wpAny_loadPart' hl, wpAny_pyIter_tuple hL
        exact ⟨_, rfl, h⟩
      · wp_walk using wpAny_loadPart' hl, wpAny_pyIter_tuple hL
        exact ⟨_, rfl, h⟩
    · wp_walk using wpAny_loadPart' hl, wpAny_pyIter_tuple hL
      exact ⟨_, rfl, h⟩
theorem call_enumerate_tuple {prog : Program} {w : World} {A : Around} {E : Value → Shared → Prop} {s : Shared} {l : Addr} {items : Array Value} {Q : Value → Shared → Prop} (hL : s.heap.IsTuple l items)
    (h : ∀ h', IsEnum h' (s.heap.objs.size + 1) s.heap.objs.size 0 .none → h'.IsTupleIter s.heap.objs.size l 0 → h'.objs.size = s.heap.objs.size + 2 →
      (∀ b o, s.heap.get? b = some o → h'.get? b = some o) → Q (.ref (s.heap.objs.size + 1)) { s with heap := h' }) :
    wpAny (model prog w) A (call (.type "enumerate") [.ref l]) Q E s := by
  obtain ⟨o, hl, hc, n, hd⟩ := hL
  refine callType_new F.called_enumerate (by decide) (F.typeCall_enumerate_1 _) (F.newCall_enumerate_1 _) (fun obj => F.args_object_init_2 obj _) F.entry_enumerate_new
    (meets_enumerate_newT l items o hc n hd) ⟨hl, ?_⟩
  have hz : (s.heap.push { cls := .type "tuple_iterator", data := .fields #[.ref l, .int 0 0] }).objs.size = s.heap.objs.size + 1 := Heap.size_push ..
  show _ ∧ _
  rw [hz]
  have he : IsEnum ((s.heap.push { cls := .type "tuple_iterator", data := .fields #[.ref l, .int 0 0] }).push
      { cls := .type "enumerate", data := .fields #[.none, .bool false, .ref s.heap.objs.size, rawInt 0, .none, .none] }) (s.heap.objs.size + 1) s.heap.objs.size 0 .none := by
    have := Heap.get?_push_size (s.heap.push { cls := .type "tuple_iterator", data := .fields #[.ref l, .int 0 0] })
      (o := { cls := .type "enumerate", data := .fields #[.none, .bool false, .ref s.heap.objs.size, rawInt 0, .none, .none] }) rfl
    rw [hz] at this; exact this
  refine ⟨⟨_, he, rfl⟩, h _ he ⟨_, Heap.get?_push_of_some _ (Heap.get?_push_size _ rfl), rfl, rfl⟩ (by rw [Heap.size_push, hz]) fun b o x => Heap.get?_push_of_some _ (Heap.get?_push_of_some _ x)⟩
/-- the tuple at a, each item in a new pair -/
def IteT (K : PySem.W.Frag) (a : Addr) : It :=
  ⟨fun i H => ∃ (xs : List V) (x : V), SqT K H a xs ∧ xs[i]? = some x, fun i H v H' => ∃ T x, v = .ref T ∧ H T = none ∧ H' = upd H T (.tup [.int (i : Nat), x]) ∧ ∀ xs, SqT K H a xs → xs[i]? = some x, fun i H => ∃ xs : List V, SqT K H a xs ∧ xs.length = i⟩
theorem turn_enumT {P : Program} {w : World} {K : PySem.W.Frag} {elts : List Expr} {kk : Nat} {tpos : Pos} (a e it : Addr) :
    Turn P w K (.Tuple elts kk tpos) (IteT K a) [e, it] e (fun i h => (∃ old, IsEnum h e it ((i : Nat) : Int) old) ∧ h.IsTupleIter it a i ∧ e ≠ it) where
  mem := by simp
  obj := fun i h st b hb => by
    obtain ⟨⟨old, he⟩, ⟨o, ho, hc, hd⟩, _⟩ := st
    have e' : b = e ∨ b = it := by simpa using hb
    rcases e' with z | z
    · rw [z]; exact ⟨_, he, fun v q => nomatch q⟩
    · rw [z]; exact ⟨o, ho, fun v q => by rw [hd] at q; cases q⟩
  keep := fun i h h' st k => let ⟨⟨old, he⟩, hi, hne⟩ := st; ⟨⟨old, k e (by simp) _ he⟩, hi.at fun o q => k it (by simp) o q, hne⟩
  item := by
    intro X hP hw hK hc i pins s σ H E I hf st hg
    subst hP hw hK
    obtain ⟨⟨old, he⟩, hit, hne⟩ := st
    obtain ⟨xs, x, hq, hx⟩ := hg
    obtain ⟨its, rv, p, hz⟩ := I.tuple hq
    obtain ⟨u, hu, ru⟩ := rv.get hx
    have hel : e < s.heap.objs.size := Heap.lt_size he
    have hil : it < s.heap.objs.size := by obtain ⟨_, q, _⟩ := hit; exact Heap.lt_size q
    have hpt : s.heap.IsTuple a its.toArray := p
    have hai : a ≠ it := fun z => by
      obtain ⟨o1, h1, c1, _⟩ := hpt
      obtain ⟨o2, h2, c2, _⟩ := hit
      rw [z, h2] at h1
      cases h1
      rw [c2] at c1
      exact absurd (Value.type.inj c1) (by decide)
    have hae : e ≠ a := fun z => by
      obtain ⟨o1, h1, c1, _⟩ := hpt
      rw [← z, he] at h1
      cases h1
      exact absurd (Value.type.inj c1) (by decide)
    have hil2 : i < its.toArray.size := by
      rw [List.size_toArray]
      exact (List.getElem?_eq_some_iff.mp hu).1
    refine wpAny_pyNext_enum_itemD (draws_tuple (A := X.A.in1) (I.ok.hd hc) it a its.toArray hai) he ⟨hit, hpt⟩ hil2 hne (by simp only [List.mem_cons, List.not_mem_nil, or_false, not_or]; exact ⟨hne, hae⟩) fun y h' tk hy ho hst hT hsz hk => ?_
    have hyu : y = u := by
      have : its[i]? = some y := by simpa using hy
      rw [hu] at this
      exact (Option.some.inj this).symm
    subst hyu
    have hit' := hst.1
    refine ⟨_, rfl, wpAny_letOwnedTupleGo_enum (s := { s with heap := h', toks := tk + 1 }) ho fun h'' he' sb => ?_⟩
    have hT2 : h''.get? s.heap.objs.size = some { cls := .type "tuple", data := .seq #[.int i tk, y] } := (sb.2 _ (Nat.ne_of_gt hel)).trans hT
    have new : ObjOk X.prog X.w (upd H s.heap.objs.size (.tup [.int (i : Nat), x])) h'' s.heap.objs.size (.tup [.int (i : Nat), x]) :=
      ⟨by show 2 ≤ sizeLine; decide, [.int i tk, y], .cons ⟨_, rfl⟩ (.cons ru .nil), ⟨_, hT2, rfl, _, rfl⟩⟩
    have I1 : Inv X pins σ (upd H s.heap.objs.size (.tup [.int (i : Nat), x])) { s with heap := h'', toks := tk + 1 } :=
      I.turnedNew (ch := [e, it]) (fun b ob hb q => (sb.2 b (fun z => hb (by simp [z]))).trans (hk b ob (fun z => hb (by simp [z])) (fun z => hb (by simp [z])) q)) hf (Nat.le_refl _) new
    refine ⟨.ref s.heap.objs.size, _, I1, rfl, ⟨_, x, rfl, I.hok.fresh (Nat.le_refl _), rfl, fun ys hy => by rw [I.tuple_inj hy hq]; exact hx⟩, ⟨⟨y, ?_⟩, hit'.at fun o q => (sb.2 it (Ne.symm hne)).trans q, hne⟩, fun b hb => ?_⟩
    · have e1 : ((i + 1 : Nat) : Int) = (i : Int) + 1 := by omega
      rw [e1]; exact he'
    · have hb' : b < s.heap.objs.size := by
        have e' : b = e ∨ b = it := by simpa using hb
        rcases e' with z | z
        · rw [z]; exact hel
        · rw [z]; exact hil
      rw [upd_ne (Nat.ne_of_lt hb')]
      exact (hf b hb).1
  done := by
    intro X hP hw hK hc i pins s σ H E I hf st hg
    subst hP hw hK
    obtain ⟨⟨old, he⟩, hit, hne⟩ := st
    obtain ⟨xs, hq, hx⟩ := hg
    obtain ⟨its, rv, p, hz⟩ := I.tuple hq
    obtain ⟨f0, f1, f2, f3, f4, f5⟩ := hf it (by simp)
    have hl := rv.length
    have hpt : s.heap.IsTuple a its.toArray := p
    have hai : a ≠ it := fun z => by
      obtain ⟨o1, h1, c1, _⟩ := hpt
      obtain ⟨o2, h2, c2, _⟩ := hit
      rw [z, h2] at h1
      cases h1
      rw [c2] at c1
      exact absurd (Value.type.inj c1) (by decide)
    have hn : i = its.toArray.size := by rw [List.size_toArray]; omega
    exact wpAny_pyNext_enum_endD (draws_tuple (A := X.A.in1) (I.ok.hd hc) it a its.toArray hai) he (by rw [← hn]; exact ⟨hit, hpt⟩) fun h' eb => ⟨rfl, I.turned (t' := s.toks) (fun b o hb q => eb b o hb q) f0 f1 f3 f4 f5⟩
  self := fun A i s Q E st h => let ⟨⟨_, he⟩, _⟩ := st; wpAny_pyIter_enum he h
def iEnumT (K : PySem.W.Frag) (ta : TA) : TI := fun σ H R => ta σ H fun vs H1 => ∃ a xs, vs = [.ref a] ∧ SqT K H1 a xs ∧ R (IteT K a) H1
theorem pi_enumT {X : Cx} {e : Expr} {ta : TA} {p pos tpos : Pos} {elts : List Expr} {kk : Nat} (hg : Gl X "enumerate") (hm : X.mg "enumerate" = none) (ha : PA X [e] ta) (hs : starEach [e] X.env = [(false, eval e X.env)] := by rfl) :
    PI X (.Tuple elts kk tpos) (.Call (.Name "enumerate" p) [e] [] pos) (iEnumT X.K ta) := by
  refine ⟨fun pins s σ H R I h => ?_⟩
  refine Call_ (ld_blt I hg hm boot_enumerate (PyProof.Rows.callWith_type1 (thn (ha.run pos pins s σ H _ I h) fun us s1 ⟨vs, H1, I1, r1, q1⟩ => ?_) hs rfl))
  obtain ⟨a, xs, ex, hq, q⟩ := q1
  subst ex
  cases r1 with
  | cons r rr =>
    cases rr
    cases r
    obtain ⟨its, rv, p', hz⟩ := I1.tuple hq
    refine call_enumerate_tuple p' fun h' he hit hsz hk => wpAny_pyIter_enum he ?_
    have I2 : Inv X pins σ H1 { s1 with heap := h' } := I1.kept (t' := s1.toks) hk
    refine ⟨s1.heap.objs.size + 1, [s1.heap.objs.size + 1, s1.heap.objs.size], _, _, H1, rfl, I2, turn_enumT a (s1.heap.objs.size + 1) s1.heap.objs.size, ⟨⟨.none, he⟩, hit, Nat.succ_ne_self _⟩, fun b hb => ?_, q⟩
    have e' : b = s1.heap.objs.size + 1 ∨ b = s1.heap.objs.size := by simpa using hb
    have hle : s1.heap.objs.size ≤ b := by
      rcases e' with z | z
      · rw [z]; exact Nat.le_add_right _ _
      · rw [z]; exact Nat.le_refl _
    exact I1.fpOk hle (I1.hok.fresh hle)
theorem gx_enum {α : Type} {K : PySem.W.Frag} {a : Addr} {xs : List V} {g : TG} {tt : TT} {te : TE} {vs : List Nat} {σ0 : L2.St} {End : α → Hp → Prop} {Yd : α → V → Hp → (α → Hp → Prop) → Prop} {a0 : α} {H0 : Hp} (Pv : Nat → α → Hp → Prop) (h0 : Pv 0 a0 H0)
    (hl : ∀ i c H, i ≤ xs.length → Pv i c H → SqT K H a xs)
    (hs : ∀ i x T c H, xs[i]? = some x → H T = none → Pv i c H → g (.ref T) σ0 (upd H T (.tup [.int (i : Nat), x])) fun σ2 H2 => wipe σ2 vs = σ0 ∧ tt σ2 H2 fun b H3 => if b = true then te σ2 H3 fun y H4 => Yd c y H4 (Pv (i + 1)) else Pv (i + 1) c H3) (hd : ∀ c H, Pv xs.length c H → End c H) :
    ∃ W : Nat → Nat → α → Hp → Prop, (∃ m, W 0 m a0 H0) ∧ tGx (IteT K a) g tt te σ0 vs End Yd W := by
  refine ⟨fun i m c H => m = xs.length - i ∧ i ≤ xs.length ∧ Pv i c H, ⟨xs.length, rfl, Nat.zero_le _, h0⟩, ?_⟩
  rintro i m c H ⟨rfl, hi, p⟩
  by_cases hlt : i < xs.length
  · have hx : xs[i]? = some xs[i] := List.getElem?_eq_getElem hlt
    refine .inr ⟨⟨xs, xs[i], hl i c H hi p, hx⟩, Pv (i + 1), fun c' H' p' => ⟨xs.length - (i + 1), by omega, rfl, hlt, p'⟩, fun x H' y => ?_⟩
    obtain ⟨T, x1, rfl, nT, rfl, e1⟩ := y
    exact hs i x1 T c H (e1 xs (hl i c _ hi p)) nT p
  · have e : i = xs.length := by omega
    subst e
    exact .inl ⟨⟨xs, hl _ c H hi p, rfl⟩, hd c H p⟩
theorem gx_str {α : Type} {z : Str} {g : TG} {tt : TT} {te : TE} {vs : List Nat} {σ0 : L2.St} {End : α → Hp → Prop} {Yd : α → V → Hp → (α → Hp → Prop) → Prop} {a0 : α} {H0 : Hp} (Pv : Nat → α → Hp → Prop) (h0 : Pv 0 a0 H0)
    (hs : ∀ i x c H, z.cps[i]? = some x → Pv i c H → g (.str ⟨#[x]⟩) σ0 H fun σ2 H2 => wipe σ2 vs = σ0 ∧ tt σ2 H2 fun b H3 => if b = true then te σ2 H3 fun y H4 => Yd c y H4 (Pv (i + 1)) else Pv (i + 1) c H3) (hd : ∀ c H, Pv z.cps.size c H → End c H) :
    ∃ W : Nat → Nat → α → Hp → Prop, (∃ m, W 0 m a0 H0) ∧ tGx (Its z) g tt te σ0 vs End Yd W := by
  refine ⟨fun i m c H => m = z.cps.size - i ∧ i ≤ z.cps.size ∧ Pv i c H, ⟨z.cps.size, rfl, Nat.zero_le _, h0⟩, ?_⟩
  rintro i m c H ⟨rfl, hi, p⟩
  by_cases hlt : i < z.cps.size
  · refine .inr ⟨hlt, Pv (i + 1), fun c' H' p' => ⟨z.cps.size - (i + 1), by omega, rfl, hlt, p'⟩, fun x H' y => ?_⟩
    obtain ⟨rfl, ch, hc, rfl⟩ := y
    exact hs i ch c _ hc p
  · have e : i = z.cps.size := by omega
    subst e
    exact .inl ⟨Nat.le_refl _, hd c H p⟩

/-! ### nets, and the words of nets -/
abbrev Gt := List Bool × List Nat
def gD (g : Gt) : PyData := .tuple [.str (tabOf g.1), .tuple ((g.2.map Int.ofNat).map PyData.int)]
def netD (many : Int) (gs : List Gt) : PyData := .tuple [.int many, .tuple (gs.map gD)]
def rowD (r : List Int) : PyData := .tuple (r.map PyData.int)
def chD (a b : List Int) : PyData := .tuple [rowD a, rowD b]
def GtOk (n : Nat) (g : Gt) : Prop := g.1.length = 2 ^ g.2.length ∧ 1 ≤ g.2.length ∧ g.2.length ≤ 3 ∧ ∀ i ∈ g.2, i < n
def NetOk (n : Nat) (gs : List Gt) : Prop := ∀ k g, gs[k]? = some g → GtOk (n + k) g
def Row01 (r : List Int) : Prop := ∀ x ∈ r, x = 0 ∨ x = 1
mutual
theorem Tk.gr {H H' : Hp} (s : Gr H H') : ∀ {v : V} {d : PyData}, Tk H v d → Tk H' v d
  | _, _, .bl b => .bl b
  | _, _, .int i => .int i
  | _, _, .str x => .str x
  | _, _, .lst h t => .lst (s.lst h) (t.gr s)
  | _, _, .tup h t => .tup (s.tup h) (t.gr s)
theorem TkAll.gr {H H' : Hp} (s : Gr H H') : ∀ {vs : List V} {ds : List PyData}, TkAll H vs ds → TkAll H' vs ds
  | _, _, .nil => .nil
  | _, _, .cons h t => .cons (h.gr s) (t.gr s)
end
theorem Tk.row_inv {H : Hp} {v : V} {r : List Int} (h : Tk H v (rowD r)) : ∃ a, v = .ref a ∧ H a = some (.tup (r.map V.int)) := by
  obtain ⟨a, xs, rfl, ha, t⟩ := h.tup_inv
  rw [t.int_inv] at ha
  exact ⟨a, rfl, ha⟩
theorem Tk.ch_inv {H : Hp} {v : V} {a b : List Int} (h : Tk H v (chD a b)) : ∃ c ra rb, v = .ref c ∧ H c = some (.tup [.ref ra, .ref rb]) ∧ H ra = some (.tup (a.map V.int)) ∧ H rb = some (.tup (b.map V.int)) := by
  obtain ⟨c, xs, rfl, hc, t⟩ := h.tup_inv
  cases t with
  | cons h1 t => cases t with
    | cons h2 t =>
      cases t
      obtain ⟨ra, rfl, ha⟩ := h1.row_inv
      obtain ⟨rb, rfl, hb⟩ := h2.row_inv
      exact ⟨c, ra, rb, rfl, hc, ha, hb⟩
theorem Tk.net_inv {H : Hp} {v : V} {m : Int} {gs : List Gt} (h : Tk H v (netD m gs)) : ∃ n g xs, v = .ref n ∧ H n = some (.tup [.int m, .ref g]) ∧ H g = some (.tup xs) ∧ TkAll H xs (gs.map gD) := by
  obtain ⟨n, xs, rfl, hn, t⟩ := h.tup_inv
  cases t with
  | cons h1 t => cases t with
    | cons h2 t =>
      cases t
      cases h1
      obtain ⟨g, ys, rfl, hg, t2⟩ := h2.tup_inv
      exact ⟨n, g, ys, rfl, hn, hg, t2⟩
theorem Tk.gt_inv {H : Hp} {v : V} {g : Gt} (h : Tk H v (gD g)) : ∃ a i, v = .ref a ∧ H a = some (.tup [.str (tabOf g.1), .ref i]) ∧ H i = some (.tup ((g.2.map Int.ofNat).map V.int)) := by
  obtain ⟨a, xs, rfl, ha, t⟩ := h.tup_inv
  cases t with
  | cons h1 t => cases t with
    | cons h2 t =>
      cases t
      cases h1
      obtain ⟨i, rfl, hi⟩ := (show Tk H _ (rowD (g.2.map Int.ofNat)) from h2).row_inv
      exact ⟨a, i, rfl, ha, hi⟩
theorem TkAll.at {H : Hp} {α : Type} {f : α → PyData} {xs : List V} {ds : List α} (t : TkAll H xs (ds.map f)) {j : Nat} {v : V} (h : xs[j]? = some v) : ∃ x, ds[j]? = some x ∧ Tk H v (f x) := by
  obtain ⟨dx, hdx, tx⟩ := t.get h
  rw [List.getElem?_map] at hdx
  cases hz : ds[j]? with
  | none => rw [hz] at hdx; cases hdx
  | some x =>
    rw [hz] at hdx
    cases Option.some.inj hdx
    exact ⟨x, rfl, tx⟩
theorem TkAll.at' {H : Hp} {α : Type} {f : α → PyData} {xs : List V} {ds : List α} (t : TkAll H xs (ds.map f)) {j : Nat} {x : α} (h : ds[j]? = some x) : ∃ v, xs[j]? = some v ∧ Tk H v (f x) := by
  have hl := t.length
  rw [List.length_map] at hl
  have hj := (List.getElem?_eq_some_iff.mp h).1
  obtain ⟨y, hy, ty⟩ := t.at (List.getElem?_eq_getElem (l := xs) (i := j) (by omega))
  cases Option.some.inj (h.symm.trans hy)
  exact ⟨_, List.getElem?_eq_getElem _, ty⟩
theorem grow_upd {H H' : Hp} {p : Addr} {o : HO} (g : Gr H H') (n : H' p = none) : Gr H (upd H' p o) := g.trans (Gr.none n)
/-- no table, no older list: only the list at D is written -/
def GrD (D : Addr) (H H' : Hp) : Prop := Gr H (hd1 D H')
theorem GrD.gr {D : Addr} {H H' : Hp} (g : GrD D H H') : Gr H H' := g.trans (Gr.of hd1_le)
theorem TabG_hd1 {D P : Addr} {H : Hp} (h : GxR.TabG H P) (n : D ≠ P) : GxR.TabG (hd1 D H) P := by
  obtain ⟨ps, e, t⟩ := h
  exact ⟨ps, by rw [hd1_at (Ne.symm n)]; exact e, t⟩
theorem GrD.new {D : Addr} {H : Hp} {o : HO} (n : H D = none) : GrD D H (upd H D o) := Gr.of (hd1_of (same_upd n) n)
theorem hd1_gr {D : Addr} {H H' : Hp} (g : Gr H H') (hD : ∀ P, GxR.TabG H P → D ≠ P) : Gr (hd1 D H) (hd1 D H') := by
  refine ⟨fun b o n e => ?_, fun b t => ?_⟩
  · have hb : b ≠ D := fun z => by
      unfold hd1 at e
      rw [if_pos z] at e; cases e
    rw [hd1_at hb] at e ⊢
    exact g.1 b o n e
  · obtain ⟨ps, e, t⟩ := t
    have e' := hd1_le _ _ e
    exact TabG_hd1 (g.2 b ⟨ps, e', t⟩) (hD b ⟨ps, e', t⟩)
theorem GrD.then {D : Addr} {H H1 H2 : Hp} {xs : List V} (a : GrD D H H1) (hD : H1 D = some (.lst xs)) (b : Gr H1 H2) : GrD D H H2 := a.trans (hd1_gr b fun P ⟨ps, e, _⟩ z => by
  rw [← z, hD] at e
  cases e)
theorem GrD.set {D : Addr} {H H1 : Hp} {o : HO} (a : GrD D H H1) : GrD D H (upd H1 D o) := a.trans (Gr.of hd1_upd)

section
variable {P : Program} {w : World} {K : PySem.W.Frag} {mg : Str → Option Value} {base : Heap}
/-! ### pairs of words -/
def WordAt (H : Hp) (p : Addr) (a b : Int) (c : Bool) : Prop := H p = some (.tup [.int a, .int b, .bl c])
def pairsM (f l : Int) (c : Bool) : List (Int × Int) := if c = true then [(0, 0), (0, 1), (1, 0), (1, 1)] else if f = l then [(f, f)] else if f = 0 then [(0, 0), (0, 1), (1, 1)] else [(0, 0), (1, 0), (1, 1)]
def PairAt (H : Hp) (k : Addr × Int × Int) : Prop := H k.1 = some (.tup [.int k.2.1, .int k.2.2])
def PairsAt (H : Hp) (r : Addr) (ps : List (Int × Int)) : Prop := ∃ ks : List (Addr × Int × Int), H r = some (.tup (ks.map fun k => V.ref k.1)) ∧ (∀ k ∈ ks, PairAt H k) ∧ ks.map (·.2) = ps
theorem PairsAt.same {H H' : Hp} {r : Addr} {ps : List (Int × Int)} (h : PairsAt H r ps) (s : Same H H') : PairsAt H' r ps := by
  obtain ⟨ks, h1, h2, h3⟩ := h
  exact ⟨ks, s _ _ h1, fun k hk => s _ _ (h2 k hk), h3⟩
theorem sorted_one {α : Type} (c : α → Int) : ∀ (T M : List α), T.Pairwise (fun x y => c x < c y) → M.Nodup → M.Pairwise (fun x y => c x ≤ c y) → (∀ x, x ∈ M ↔ x ∈ T) → M = T
  | [], M, _, _, _, hm => by
    cases M with
    | nil => rfl
    | cons m r => cases (hm m).mp (List.mem_cons_self ..)
  | t :: T, M, hT, hn, hp, hm => by
    cases M with
    | nil => cases (hm t).mpr (List.mem_cons_self ..)
    | cons m r =>
      have hT' := List.pairwise_cons.mp hT
      have hn' := List.nodup_cons.mp hn
      have hp' := List.pairwise_cons.mp hp
      have e : m = t := by
        rcases List.mem_cons.mp ((hm m).mp (List.mem_cons_self ..)) with h | h
        · exact h
        · have h1 := hT'.1 m h
          rcases List.mem_cons.mp ((hm t).mpr (List.mem_cons_self ..)) with h2 | h2
          · exact h2.symm
          · have h3 := hp'.1 t h2
            omega
      subst e
      rw [sorted_one c T r hT'.2 hn'.2 hp'.2 fun x => ⟨fun h => ?_, fun h => ?_⟩]
      · rcases List.mem_cons.mp ((hm x).mp (List.mem_cons_of_mem _ h)) with h2 | h2
        · subst h2
          exact absurd h hn'.1
        · exact h2
      · rcases List.mem_cons.mp ((hm x).mpr (List.mem_cons_of_mem _ h)) with h2 | h2
        · subst h2
          have := hT'.1 x h
          omega
        · exact h2
def sp_pairs_of (K : PySem.W.Frag) : Sp := fun vs H Q _ => ∃ (wd : Addr) (f l : Int) (c : Bool), vs = [.ref wd] ∧ WordAt H wd f l c ∧ (f = 0 ∨ f = 1) ∧ (l = 0 ∨ l = 1) ∧ ∀ r H', Same H H' → PairsAt H' r (pairsM f l c) → Q (.ref r) H'
theorem code2 (x y : Int) : TS.code 64 [x, y] = x * 64 + y := code_pair x y
theorem pairs_sorted {f l : Int} (hf : f = 0 ∨ f = 1) (hl : l = 0 ∨ l = 1) {M : List (List Int)} (hn : M.Nodup) (hp : M.Pairwise fun x y => TS.code 64 x ≤ TS.code 64 y) (h1 : ∀ x ∈ M, x ∈ [[f, f], [f, l], [l, l]]) (h2 : ∀ x ∈ [[f, f], [f, l], [l, l]], x ∈ M) : M.map (fun x => (x.getD 0 0, x.getD 1 0)) = pairsM f l false := by
  have key : ∀ T : List (List Int), T.Pairwise (fun x y => TS.code 64 x < TS.code 64 y) → (∀ x ∈ [[f, f], [f, l], [l, l]], x ∈ T) → (∀ x ∈ T, x ∈ [[f, f], [f, l], [l, l]]) → M = T := fun T hT a b =>
    sorted_one (TS.code 64) T M hT hn hp fun x => ⟨fun h => a x (h1 x h), fun h => h2 x (b x h)⟩
  rcases hf with rfl | rfl <;> rcases hl with rfl | rfl
  · rw [key [[0, 0]] (by decide) (by decide) (by decide)]; rfl
  · rw [key [[0, 0], [0, 1], [1, 1]] (by decide) (by decide) (by decide)]; rfl
  · rw [key [[0, 0], [1, 0], [1, 1]] (by decide) (by decide) (by decide)]; rfl
  · rw [key [[1, 1]] (by decide) (by decide) (by decide)]; rfl
theorem ok_pairs_of (T : Tx K mg) : FnOk P w K mg base CX0 1 T.f_pairs_of T.fd_pairs_of ["word"] (sp_pairs_of K) := by
  refine T.F_pairs_of.ok sc_pairs_of (fun vs H Q E h => ?_) (fun cdv A outer s H vs Q E hr h => ?_)
  · obtain ⟨wd, f, l, c, rfl, _⟩ := h
    rfl
  · obtain ⟨wd, f, l, c, rfl, hw, hf, hl, q⟩ := h
    refine ⟨_, (pss_cons (ps_asg (pv 0) (pg_tup rfl (pgs_cons (pg_name (i := 1) sc_pairs_of.nd rfl (by first | exact .inl rfl | exact .inr rfl)) (pgs_cons (pg_name (i := 2) sc_pairs_of.nd rfl (by first | exact .inl rfl | exact .inr rfl)) (pgs_cons (pg_name (i := 3) sc_pairs_of.nd rfl (by first | exact .inl rfl | exact .inr rfl)) pgs_nil))))) (pss_cons (ps_if (pt_val (pv 3)) (pss_one (ps_ret (pe_tup (pa_cons (pe_tup (pa_cons pe_int (pa_cons pe_int pa_nil))) (pa_cons (pe_tup (pa_cons pe_int (pa_cons pe_int pa_nil))) (pa_cons (pe_tup (pa_cons pe_int (pa_cons pe_int pa_nil))) (pa_cons (pe_tup (pa_cons pe_int (pa_cons pe_int pa_nil))) pa_nil))))))) pss_nil) (pss_one (ps_ret (pe_callTy call_tuple_of (by rfl) T.m_tuple (by decide +kernel) (pa_cons (pe_callB (cr_sortedT rfl) (by rfl) T.m_sorted (by decide +kernel) (pa_cons (pe_callTy (cr_setOfT rfl hr.units) (by rfl) T.m_set (by decide +kernel) (pa_cons (pe_lst (pa_cons (pe_tup (pa_cons (pv 1) (pa_cons (pv 1) pa_nil))) (pa_cons (pe_tup (pa_cons (pv 1) (pa_cons (pv 2) pa_nil))) (pa_cons (pe_tup (pa_cons (pv 2) (pa_cons (pv 2) pa_nil))) pa_nil)))) pa_nil)) pa_nil)) pa_nil)))))), ?_⟩
    refine ⟨.ref wd, rfl, wd, _, rfl, SqT.of hw, rfl, _, _, rfl, _, _, rfl, _, _, rfl, rfl, ?_⟩
    refine ⟨.bl c, rfl, c, rfl, ?_⟩
    cases c with
    | true =>
      refine iteT ?_
      refine ⟨sl2, fun t1 n1 => ⟨sl2, fun t2 n2 => ⟨sl2, fun t3 n3 => ⟨sl2, fun t4 n4 => ⟨sl4, fun r nr => ?_⟩⟩⟩⟩⟩
      have e1 := same_upd (o := .tup [.int 0, .int 0]) n1
      have e2 := same_upd (o := .tup [.int 0, .int 1]) n2
      have e3 := same_upd (o := .tup [.int 1, .int 0]) n3
      have e4 := same_upd (o := .tup [.int 1, .int 1]) n4
      have e5 := same_upd (o := .tup [.ref t1, .ref t2, .ref t3, .ref t4]) nr
      refine q r _ ((((e1.trans e2).trans e3).trans e4).trans e5) ⟨[(t1, 0, 0), (t2, 0, 1), (t3, 1, 0), (t4, 1, 1)], upd_same, fun k hk => ?_, rfl⟩
      rcases List.mem_cons.mp hk with rfl | hk
      · exact e5 _ _ (e4 _ _ (e3 _ _ (e2 _ _ upd_same)))
      · rcases List.mem_cons.mp hk with rfl | hk
        · exact e5 _ _ (e4 _ _ (e3 _ _ upd_same))
        · rcases List.mem_cons.mp hk with rfl | hk
          · exact e5 _ _ (e4 _ _ upd_same)
          · rcases List.mem_cons.mp hk with rfl | hk
            · exact e5 _ _ upd_same
            · cases hk
    | false =>
      refine iteF ?_
      refine ⟨.int f, rfl, .int f, rfl, sl2, fun t1 n1 => ⟨.int f, rfl, .int l, rfl, sl2, fun t2 n2 => ⟨.int l, rfl, .int l, rfl, sl2, fun t3 n3 => ⟨sl3, fun li nli => ?_⟩⟩⟩⟩
      have e1 := same_upd (o := .tup [.int f, .int f]) n1
      have e2 := same_upd (o := .tup [.int f, .int l]) n2
      have e3 := same_upd (o := .tup [.int l, .int l]) n3
      have e4 := same_upd (o := .lst [.ref t1, .ref t2, .ref t3]) nli
      have eA := ((e1.trans e2).trans e3).trans e4
      have g1 := e4 _ _ (e3 _ _ (e2 _ _ (upd_same (H := H) (a := t1) (o := .tup [.int f, .int f]))))
      have g2 := e4 _ _ (e3 _ _ (upd_same (a := t2) (o := .tup [.int f, .int l])))
      have g3 := e4 _ _ (upd_same (a := t3) (o := .tup [.int l, .int l]))
      have g4 := upd_same (H := upd (upd (upd H t1 (.tup [.int f, .int f])) t2 (.tup [.int f, .int l])) t3 (.tup [.int l, .int l])) (a := li) (o := .lst [.ref t1, .ref t2, .ref t3])
      revert eA g1 g2 g3 g4
      generalize upd (upd (upd (upd H t1 (.tup [.int f, .int f])) t2 (.tup [.int f, .int l])) t3 (.tup [.int l, .int l])) li (.lst [.ref t1, .ref t2, .ref t3]) = H1
      intro eA g1 g2 g3 g4
      have gk : ∀ p ∈ ([(t1, [f, f]), (t2, [f, l]), (t3, [l, l])] : List (Addr × List Int)), H1 p.1 = some (.tup (p.2.map V.int)) ∧ p.2 ∈ [[f, f], [f, l], [l, l]] := fun p hp => by
        rcases List.mem_cons.mp hp with rfl | hp
        · exact ⟨g1, by simp⟩
        · rcases List.mem_cons.mp hp with rfl | hp
          · exact ⟨g2, by simp⟩
          · rcases List.mem_cons.mp hp with rfl | hp
            · exact ⟨g3, by simp⟩
            · cases hp
      refine ⟨li, [(t1, [f, f]), (t2, [f, l]), (t3, [l, l])], rfl, SqL.of g4, fun p hp => SqT.of (gk p hp).1, by show 3 < 64; decide, fun sa L nsa hL1 hL2 => ?_⟩
      have e5 := same_upd (o := SetTO P w sa L) nsa
      have b01 : ∀ x ∈ [[f, f], [f, l], [l, l]], x.length = 2 ∧ TS.Bd 64 x := by
        rcases hf with rfl | rfl <;> rcases hl with rfl | rfl <;> (unfold TS.Bd; decide)
      refine ⟨sa, L, 2, 64, rfl, upd_same, fun p hp => SqT.of (e5 _ _ (gk p (hL1 p hp)).1), by decide, fun p hp => b01 _ (gk p (hL1 p hp)).2, fun L' pl pm nd few so npl => ?_⟩
      have e6 := same_upd (o := .lst (L'.map fun q => V.ref q.1)) npl
      refine ⟨pl, _, rfl, .inl ⟨SqL.of upd_same, fun r nr => ?_⟩⟩
      have e7 := same_upd (o := .tup (L'.map fun q => V.ref q.1)) nr
      refine q r _ (eA.trans (e5.trans (e6.trans e7))) ⟨L'.map fun q => (q.1, q.2.getD 0 0, q.2.getD 1 0), ?_, fun k hk => ?_, ?_⟩
      · rw [upd_same, List.map_map]
        rfl
      · obtain ⟨p, hp, rfl⟩ := List.mem_map.mp hk
        have hp2 := gk p (hL1 p (pm.mem_iff.mp hp))
        have := e7 _ _ (e6 _ _ (e5 _ _ hp2.1))
        unfold PairAt
        rw [this]
        obtain ⟨pa, pb⟩ := p
        rcases List.mem_cons.mp hp2.2 with h | h
        · dsimp only at h ⊢; rw [h]; rfl
        · rcases List.mem_cons.mp h with h | h
          · dsimp only at h ⊢; rw [h]; rfl
          · rcases List.mem_cons.mp h with h | h
            · dsimp only at h ⊢; rw [h]; rfl
            · cases h
      · rw [List.map_map, ← pairs_sorted hf hl (M := L'.map (·.2)) nd (List.pairwise_map.mpr so) (fun x hx => ?_) (fun x hx => ?_), List.map_map]
        · rfl
        · obtain ⟨p, hp, rfl⟩ := List.mem_map.mp hx
          exact (gk p (hL1 p (pm.mem_iff.mp hp))).2
        · have : x ∈ L.map (·.2) := by
            rcases List.mem_cons.mp hx with rfl | hx
            · exact hL2 (t1, [f, f]) (by simp)
            · rcases List.mem_cons.mp hx with rfl | hx
              · exact hL2 (t2, [f, l]) (by simp)
              · rcases List.mem_cons.mp hx with rfl | hx
                · exact hL2 (t3, [l, l]) (by simp)
                · cases hx
          exact (pm.map (·.2)).mem_iff.mpr this

theorem ok_table_worth (T : Tx K mg) : FnOk P w K mg base CX0 1 T.f_table_worth T.fd_table_worth ["table", "worths"] (spGate K) := by
  refine T.F_table_worth.ok sc_table_worth (fun vs H Q E h => ?_) (fun cdv A outer s H vs Q E hr h => ?_)
  · obtain ⟨bs, la, ws, rfl, _⟩ := h
    rfl
  · obtain ⟨bs, la, ws, rfl, hS, hw, hb, h3, q⟩ := h
    obtain ⟨b, p0, p1, p2, p3, p4⟩ := gate_read hw hb h3
    refine ⟨_, (pss_cons (ps_set (i := 2) sc_table_worth.nd rfl (by first | exact .inl rfl | exact .inr rfl) pe_int) (pss_cons (ps_for PassesOwn.never rfl (pi_list (pv 1)) (pg_name (i := 3) sc_table_worth.nd rfl (by first | exact .inl rfl | exact .inr rfl)) (pss_one (ps_set (i := 2) sc_table_worth.nd rfl (by first | exact .inl rfl | exact .inr rfl) (pe_op op_add (pe_op op_mul pe_int (pv 2)) (pv 3))))) (pss_one (ps_ret (pe_callTy call_int_str (by rfl) T.m_int (by decide +kernel) (pa_cons (pe_item_str (pv 0) (pv 2) (fun _ _ => rfl)) pa_nil)))))), ?_⟩
    refine ⟨.ref la, rfl, la, rfl, ⟨_, hS⟩, for_list (K := K) (a := la) (xs := ws.map V.int) (fun i σ H' => ∃ y, σ = [some (.str (tabOf bs)), some (.ref la), some (.int (plc (ws.take i))), y] ∧ H' = H) ⟨none, rfl, rfl⟩ (fun i σ H' _ ⟨_, _, e⟩ => by rw [e]; exact hS) ?_ ?_⟩
    · rintro i x σ H' hx ⟨y, rfl, rfl⟩
      obtain ⟨u, hu, rfl⟩ : ∃ u, ws[i]? = some u ∧ x = V.int u := by
        rw [List.getElem?_map] at hx
        cases hz : ws[i]? with
        | none => rw [hz] at hx; cases hx
        | some u => rw [hz] at hx; exact ⟨u, rfl, (Option.some.inj hx).symm⟩
      refine ⟨.int (plc (ws.take i)), rfl, 2, _, rfl, rfl, .inl ⟨by decide, by decide⟩, .int u, rfl, _, _, rfl, rfl, some (.int u), ?_, rfl⟩
      rw [plc_take hu]
      rfl
    · rintro σ H' ⟨y, rfl, rfl⟩
      rw [List.length_map, List.take_length]
      refine ⟨.str (tabOf bs), rfl, .int (plc ws), rfl, _, _, _, rfl, rfl, p0, p1, p2, p3, _, _, rfl, int_sign b, (show 1 ≤ 640 by decide), ?_⟩
      rw [← p4]
      exact q

end
end Gk

set_option Elab.async false
set_option linter.all false
set_option maxRecDepth 100000
set_option maxHeartbeats 1000000
namespace Gk
open PySem PySem.Spec PyProof.Rows L2
section
variable {P : Program} {w : World} {K : PySem.W.Frag} {mg : Str → Option Value} {base : Heap}
/-! ### all choices -/
def stepC {α : Type} (cs : List (List α)) (os : List α) : List (List α) := cs.flatMap fun c => os.map fun o => c ++ [o]
def chs {α : Type} (ls : List (List α)) : List (List α) := ls.foldl stepC [[]]
theorem chs_snoc {α : Type} (ls : List (List α)) (os : List α) : chs (ls ++ [os]) = stepC (chs ls) os := by
  unfold chs
  rw [List.foldl_append]
  rfl
theorem stepC_snoc {α : Type} (cs : List (List α)) (c : List α) (os : List α) : stepC (cs ++ [c]) os = stepC cs os ++ os.map fun o => c ++ [o] := by
  unfold stepC
  rw [List.flatMap_append]
  simp
theorem stepC_len {α : Type} (cs : List (List α)) (os : List α) : (stepC cs os).length = cs.length * os.length := by
  induction cs with
  | nil => simp [stepC]
  | cons c r ih =>
    have : stepC (c :: r) os = (os.map fun o => c ++ [o]) ++ stepC r os := by simp [stepC]
    rw [this, List.length_append, List.length_map, ih, List.length_cons, Nat.succ_mul]
    omega
theorem chs_len {α : Type} (m : Nat) (hm : 1 ≤ m) : ∀ (n : Nat) (ls : List (List α)), ls.length = n → (∀ l ∈ ls, l.length ≤ m) → (chs ls).length ≤ m ^ n := by
  intro n
  induction n with
  | zero =>
    intro ls h _
    cases List.eq_nil_of_length_eq_zero h
    exact Nat.le_refl _
  | succ n ih =>
    intro ls h hl
    have hne : ls ≠ [] := fun z => by rw [z] at h; cases h
    obtain ⟨r, x, rfl⟩ : ∃ r x, ls = r ++ [x] := ⟨ls.dropLast, ls.getLast hne, (List.dropLast_concat_getLast hne).symm⟩
    have hr := ih r (by rw [List.length_append] at h; simpa using h) fun l h' => hl l (List.mem_append_left _ h')
    rw [chs_snoc, stepC_len, Nat.pow_succ]
    exact Nat.mul_le_mul hr (hl x (by simp))
theorem chs_width {α : Type} : ∀ (ls : List (List α)) (c : List α), c ∈ chs ls → c.length = ls.length := by
  have key : ∀ (n : Nat) (ls : List (List α)), ls.length = n → ∀ c ∈ chs ls, c.length = n := by
    intro n
    induction n with
    | zero =>
      intro ls h c hc
      cases List.eq_nil_of_length_eq_zero h
      cases List.mem_singleton.mp hc
      rfl
    | succ n ih =>
      intro ls h c hc
      have hne : ls ≠ [] := fun z => by rw [z] at h; cases h
      obtain ⟨r, x, rfl⟩ : ∃ r x, ls = r ++ [x] := ⟨ls.dropLast, ls.getLast hne, (List.dropLast_concat_getLast hne).symm⟩
      rw [chs_snoc] at hc
      obtain ⟨c0, h0, hc⟩ := List.mem_flatMap.mp hc
      obtain ⟨o, _, rfl⟩ := List.mem_map.mp hc
      rw [List.length_append, ih r (by rw [List.length_append] at h; simpa using h) c0 h0]
      rfl
  exact fun ls c h => key _ ls rfl c h
theorem chs_map {α β : Type} (f : α → β) : ∀ (n : Nat) (ls : List (List α)), ls.length = n → chs (ls.map (List.map f)) = (chs ls).map (List.map f) := by
  intro n
  induction n with
  | zero =>
    intro ls h
    cases List.eq_nil_of_length_eq_zero h
    rfl
  | succ n ih =>
    intro ls h
    have hne : ls ≠ [] := fun z => by rw [z] at h; cases h
    obtain ⟨r, x, rfl⟩ : ∃ r x, ls = r ++ [x] := ⟨ls.dropLast, ls.getLast hne, (List.dropLast_concat_getLast hne).symm⟩
    rw [List.map_append, List.map_singleton, chs_snoc, chs_snoc, ih r (by rw [List.length_append] at h; simpa using h)]
    unfold stepC
    rw [List.flatMap_map, List.map_flatMap]
    congr 1
    funext c
    simp
def sp_choices_of (K : PySem.W.Frag) : Sp := fun vs H Q _ => ∃ (la : Addr) (xs : List V) (os : List (List PyData)), vs = [.ref la] ∧ H la = some (.lst xs) ∧ TkAll H xs (os.map PyData.tuple) ∧ (os.length ≤ 3 ∨ os.length ≤ 8 ∧ ∀ o ∈ os, o.length ≤ 2) ∧ (∀ o ∈ os, o.length ≤ 8) ∧ ∀ r H', Same H H' → Tk H' (.ref r) (.tuple ((chs os).map PyData.tuple)) → Q (.ref r) H'
theorem ok_choices_of (T : Tx K mg) : FnOk P w K mg base CX0 1 T.f_choices_of T.fd_choices_of ["lists"] (sp_choices_of K) := by
  refine T.F_choices_of.ok sc_choices_of (fun vs H Q E h => ?_) (fun cdv A outer s H vs Q E hr h => ?_)
  · obtain ⟨la, xs, os, rfl, _⟩ := h
    rfl
  · obtain ⟨la, xs, os, rfl, hla, tk, o3, o8, q⟩ := h
    have big : ∀ i, i ≤ os.length → (chs (os.take i)).length ≤ 512 := fun i hi => by
      rcases o3 with o3 | ⟨o3, o2⟩
      · have h1 := chs_len 8 (by decide) i (os.take i) (by rw [List.length_take]; omega) fun l hl => o8 l (List.mem_of_mem_take hl)
        have h2 : 8 ^ i ≤ 8 ^ 3 := Nat.pow_le_pow_right (by decide) (by omega)
        omega
      · have h1 := chs_len 2 (by decide) i (os.take i) (by rw [List.length_take]; omega) fun l hl => o2 l (List.mem_of_mem_take hl)
        have h2 : 2 ^ i ≤ 2 ^ 8 := Nat.pow_le_pow_right (by decide) (by omega)
        omega
    refine ⟨_, (pss_cons (ps_set (i := 1) sc_choices_of.nd rfl (by first | exact .inl rfl | exact .inr rfl) (pe_lst (pa_cons (pe_tup pa_nil) pa_nil))) (pss_cons (ps_for PassesOwn.never rfl (pi_list (pv 0)) (pg_name (i := 2) sc_choices_of.nd rfl (by first | exact .inl rfl | exact .inr rfl)) (pss_one (ps_setLc2 (i := 1) (own := [("choice", 3), ("option", 4)]) (vs1 := [4]) (by rfl) sc_choices_of.nd rfl rfl (sw_true rfl rfl rfl (by decide +kernel)) (pi_list (pv 1)) (blkOk_by (own := [("choice", 3), ("option", 4)]) (N := ["lists", "choices", "options", "choice", "option"]) (sc := defScope s_choices_of) (by decide +kernel)) (by decide) (fun _ _ _ _ _ => (pg_name (i := 3) sc_choices_of.nd rfl (by first | exact .inl rfl | exact .inr rfl))) (fun _ _ _ _ _ => pts_nil) (fun _ _ _ _ _ => (show PI _ _ _ (iTup K _) from pi_tup (pv 2))) (fun _ _ _ _ _ => (pg_name (i := 4) sc_choices_of.nd rfl (by first | exact .inl rfl | exact .inr rfl))) (fun _ _ _ _ _ => pts_nil) (fun _ _ _ _ _ => (pe_op (show OpR _ _ (rCatA K) from op_catA) (pv 3) (pe_tup (pa_cons (pv 4) pa_nil))))))) (pss_one (ps_ret (pe_callTy call_tuple_of (by rfl) T.m_tuple (by decide +kernel) (pa_cons (pv 1) pa_nil)))))), ?_⟩
    refine ⟨Nat.zero_le _, fun t0 n0 => ⟨sl1, fun c0 nc0 => ?_⟩⟩
    refine ⟨.ref la, rfl, la, rfl, ⟨_, SqL.of (same_upd nc0 _ _ (same_upd n0 _ _ hla))⟩, for_list (K := K) (a := la) (xs := xs) (fun i σ H' => ∃ ca y2, σ = [some (.ref la), some (.ref ca), y2, none, none] ∧ Same H H' ∧ Tk H' (.ref ca) (.list ((chs (os.take i)).map PyData.tuple)))
      ⟨c0, none, rfl, (same_upd n0).trans (same_upd nc0), .lst upd_same (.cons (.tup (same_upd nc0 _ _ upd_same) .nil) .nil)⟩ (fun i σ H' _ ⟨_, _, _, z, _⟩ => SqL.of (z _ _ hla)) ?_ ?_⟩
    · rintro i x σ H1 hx ⟨ca, y2, rfl, s1, tc⟩
      obtain ⟨dx, hdx, tx⟩ := tk.get hx
      obtain ⟨op, hop, rfl⟩ : ∃ op, os[i]? = some op ∧ dx = .tuple op := by
        rw [List.getElem?_map] at hdx
        cases hz : os[i]? with
        | none => rw [hz] at hdx; cases hdx
        | some op => rw [hz] at hdx; exact ⟨op, rfl, (Option.some.inj hdx).symm⟩
      obtain ⟨oa, ys, rfl, hoa, ty⟩ := tx.tup_inv
      obtain ⟨ca', cs, e, hca, tcs⟩ := tc.lst_inv
      cases e
      have hi : i < os.length := (List.getElem?_eq_some_iff.mp hop).1
      have o8' := o8 op (List.mem_of_getElem? hop)
      have ytake : chs (os.take (i + 1)) = stepC (chs (os.take i)) op := by
        rw [List.take_add_one, hop]
        exact chs_snoc _ _
      have bigN := big (i + 1) hi
      rw [ytake] at bigN
      refine ⟨.ref ca, rfl, ca, rfl, ⟨_, SqL.of hca⟩, fun D nD => ?_⟩
      have lcs : cs.length = (chs (os.take i)).length := by rw [tcs.length, List.length_map]
      -- both walks
      refine ⟨fun k m H' => m = cs.length - k ∧ k ≤ cs.length ∧ Same H1 (hd1 D H') ∧ ∃ acc, H' D = some (.lst acc) ∧ TkAll (hd1 D H') acc ((stepC ((chs (os.take i)).take k) op).map PyData.tuple), ⟨_, rfl, Nat.zero_le _, hd1_of (same_upd nD) nD, [], upd_same, .nil⟩, ?_⟩
      rintro k m H2 ⟨rfl, hk, s2, acc, hD, ta⟩
      have hca2 := hd1_le _ _ (s2 _ _ hca)
      by_cases hlt : k < cs.length
      · obtain ⟨c, hc⟩ : ∃ c, (chs (os.take i))[k]? = some c := ⟨_, List.getElem?_eq_getElem (by omega)⟩
        have htk : (chs (os.take i)).take (k + 1) = (chs (os.take i)).take k ++ [c] := by
          rw [List.take_add_one, hc]
          rfl
        refine .inr ⟨⟨cs, cs[k], SqL.of hca2, List.getElem?_eq_getElem hlt⟩, fun H' => Same H1 (hd1 D H') ∧ ∃ acc, H' D = some (.lst acc) ∧ TkAll (hd1 D H') acc ((stepC ((chs (os.take i)).take (k + 1)) op).map PyData.tuple), fun σ' ⟨z1, z2⟩ => ⟨cs.length - (k + 1), by omega, rfl, by omega, z1, z2⟩, fun x H' hy => ?_⟩
        obtain ⟨rfl, hy⟩ := hy
        have hx2 : cs[k]? = some x := hy cs (SqL.of hca2)
        obtain ⟨dc, hdc, tx2⟩ := tcs.get hx2
        obtain rfl : dc = .tuple c := by
          rw [List.getElem?_map, hc] at hdc
          exact (Option.some.inj hdc).symm
        obtain ⟨xa, zs, rfl, hxa, tz⟩ := tx2.tup_inv
        refine ⟨rfl, ?_⟩
        have hoa2 := hd1_le _ _ (s2 _ _ (s1 _ _ hoa))
        refine ⟨.ref oa, rfl, oa, rfl, ⟨_, SqT.of hoa2⟩, ?_⟩
        refine ⟨fun j n H' => n = ys.length - j ∧ j ≤ ys.length ∧ Same H1 (hd1 D H') ∧ ∃ acc, H' D = some (.lst acc) ∧ TkAll (hd1 D H') acc ((stepC ((chs (os.take i)).take k) op ++ (op.take j).map fun o => c ++ [o]).map PyData.tuple), ⟨_, rfl, Nat.zero_le _, s2, acc, hD, by rw [List.take_zero, List.map_nil, List.append_nil]; exact ta⟩, ?_⟩
        rintro j n H3 ⟨rfl, hj, s3, acc3, hD3, ta3⟩
        have hoa3 := hd1_le _ _ (s3 _ _ (s1 _ _ hoa))
        have lys : ys.length = op.length := ty.length
        by_cases hjl : j < ys.length
        · obtain ⟨ov, hov⟩ : ∃ ov, op[j]? = some ov := ⟨_, List.getElem?_eq_getElem (by omega)⟩
          refine .inr ⟨⟨ys, ys[j], SqT.of hoa3, List.getElem?_eq_getElem hjl⟩, fun H' => Same H1 (hd1 D H') ∧ ∃ acc, H' D = some (.lst acc) ∧ TkAll (hd1 D H') acc ((stepC ((chs (os.take i)).take k) op ++ (op.take (j + 1)).map fun o => c ++ [o]).map PyData.tuple), fun σ' ⟨z1, z2⟩ => ⟨ys.length - (j + 1), by omega, rfl, by omega, z1, z2⟩, fun y Hn hy => ?_⟩
          obtain ⟨rfl, hy⟩ := hy
          have hy2 : ys[j]? = some y := hy ys (SqT.of hoa3)
          obtain ⟨dy, hdy, ty2⟩ := ty.get hy2
          cases Option.some.inj (hdy.symm.trans hov)
          refine ⟨rfl, ?_⟩
          -- choice + (option,)
          have hxa3 := hd1_le _ _ (s3 _ _ hxa)
          refine ⟨.ref xa, rfl, y, rfl, sl1, fun t nt => ?_⟩
          have st := same_upd (o := .tup [y]) nt
          have ntD : t ≠ D := (ne_of_none hD3 nt).symm
          have sD := hd1_same (p := D) st
          have ty3 : Tk (hd1 D Hn) y ov := ty2.same (s1.trans s3)
          have tz3 : TkAll (hd1 D Hn) zs c := tz.same s3
          have lacc : acc3.length < sizeLine := by
            have h1 := ta3.length
            rw [List.length_map, List.length_append, stepC_len, List.length_map, List.length_take, List.length_take] at h1
            have h2 : min k (chs (os.take i)).length * op.length ≤ 512 * 8 := Nat.mul_le_mul (by have := big i (by omega); omega) o8'
            have : sizeLine = 16777216 := by decide
            omega
          have done : ∀ (H4 : Hp) (p : Addr), Same (hd1 D Hn) (hd1 D H4) → H4 D = some (.lst acc3) → p ≠ D → H4 p = some (.tup (zs ++ [y])) → TkAll (hd1 D H4) zs c → Tk (hd1 D H4) y ov → ∃ acc, H4 D = some (.lst acc) ∧ acc.length < sizeLine ∧ Same H1 (hd1 D (upd H4 D (.lst (acc ++ [.ref p])))) ∧ ∃ acc', (upd H4 D (.lst (acc ++ [.ref p]))) D = some (.lst acc') ∧ TkAll (hd1 D (upd H4 D (.lst (acc ++ [.ref p])))) acc' ((stepC ((chs (os.take i)).take k) op ++ (op.take (j + 1)).map fun o => c ++ [o]).map PyData.tuple) := fun H4 p s4 h4 np hp tzz tyy => by
            refine ⟨acc3, h4, lacc, (s3.trans s4).trans hd1_upd, acc3 ++ [.ref p], upd_same, ?_⟩
            rw [List.take_add_one, hov]
            show TkAll _ _ ((_ ++ (op.take j ++ [ov]).map _).map _)
            rw [List.map_append (l₁ := op.take j), ← List.append_assoc, List.map_append]
            refine ((ta3.same s4).same hd1_upd).append (.cons (.tup (xs := zs ++ [y]) ?_ ((tzz.same hd1_upd).append (.cons (tyy.same hd1_upd) .nil))) .nil)
            rw [hd1_at np, upd_ne np]
            exact hp
          have lz : zs.length + 1 ≤ sizeLine := by
            have h1 := (Tk.tup hxa tz)
            have h2 := tz.length
            have h3 : c.length ≤ 8 := by
              have := chs_width (os.take i) c (List.mem_of_getElem? hc)
              have h8 : os.length ≤ 8 := by rcases o3 with o | ⟨o, _⟩ <;> omega
              rw [this, List.length_take]
              omega
            have : sizeLine = 16777216 := by decide
            omega
          refine ⟨xa, t, zs, [y], rfl, rfl, SqT.of (st _ _ hxa3), SqT.of upd_same, lz, fun ez => ?_, (fun _ z => by cases z), fun nz _ p np => ?_⟩
          · subst ez
            exact done _ t sD (st _ _ hD3) ntD upd_same (tz3.same sD) (ty3.same sD)
          · have sp := same_upd (o := .tup (zs ++ [y])) np
            have sDp := hd1_same (p := D) sp
            have npD : p ≠ D := (ne_of_none (st _ _ hD3) np).symm
            exact done _ p (sD.trans sDp) (sp _ _ (st _ _ hD3)) npD upd_same ((tz3.same sD).same sDp) ((ty3.same sD).same sDp)
        · have ej : j = ys.length := by omega
          refine .inl ⟨⟨ys, SqT.of hoa3, by omega⟩, s3, acc3, hD3, ?_⟩
          rw [htk, stepC_snoc]
          rw [ej, lys, List.take_length] at ta3
          exact ta3
      · have ek : k = cs.length := by omega
        refine .inl ⟨⟨cs, SqL.of hca2, by omega⟩, ?_⟩
        refine ⟨D, _, rfl, fun b o e => hd1_le _ _ (s2 _ _ (s1 _ _ e)), ?_⟩
        rw [ytake]
        refine .lst hD ?_
        rw [ek, lcs, List.take_length] at ta
        exact ta.same hd1_le
    · rintro σ H1 ⟨ca, y2, rfl, s1, tc⟩
      have lx : xs.length = os.length := by rw [tk.length, List.length_map]
      rw [lx, List.take_length] at tc
      obtain ⟨ca', cs, e, hca, tcs⟩ := tc.lst_inv
      cases e
      refine ⟨.ref ca, rfl, ca, cs, rfl, .inl ⟨SqL.of hca, fun r nr => ?_⟩⟩
      exact q r _ (s1.trans (same_upd nr)) (.tup upd_same (tcs.same (same_upd nr)))

/-! ### the word of a gate -/
abbrev Wd := Int × Int × Bool
def wD (x : Wd) : PyData := .tuple [.int x.1, .int x.2.1, .bool x.2.2]
def Wok (x : Wd) : Prop := (x.1 = 0 ∨ x.1 = 1) ∧ (x.2.1 = 0 ∨ x.2.1 = 1)
def pw (x : Wd) : List (Int × Int) := pairsM x.1 x.2.1 x.2.2
def prD (p : Int × Int) : PyData := .tuple [.int p.1, .int p.2]
theorem wd_inv {H : Hp} {v : V} {x : Wd} (h : Tk H v (wD x)) : ∃ a, v = .ref a ∧ H a = some (.tup [.int x.1, .int x.2.1, .bl x.2.2]) := by
  obtain ⟨a, xs, rfl, ha, t⟩ := h.tup_inv
  cases t with
  | cons h1 t => cases t with
    | cons h2 t => cases t with
      | cons h3 t =>
        cases t
        cases h1
        cases h2
        cases h3
        exact ⟨a, rfl, ha⟩
theorem pr_inv {H : Hp} {v : V} {p : Int × Int} (h : Tk H v (prD p)) : ∃ a, v = .ref a ∧ H a = some (.tup [.int p.1, .int p.2]) := by
  obtain ⟨a, xs, rfl, ha, t⟩ := h.tup_inv
  cases t with
  | cons h1 t => cases t with
    | cons h2 t =>
      cases t
      cases h1
      cases h2
      exact ⟨a, rfl, ha⟩
theorem tkPairs {H : Hp} : ∀ ks : List (Addr × Int × Int), (∀ k ∈ ks, PairAt H k) → TkAll H (ks.map fun k => V.ref k.1) ((ks.map (·.2)).map prD)
  | [], _ => .nil
  | k :: r, h => .cons (.tup (h k (List.mem_cons_self ..)) (.cons (.int _) (.cons (.int _) .nil))) (tkPairs r fun x hx => h x (List.mem_cons_of_mem _ hx))
theorem PairsAt.tk {H : Hp} {r D : Addr} {ps : List (Int × Int)} {acc : List V} (h : PairsAt H r ps) (hD : H D = some (.lst acc)) : Tk (hd1 D H) (.ref r) (.tuple (ps.map prD)) := by
  obtain ⟨ks, h1, h2, h3⟩ := h
  have n : ∀ {a : Addr} {xs : List V}, H a = some (.tup xs) → hd1 D H a = some (.tup xs) := fun {a xs} e => by
    rw [hd1_at (ne_of e hD (by intro q; cases q))]
    exact e
  rw [← h3]
  exact .tup (n h1) (tkPairs ks fun k hk => n (h2 k hk))
theorem chs_mem {α : Type} : ∀ (ls : List (List α)) (c : List α), c ∈ chs ls → ∀ o ∈ c, ∃ l ∈ ls, o ∈ l := by
  have key : ∀ (n : Nat) (ls : List (List α)), ls.length = n → ∀ c ∈ chs ls, ∀ o ∈ c, ∃ l ∈ ls, o ∈ l := by
    intro n
    induction n with
    | zero =>
      intro ls h c hc o ho
      cases List.eq_nil_of_length_eq_zero h
      cases List.mem_singleton.mp hc
      cases ho
    | succ n ih =>
      intro ls h c hc o ho
      have hne : ls ≠ [] := fun z => by rw [z] at h; cases h
      obtain ⟨r, x, rfl⟩ : ∃ r x, ls = r ++ [x] := ⟨ls.dropLast, ls.getLast hne, (List.dropLast_concat_getLast hne).symm⟩
      rw [chs_snoc] at hc
      obtain ⟨c0, h0, hc⟩ := List.mem_flatMap.mp hc
      obtain ⟨o', ho', rfl⟩ := List.mem_map.mp hc
      rcases List.mem_append.mp ho with z | z
      · obtain ⟨l, hl, hol⟩ := ih r (by rw [List.length_append] at h; simpa using h) c0 h0 o z
        exact ⟨l, List.mem_append_left _ hl, hol⟩
      · rw [List.mem_singleton.mp z]
        exact ⟨x, by simp, ho'⟩
  exact fun ls c h => key _ ls rfl c h
theorem pairs01 {x : Wd} (h : Wok x) : ∀ p ∈ pw x, (p.1 = 0 ∨ p.1 = 1) ∧ (p.2 = 0 ∨ p.2 = 1) := by
  obtain ⟨f, l, c⟩ := x
  obtain ⟨hf, hl⟩ := h
  dsimp only at hf hl
  rcases hf with rfl | rfl <;> rcases hl with rfl | rfl <;> cases c <;> decide
theorem pairs4 (x : Wd) : (pw x).length ≤ 4 := by
  unfold pw pairsM
  split
  · exact Nat.le_refl _
  · split
    · show 1 ≤ 4; decide
    · split
      · show 3 ≤ 4; decide
      · show 3 ≤ 4; decide
def testC (bs : List Bool) (F L : Int) (c : List (Int × Int)) : Bool := (decide (F = L) && !decide (gateM bs (c.map (·.1)) = F)) || (!decide (F = L) && (decide (gateM bs (c.map (·.1)) = L) && decide (gateM bs (c.map (·.2)) = F)))
def froM (bs : List Bool) (ws : List Wd) (F L : Int) : Bool := (chs (ws.map pw)).any (testC bs F L)
theorem evI (x y : Int) : decide (V.int x = V.int y) = decide (x = y) := by
  by_cases z : x = y
  · rw [decide_eq_true z, decide_eq_true (by rw [z])]
  · rw [decide_eq_false z, decide_eq_false (fun k => z (V.int.inj k))]
def sp_pair_by (K : PySem.W.Frag) : Sp := fun vs H Q _ => ∃ (bs : List Bool) (pa : Addr) (c : List (Int × Int)), vs = [.str (tabOf bs), .ref pa] ∧ Tk H (.ref pa) (.tuple (c.map prD)) ∧ (∀ p ∈ c, (p.1 = 0 ∨ p.1 = 1) ∧ (p.2 = 0 ∨ p.2 = 1)) ∧ bs.length = 2 ^ c.length ∧ c.length ≤ 3 ∧ ∀ r H', Same H H' → H' r = some (.tup [.int (gateM bs (c.map (·.1))), .int (gateM bs (c.map (·.2)))]) → Q (.ref r) H'
theorem ok_pair_by (T : Tx K mg) : FnOk P w K mg base CX0 2 T.f_pair_by T.fd_pair_by ["table", "pairs"] (sp_pair_by K) := by
  refine T.F_pair_by.ok sc_pair_by (fun vs H Q E h => ?_) (fun cdv A outer s H vs Q E hr h => ?_)
  · obtain ⟨bs, pa, c, rfl, _⟩ := h
    rfl
  · obtain ⟨bs, pa, c, rfl, tx, c01, hb, h3, q⟩ := h
    refine ⟨_, (pss_one (ps_ret (pe_tup (pa_cons (pe_call (ok_table_worth T) (hr.mono (by decide)) (by rfl) T.g_table_worth T.F_table_worth.kp T.b_table_worth .nil pass0 (pa_cons (pv 0) (pa_cons (pe_lc (own := [("p", 2), ("q", 3)]) (by rfl) sc_pair_by.nd (pi_tup (pv 1)) (blkOk_by (own := [("p", 2), ("q", 3)]) (N := ["table", "pairs", "p", "q"]) (sc := defScope s_pair_by) (by decide +kernel)) (fun _ _ _ _ _ => (show PG _ _ (gTup K 2 _) from pg_tup rfl (pgs_cons (pg_name (i := 2) sc_pair_by.nd rfl (by first | exact .inl rfl | exact .inr rfl)) (pgs_cons (pg_name (i := 3) sc_pair_by.nd rfl (by first | exact .inl rfl | exact .inr rfl)) pgs_nil)))) (fun _ _ _ _ _ => pts_nil) (fun _ _ _ _ _ => (pv 2))) pa_nil))) (pa_cons (pe_call (ok_table_worth T) (hr.mono (by decide)) (by rfl) T.g_table_worth T.F_table_worth.kp T.b_table_worth .nil pass0 (pa_cons (pv 0) (pa_cons (pe_lc (own := [("p", 2), ("q", 3)]) (by rfl) sc_pair_by.nd (pi_tup (pv 1)) (blkOk_by (own := [("p", 2), ("q", 3)]) (N := ["table", "pairs", "p", "q"]) (sc := defScope s_pair_by) (by decide +kernel)) (fun _ _ _ _ _ => (show PG _ _ (gTup K 2 _) from pg_tup rfl (pgs_cons (pg_name (i := 2) sc_pair_by.nd rfl (by first | exact .inl rfl | exact .inr rfl)) (pgs_cons (pg_name (i := 3) sc_pair_by.nd rfl (by first | exact .inl rfl | exact .inr rfl)) pgs_nil)))) (fun _ _ _ _ _ => pts_nil) (fun _ _ _ _ _ => (pv 3))) pa_nil))) pa_nil))))), ?_⟩
    obtain ⟨pa', zs, e, hpa, tz⟩ := tx.tup_inv
    cases e
    -- a list of one side of the pairs
    have comp : ∀ (H4 : Hp), Same H H4 → SqT K H4 pa zs := fun H4 s4 => SqT.of (s4 _ _ hpa)
    have side : ∀ (j : Nat) (u : V) (H4 : Hp), zs[j]? = some u → Same H H4 → ∃ (p : Int × Int) (b : Addr), c[j]? = some p ∧ u = .ref b ∧ H4 b = some (.tup [.int p.1, .int p.2]) := fun j u H4 hu s4 => by
      obtain ⟨dp, hdp, tp⟩ := tz.get hu
      rw [List.getElem?_map] at hdp
      cases hz : c[j]? with
      | none => rw [hz] at hdp; cases hdp
      | some p =>
        rw [hz] at hdp
        cases Option.some.inj hdp
        obtain ⟨b, rfl, hb'⟩ := pr_inv tp
        exact ⟨p, b, rfl, rfl, s4 _ _ hb'⟩
    have lz : zs.length = c.length := by rw [tz.length, List.length_map]
    -- early
    refine ⟨.str (tabOf bs), rfl, .ref pa, rfl, pa, rfl, ⟨_, comp _ (Same.refl _)⟩, fun E1 nE1 => ?_⟩
    refine lc_tup (K := K) (a := pa) (xs := zs) (fun j H' => Same H (hd1 E1 H') ∧ H' E1 = some (.lst (((c.map (·.1)).take j).map V.int))) ⟨hd1_of (same_upd nE1) nE1, upd_same⟩ (fun j H' _ hP => comp _ (fun b o e => hd1_le _ _ (hP.1 _ _ e))) ?_ ?_
    · rintro j u H4 hu ⟨s4, h4⟩
      obtain ⟨p, b, hp, rfl, hb'⟩ := side j u H4 hu (fun b o e => hd1_le _ _ (s4 _ _ e))
      refine ⟨b, _, rfl, SqT.of hb', rfl, _, _, rfl, _, _, rfl, rfl, rfl, ?_⟩
      refine ⟨.int p.1, rfl, _, h4, ?_, s4.trans hd1_upd, ?_⟩
      · rw [List.length_map, List.length_take]
        exact Nat.lt_of_lt_of_le (show min j (c.map (·.1)).length < 64 by rw [List.length_map]; omega) (by decide)
      · rw [upd_same, List.take_add_one, List.getElem?_map, hp, List.map_append]
        rfl
    rintro H4 ⟨s4, h4⟩
    have s34 : Same H H4 := fun b o e => hd1_le _ _ (s4 _ _ e)
    rw [lz, List.take_of_length_le (by rw [List.length_map]; exact Nat.le_refl _)] at h4
    refine ⟨bs, E1, c.map (·.1), rfl, SqL.of h4, fun w hw => ?_, by rw [List.length_map]; exact hb, by rw [List.length_map]; exact h3, ?_⟩
    · obtain ⟨p, hp, rfl⟩ := List.mem_map.mp hw
      exact (c01 p hp).1
    -- late
    refine ⟨.str (tabOf bs), rfl, .ref pa, rfl, pa, rfl, ⟨_, comp _ s34⟩, fun E2 nE2 => ?_⟩
    refine lc_tup (K := K) (a := pa) (xs := zs) (fun j H' => Same H4 (hd1 E2 H') ∧ H' E2 = some (.lst (((c.map (·.2)).take j).map V.int))) ⟨hd1_of (same_upd nE2) nE2, upd_same⟩ (fun j H' _ hP => comp _ (s34.trans fun b o e => hd1_le _ _ (hP.1 _ _ e))) ?_ ?_
    · rintro j u H5 hu ⟨s5, h5⟩
      obtain ⟨p, b, hp, rfl, hb'⟩ := side j u H5 hu (s34.trans fun b o e => hd1_le _ _ (s5 _ _ e))
      refine ⟨b, _, rfl, SqT.of hb', rfl, _, _, rfl, _, _, rfl, rfl, rfl, ?_⟩
      refine ⟨.int p.2, rfl, _, h5, ?_, s5.trans hd1_upd, ?_⟩
      · rw [List.length_map, List.length_take]
        exact Nat.lt_of_lt_of_le (show min j (c.map (·.2)).length < 64 by rw [List.length_map]; omega) (by decide)
      · rw [upd_same, List.take_add_one, List.getElem?_map, hp, List.map_append]
        rfl
    rintro H5 ⟨s5, h5⟩
    have s45 : Same H4 H5 := fun b o e => hd1_le _ _ (s5 _ _ e)
    rw [lz, List.take_of_length_le (by rw [List.length_map]; exact Nat.le_refl _)] at h5
    refine ⟨bs, E2, c.map (·.2), rfl, SqL.of h5, fun w hw => ?_, by rw [List.length_map]; exact hb, by rw [List.length_map]; exact h3, ?_⟩
    · obtain ⟨p, hp, rfl⟩ := List.mem_map.mp hw
      exact (c01 p hp).2
    refine ⟨sl2, fun r nr => ?_⟩
    exact q r _ ((s34.trans s45).trans (same_upd nr)) upd_same
def sp_goes_fro (K : PySem.W.Frag) : Sp := fun vs H Q _ => ∃ (bs : List Bool) (wa : Addr) (ws : List Wd) (F L : Int), vs = [.str (tabOf bs), .ref wa, .int F, .int L] ∧ Tk H (.ref wa) (.tuple (ws.map wD)) ∧ (∀ x ∈ ws, Wok x) ∧ bs.length = 2 ^ ws.length ∧ ws.length ≤ 3 ∧ ∀ H', Same H H' → Q (.bl (froM bs ws F L)) H'
theorem ok_goes_fro (T : Tx K mg) : FnOk P w K mg base CX0 3 T.f_goes_fro T.fd_goes_fro ["table", "words", "first", "last"] (sp_goes_fro K) := by
  refine T.F_goes_fro.ok sc_goes_fro (fun vs H Q E h => ?_) (fun cdv A outer s H vs Q E hr h => ?_)
  · obtain ⟨bs, wa, ws, F, L, rfl, _⟩ := h
    rfl
  · obtain ⟨bs, wa, ws, F, L, rfl, tw, ok, hb, h3, q⟩ := h
    refine ⟨_, (pss_cons (ps_for PassesOwn.never rfl (pi_tup (pe_call (ok_choices_of T) (hr.mono (by decide)) (by rfl) T.g_choices_of T.F_choices_of.kp T.b_choices_of .nil pass0 (pa_cons (pe_lc (own := [("word", 7)]) (by rfl) sc_goes_fro.nd (pi_tup (pv 1)) (blkOk_by (own := [("word", 7)]) (N := ["table", "words", "first", "last", "pairs", "early", "late", "word"]) (sc := defScope s_goes_fro) (by decide +kernel)) (fun _ _ _ _ _ => (pg_name (i := 7) sc_goes_fro.nd rfl (by first | exact .inl rfl | exact .inr rfl))) (fun _ _ _ _ _ => pts_nil) (fun _ _ _ _ _ => (pe_call (ok_pairs_of T) (hr.mono (by decide)) (by rfl) T.g_pairs_of T.F_pairs_of.kp T.b_pairs_of .nil pass0 (pa_cons (pv 7) pa_nil)))) pa_nil))) (pg_name (i := 4) sc_goes_fro.nd rfl (by first | exact .inl rfl | exact .inr rfl)) (pss_cons (ps_asg (pe_call (ok_pair_by T) (hr.mono (by decide)) (by rfl) T.g_pair_by T.F_pair_by.kp T.b_pair_by .nil pass0 (pa_cons (pv 0) (pa_cons (pv 4) pa_nil))) (pg_tup rfl (pgs_cons (pg_name (i := 5) sc_goes_fro.nd rfl (by first | exact .inl rfl | exact .inr rfl)) (pgs_cons (pg_name (i := 6) sc_goes_fro.nd rfl (by first | exact .inl rfl | exact .inr rfl)) pgs_nil)))) (pss_cons (ps_if (pw_and (pt_cmpR op_eq (pv 2) (pv 3) (nomark _)) (pw_and1 (pt_cmpR op_ne (pv 5) (pv 2) (nomark _)))).pt (pss_one (ps_ret pe_bl)) pss_nil) (pss_one (ps_if (pw_and (pt_cmpR op_ne (pv 2) (pv 3) (nomark _)) (pw_and (pt_cmpR op_eq (pv 5) (pv 3) (nomark _)) (pw_and1 (pt_cmpR op_eq (pv 6) (pv 2) (nomark _))))).pt (pss_one (ps_ret pe_bl)) pss_nil))))) (pss_one (ps_ret pe_bl))), ?_⟩
    obtain ⟨wa', xs, e, hwa, tws⟩ := tw.tup_inv
    cases e
    -- [pairs_of(word) for word in words]
    refine ⟨.ref wa, rfl, wa, rfl, ⟨_, SqT.of hwa⟩, fun D nD => ?_⟩
    refine lc_tup (K := K) (a := wa) (xs := xs) (fun j H' => Same H (hd1 D H') ∧ ∃ acc, H' D = some (.lst acc) ∧ TkAll (hd1 D H') acc ((ws.take j).map fun x => PyData.tuple ((pw x).map prD))) ⟨hd1_of (same_upd nD) nD, [], upd_same, .nil⟩ (fun j H' _ hP => SqT.of (hd1_le _ _ (hP.1 _ _ hwa))) ?_ ?_
    · rintro j v H1 hv ⟨s1, acc, hD, ta⟩
      obtain ⟨dx, hdx, tx⟩ := tws.get hv
      obtain ⟨x, hx, rfl⟩ : ∃ x, ws[j]? = some x ∧ dx = wD x := by
        rw [List.getElem?_map] at hdx
        cases hz : ws[j]? with
        | none => rw [hz] at hdx; cases hdx
        | some x => rw [hz] at hdx; exact ⟨x, rfl, (Option.some.inj hdx).symm⟩
      obtain ⟨a, rfl, ha⟩ := wd_inv tx
      have okx := ok x (List.mem_of_getElem? hx)
      refine ⟨rfl, ?_⟩
      refine ⟨.ref a, rfl, a, x.1, x.2.1, x.2.2, rfl, hd1_le _ _ (s1 _ _ ha), okx.1, okx.2, fun r H2 s2 p2 => ?_⟩
      have hD2 := s2 _ _ hD
      have sD := hd1_same (p := D) s2
      refine ⟨acc, hD2, ?_, (s1.trans sD).trans hd1_upd, acc ++ [.ref r], upd_same, ?_⟩
      · have := ta.length
        rw [List.length_map, List.length_take] at this
        exact Nat.lt_of_lt_of_le (show acc.length < 64 by omega) (by decide)
      · rw [List.take_add_one, hx]
        show TkAll _ _ ((ws.take j ++ [x]).map _)
        rw [List.map_append]
        exact ((ta.same sD).same hd1_upd).append (.cons ((p2.tk hD2).same hd1_upd) .nil)
    · rintro H1 ⟨s1, acc, hD, ta⟩
      have lx : xs.length = ws.length := by rw [tws.length, List.length_map]
      rw [lx, List.take_length] at ta
      have ta' : TkAll H1 acc ((ws.map fun x => (pw x).map prD).map PyData.tuple) := by
        rw [List.map_map]
        exact ta.same hd1_le
      refine ⟨D, acc, _, rfl, hD, ta', .inl (by rw [List.length_map]; exact h3), fun o ho => ?_, fun r H2 s2 tr => ?_⟩
      · obtain ⟨x, _, rfl⟩ := List.mem_map.mp ho
        rw [List.length_map]
        have := pairs4 x
        omega
      have sA : Same H H2 := fun b o e => s2 _ _ (hd1_le _ _ (s1 _ _ e))
      have eC : chs (ws.map fun x => (pw x).map prD) = (chs (ws.map pw)).map (List.map prD) := by
        rw [← chs_map prD _ _ rfl, List.map_map]
        rfl
      rw [eC] at tr
      obtain ⟨r', cs, e, hr2, tcs⟩ := tr.tup_inv
      cases e
      have lcs : cs.length = (chs (ws.map pw)).length := by rw [tcs.length, List.length_map, List.length_map]
      refine ⟨r, rfl, ⟨_, SqT.of hr2⟩, for_tup (K := K) (a := r) (xs := cs) (fun i σ H' => ∃ y4 y5 y6, σ = [some (.str (tabOf bs)), some (.ref wa), some (.int F), some (.int L), y4, y5, y6, none] ∧ Same H2 H' ∧ ∀ j c, j < i → (chs (ws.map pw))[j]? = some c → testC bs F L c = false) ⟨_, _, _, rfl, Same.refl _, fun j c hj => absurd hj (Nat.not_lt_zero _)⟩ (fun i σ H' _ ⟨_, _, _, _, z, _⟩ => SqT.of (z _ _ hr2)) ?_ ?_⟩
      · rintro i v σ H3 hv ⟨y4, y5, y6, rfl, s3, none_⟩
        obtain ⟨dx, hdx, tx⟩ := tcs.get hv
        obtain ⟨c, hc, rfl⟩ : ∃ c, (chs (ws.map pw))[i]? = some c ∧ dx = .tuple (c.map prD) := by
          rw [List.getElem?_map, List.getElem?_map] at hdx
          cases hz : (chs (ws.map pw))[i]? with
          | none => rw [hz] at hdx; cases hdx
          | some c => rw [hz] at hdx; exact ⟨c, rfl, (Option.some.inj hdx).symm⟩
        have hcm := List.mem_of_getElem? hc
        have c01 : ∀ p ∈ c, (p.1 = 0 ∨ p.1 = 1) ∧ (p.2 = 0 ∨ p.2 = 1) := fun p hp => by
          obtain ⟨l, hl, hpl⟩ := chs_mem _ c hcm p hp
          obtain ⟨x, hx, rfl⟩ := List.mem_map.mp hl
          exact pairs01 (ok x hx) p hpl
        have lc : c.length = ws.length := by rw [chs_width _ c hcm, List.length_map]
        obtain ⟨pa, zs, rfl, _⟩ := tx.tup_inv
        refine ⟨.str (tabOf bs), rfl, .ref pa, rfl, bs, pa, c, rfl, tx.same s3, c01, by rw [lc]; exact hb, by rw [lc]; exact h3, fun r5 H5 s35 h5 => ?_⟩
        refine ⟨r5, _, rfl, SqT.of h5, rfl, _, _, rfl, _, _, rfl, rfl, ?_⟩
        have sAll : Same H2 H5 := s3.trans s35
        have yes : testC bs F L c = true → Q (.bl true) H5 := fun z => by
          have e : froM bs ws F L = true := List.any_eq_true.mpr ⟨c, hcm, z⟩
          have := q H5 (sA.trans sAll)
          rw [e] at this
          exact this
        have no : testC bs F L c = false → ∃ y4 y5 y6, ([some (.str (tabOf bs)), some (.ref wa), some (.int F), some (.int L), some (.ref pa), some (.int (gateM bs (c.map (·.1)))), some (.int (gateM bs (c.map (·.2)))), none] : List (Option V)) = [some (.str (tabOf bs)), some (.ref wa), some (.int F), some (.int L), y4, y5, y6, none] ∧ Same H2 H5 ∧ ∀ j c, j < i + 1 → (chs (ws.map pw))[j]? = some c → testC bs F L c = false := fun z =>
          ⟨_, _, _, rfl, sAll, fun j c' hj hc' => by
            by_cases hji : j < i
            · exact none_ j c' hji hc'
            · have : j = i := by omega
              subst this
              cases Option.some.inj (hc.symm.trans hc')
              exact z⟩
        refine ⟨.int F, rfl, .int L, rfl, rfl, _, rfl, ite2 (fun e1 => ?_) (fun e1 => ?_)⟩
        · rw [evI] at e1
          refine ⟨.int (gateM bs (c.map (·.1))), rfl, .int F, rfl, rfl, _, rfl, ?_⟩
          rw [evI]
          refine ite2 (fun e2 => ?_) (fun e2 => ?_)
          · refine yes ?_
            unfold testC
            rw [e1, e2]
            rfl
          · refine ⟨.int F, rfl, .int L, rfl, rfl, _, rfl, ?_⟩
            rw [evI, e1]
            refine iteF (iteF (no ?_))
            unfold testC
            rw [e1, Bool.eq_false_iff.mpr e2]
            rfl
        · rw [evI] at e1
          refine iteF ?_
          refine ⟨.int F, rfl, .int L, rfl, rfl, _, rfl, ?_⟩
          rw [evI, Bool.eq_false_iff.mpr e1]
          refine iteT ?_
          refine ⟨.int (gateM bs (c.map (·.1))), rfl, .int L, rfl, rfl, _, rfl, ?_⟩
          rw [evI]
          refine ite2 (fun e2 => ?_) (fun e2 => ?_)
          · refine ⟨.int (gateM bs (c.map (·.2))), rfl, .int F, rfl, rfl, _, rfl, ?_⟩
            rw [evI]
            refine ite2 (fun e3 => ?_) (fun e3 => ?_)
            · refine yes ?_
              unfold testC
              rw [Bool.eq_false_iff.mpr e1, e2, e3]
              rfl
            · refine no ?_
              unfold testC
              rw [Bool.eq_false_iff.mpr e1, e2, Bool.eq_false_iff.mpr e3]
              rfl
          · refine iteF (no ?_)
            unfold testC
            rw [Bool.eq_false_iff.mpr e1, Bool.eq_false_iff.mpr e2]
            rfl
      · rintro σ H3 ⟨y4, y5, y6, rfl, s3, none_⟩
        have e : froM bs ws F L = false := by
          unfold froM
          rw [List.any_eq_false]
          intro c hc
          obtain ⟨j, hj⟩ := List.getElem?_of_mem hc
          have hjl := (List.getElem?_eq_some_iff.mp hj).1
          rw [none_ j c (by rw [lcs]; exact hjl) hj]
          exact Bool.false_ne_true
        have := q H3 (sA.trans s3)
        rw [e] at this
        exact this
def sp_gate_word (K : PySem.W.Frag) : Sp := fun vs H Q _ => ∃ (bs : List Bool) (wa : Addr) (ws : List Wd), vs = [.str (tabOf bs), .ref wa] ∧ Tk H (.ref wa) (.tuple (ws.map wD)) ∧ (∀ x ∈ ws, Wok x) ∧ bs.length = 2 ^ ws.length ∧ ws.length ≤ 3 ∧ ∀ r H', Same H H' → H' r = some (.tup [.int (gateM bs (ws.map (·.1))), .int (gateM bs (ws.map (·.2.1))), .bl (froM bs ws (gateM bs (ws.map (·.1))) (gateM bs (ws.map (·.2.1))))]) → Q (.ref r) H'
/-- [word[k] for word in words] -/
theorem words_at {H : Hp} {xs : List V} {ws : List Wd} (t : TkAll H xs (ws.map wD)) {j : Nat} {v : V} (h : xs[j]? = some v) : ∃ (x : Wd) (a : Addr), ws[j]? = some x ∧ v = .ref a ∧ H a = some (.tup [.int x.1, .int x.2.1, .bl x.2.2]) := by
  obtain ⟨dx, hdx, tx⟩ := t.get h
  rw [List.getElem?_map] at hdx
  cases hz : ws[j]? with
  | none => rw [hz] at hdx; cases hdx
  | some x =>
    rw [hz] at hdx
    cases Option.some.inj hdx
    obtain ⟨a, rfl, ha⟩ := wd_inv tx
    exact ⟨x, a, rfl, rfl, ha⟩
theorem ok_gate_word (T : Tx K mg) : FnOk P w K mg base CX0 4 T.f_gate_word T.fd_gate_word ["table", "words"] (sp_gate_word K) := by
  refine T.F_gate_word.ok sc_gate_word (fun vs H Q E h => ?_) (fun cdv A outer s H vs Q E hr h => ?_)
  · obtain ⟨bs, wa, ws, rfl, _⟩ := h
    rfl
  · obtain ⟨bs, wa, ws, rfl, tw, ok, hb, h3, q⟩ := h
    refine ⟨_, (pss_cons (ps_set (i := 2) sc_gate_word.nd rfl (by first | exact .inl rfl | exact .inr rfl) (pe_call (ok_table_worth T) (hr.mono (by decide)) (by rfl) T.g_table_worth T.F_table_worth.kp T.b_table_worth .nil pass0 (pa_cons (pv 0) (pa_cons (pe_lc (own := [("word", 4)]) (by rfl) sc_gate_word.nd (pi_tup (pv 1)) (blkOk_by (own := [("word", 4)]) (N := ["table", "words", "first", "last", "word"]) (sc := defScope s_gate_word) (by decide +kernel)) (fun _ _ _ _ _ => (pg_name (i := 4) sc_gate_word.nd rfl (by first | exact .inl rfl | exact .inr rfl))) (fun _ _ _ _ _ => pts_nil) (fun _ _ _ _ _ => (pe_ix (show IxR _ (rIxT K) from ix_tup) (pv 4) pe_int (fun _ _ => rfl)))) pa_nil)))) (pss_cons (ps_set (i := 3) sc_gate_word.nd rfl (by first | exact .inl rfl | exact .inr rfl) (pe_call (ok_table_worth T) (hr.mono (by decide)) (by rfl) T.g_table_worth T.F_table_worth.kp T.b_table_worth .nil pass0 (pa_cons (pv 0) (pa_cons (pe_lc (own := [("word", 4)]) (by rfl) sc_gate_word.nd (pi_tup (pv 1)) (blkOk_by (own := [("word", 4)]) (N := ["table", "words", "first", "last", "word"]) (sc := defScope s_gate_word) (by decide +kernel)) (fun _ _ _ _ _ => (pg_name (i := 4) sc_gate_word.nd rfl (by first | exact .inl rfl | exact .inr rfl))) (fun _ _ _ _ _ => pts_nil) (fun _ _ _ _ _ => (pe_ix (show IxR _ (rIxT K) from ix_tup) (pv 4) pe_int (fun _ _ => rfl)))) pa_nil)))) (pss_one (ps_ret (pe_tup (pa_cons (pv 2) (pa_cons (pv 3) (pa_cons (pe_call (ok_goes_fro T) (hr.mono (by decide)) (by rfl) T.g_goes_fro T.F_goes_fro.kp T.b_goes_fro .nil pass0 (pa_cons (pv 0) (pa_cons (pv 1) (pa_cons (pv 2) (pa_cons (pv 3) pa_nil))))) pa_nil)))))))), ?_⟩
    obtain ⟨wa', xs, e, hwa, tws⟩ := tw.tup_inv
    cases e
    have lx : xs.length = ws.length := by rw [tws.length, List.length_map]
    refine ⟨.str (tabOf bs), rfl, .ref wa, rfl, wa, rfl, ⟨_, SqT.of hwa⟩, fun D nD => ?_⟩
    refine lc_tup (K := K) (a := wa) (xs := xs) (fun j H' => Same H (hd1 D H') ∧ H' D = some (.lst (((ws.map (·.1)).take j).map V.int))) ⟨hd1_of (same_upd nD) nD, upd_same⟩ (fun j H' _ hP => SqT.of (hd1_le _ _ (hP.1 _ _ hwa))) ?_ ?_
    · rintro j v H1 hv ⟨s1, h1⟩
      obtain ⟨x, a, hx, rfl, ha⟩ := words_at tws hv
      refine ⟨rfl, .ref a, rfl, a, _, 0, .int x.1, rfl, rfl, SqT.of (hd1_le _ _ (s1 _ _ ha)), rfl, _, h1, ?_, s1.trans hd1_upd, ?_⟩
      · rw [List.length_map, List.length_take, List.length_map]
        exact Nat.lt_of_lt_of_le (show min j ws.length < 64 by omega) (by decide)
      · rw [upd_same, List.take_add_one, List.getElem?_map, hx, List.map_append]
        rfl
    rintro H1 ⟨s1, h1⟩
    have s01 : Same H H1 := fun b o e => hd1_le _ _ (s1 _ _ e)
    rw [lx, List.take_of_length_le (by rw [List.length_map]; exact Nat.le_refl _)] at h1
    refine ⟨bs, D, _, rfl, SqL.of h1, fun u hu => ?_, by rw [List.length_map]; exact hb, by rw [List.length_map]; exact h3, ?_⟩
    · obtain ⟨x, hx, rfl⟩ := List.mem_map.mp hu
      exact (ok x hx).1
    refine ⟨.str (tabOf bs), rfl, .ref wa, rfl, wa, rfl, ⟨_, SqT.of (s01 _ _ hwa)⟩, fun D2 nD2 => ?_⟩
    refine lc_tup (K := K) (a := wa) (xs := xs) (fun j H' => Same H1 (hd1 D2 H') ∧ H' D2 = some (.lst (((ws.map (·.2.1)).take j).map V.int))) ⟨hd1_of (same_upd nD2) nD2, upd_same⟩ (fun j H' _ hP => SqT.of (hd1_le _ _ (hP.1 _ _ (s01 _ _ hwa)))) ?_ ?_
    · rintro j v H2 hv ⟨s2, h2⟩
      obtain ⟨x, a, hx, rfl, ha⟩ := words_at tws hv
      refine ⟨rfl, .ref a, rfl, a, _, 1, .int x.2.1, rfl, rfl, SqT.of (hd1_le _ _ (s2 _ _ (s01 _ _ ha))), rfl, _, h2, ?_, s2.trans hd1_upd, ?_⟩
      · rw [List.length_map, List.length_take, List.length_map]
        exact Nat.lt_of_lt_of_le (show min j ws.length < 64 by omega) (by decide)
      · rw [upd_same, List.take_add_one, List.getElem?_map, hx, List.map_append]
        rfl
    rintro H2 ⟨s2, h2⟩
    have s12 : Same H1 H2 := fun b o e => hd1_le _ _ (s2 _ _ e)
    rw [lx, List.take_of_length_le (by rw [List.length_map]; exact Nat.le_refl _)] at h2
    refine ⟨bs, D2, _, rfl, SqL.of h2, fun u hu => ?_, by rw [List.length_map]; exact hb, by rw [List.length_map]; exact h3, ?_⟩
    · obtain ⟨x, hx, rfl⟩ := List.mem_map.mp hu
      exact (ok x hx).2
    have sA := s01.trans s12
    refine ⟨.int (gateM bs (ws.map (·.1))), rfl, .int (gateM bs (ws.map (·.2.1))), rfl, .str (tabOf bs), rfl, .ref wa, rfl, .int (gateM bs (ws.map (·.1))), rfl, .int (gateM bs (ws.map (·.2.1))), rfl, bs, wa, ws, _, _, rfl, tw.same sA, ok, hb, h3, fun H3 s3 => ?_⟩
    refine ⟨sl3, fun r nr => ?_⟩
    exact q r _ ((sA.trans s3).trans (same_upd nr)) upd_same

end
end Gk

set_option Elab.async false
set_option linter.all false
set_option maxRecDepth 100000
set_option maxHeartbeats 1000000
namespace Gk
open PySem PySem.Spec PyProof.Rows L2
/-! ### the words of nets -/
def gwM (bs : List Bool) (ws : List Wd) : Wd := (gateM bs (ws.map (·.1)), gateM bs (ws.map (·.2.1)), froM bs ws (gateM bs (ws.map (·.1))) (gateM bs (ws.map (·.2.1))))
def pick (ws : List Wd) (ins : List Nat) : List Wd := ins.map fun i => ws.getD i (0, 0, false)
def stepW (ws : List Wd) (g : Gt) : List Wd := ws ++ [gwM g.1 (pick ws g.2)]
def wordsM (gs : List Gt) (w0 : List Wd) : List Wd := gs.foldl stepW w0
def w0M (a b : List Int) : List Wd := (a.zip b).map fun p => (p.1, p.2, false)
theorem wordsM_snoc (gs : List Gt) (g : Gt) (w0 : List Wd) : wordsM (gs ++ [g]) w0 = stepW (wordsM gs w0) g := by
  unfold wordsM
  rw [List.foldl_append]
  rfl
theorem wordsM_take {gs : List Gt} {k : Nat} {g : Gt} (h : gs[k]? = some g) (w0 : List Wd) : wordsM (gs.take (k + 1)) w0 = stepW (wordsM (gs.take k) w0) g := by
  rw [List.take_add_one, h]
  exact wordsM_snoc _ _ _
theorem wordsM_len (gs : List Gt) (w0 : List Wd) : (wordsM gs w0).length = w0.length + gs.length := by
  induction gs generalizing w0 with
  | nil => rfl
  | cons g r ih =>
    show (wordsM r (stepW w0 g)).length = _
    rw [ih]
    unfold stepW
    rw [List.length_append, List.length_cons, List.length_cons, List.length_nil]
    omega
theorem gw_ok (bs : List Bool) (ws : List Wd) : Wok (gwM bs ws) := ⟨gate01 _ _, gate01 _ _⟩
theorem wordsM_ok (gs : List Gt) (w0 : List Wd) (h : ∀ x ∈ w0, Wok x) : ∀ x ∈ wordsM gs w0, Wok x := by
  induction gs generalizing w0 with
  | nil => exact h
  | cons g r ih =>
    refine ih (stepW w0 g) fun x hx => ?_
    rcases List.mem_append.mp hx with z | z
    · exact h x z
    · rw [List.mem_singleton.mp z]
      exact gw_ok _ _
theorem w0_ok {a b : List Int} (ha : Row01 a) (hb : Row01 b) : ∀ x ∈ w0M a b, Wok x := fun x hx => by
  obtain ⟨p, hp, rfl⟩ := List.mem_map.mp hx
  exact ⟨ha _ (List.of_mem_zip hp).1, hb _ (List.of_mem_zip hp).2⟩
theorem w0_len {a b : List Int} (h : a.length = b.length) : (w0M a b).length = a.length := by
  unfold w0M
  rw [List.length_map, List.length_zip]
  omega

section
variable {P : Program} {w : World} {K : PySem.W.Frag} {mg : Str → Option Value} {base : Heap}
def sp_words_of (K : PySem.W.Frag) (Pt : Addr) : Sp := fun vs H Q _ => ∃ (nv cv : V) (m : Int) (gs : List Gt) (a b : List Int), vs = [nv, cv] ∧ Tk H nv (netD m gs) ∧ Tk H cv (chD a b) ∧ a.length = b.length ∧ Row01 a ∧ Row01 b ∧ a.length ≤ 16 ∧ gs.length ≤ 1000 ∧ NetOk a.length gs ∧ GxR.TabG H Pt ∧
  ∀ r H', Gr H H' → Tk H' (.ref r) (.tuple ((wordsM gs (w0M a b)).map wD)) → Q (.ref r) H'
theorem w0_get {a b : List Int} {i : Nat} {x y : V} (hx : (a.map V.int)[i]? = some x) (hy : (b.map V.int)[i]? = some y) : ∃ p q, x = .int p ∧ y = .int q ∧ (w0M a b)[i]? = some (p, q, false) := by
  rw [List.getElem?_map] at hx hy
  cases ea : a[i]? with
  | none => rw [ea] at hx; cases hx
  | some p =>
    cases eb : b[i]? with
    | none => rw [eb] at hy; cases hy
    | some q =>
      rw [ea] at hx
      rw [eb] at hy
      refine ⟨p, q, (Option.some.inj hx).symm, (Option.some.inj hy).symm, ?_⟩
      unfold w0M
      rw [List.getElem?_map, List.getElem?_zip_eq_some (z := (p, q)) |>.mpr ⟨ea, eb⟩]
      rfl
theorem ok_words_of (T : Tx K mg) (B : Tb base T) : FnOk P w K mg base CX0 5 T.f_words_of T.fd_words_of ["net", "change"] (sp_words_of K T.P_words_of) := by
  refine okC T.F_words_of sc_words_of (fun vs H Q E h => ?_) (fun A outer s H vs Q E hr h => ?_)
  · obtain ⟨nv, cv, m, gs, a, b, rfl, _⟩ := h
    rfl
  · obtain ⟨nv, cv, m, gs, a, b, rfl, tn, tc, el, ha, hb, h16, h64, ok, tab, q⟩ := h
    refine ⟨_, (pss_cons (ps_asg (pv 1) (pg_tup rfl (pgs_cons (pg_name (i := 2) sc_words_of.nd rfl (by first | exact .inl rfl | exact .inr rfl)) (pgs_cons (pg_name (i := 3) sc_words_of.nd rfl (by first | exact .inl rfl | exact .inr rfl)) pgs_nil)))) (pss_cons (ps_set (i := 4) sc_words_of.nd rfl (by first | exact .inl rfl | exact .inr rfl) (pe_lc (own := [("before", 7), ("after", 8)]) (by rfl) sc_words_of.nd (RZ.pi_zipA (by rfl) T.m_zip (pa_cons (pv 2) (pa_cons (pv 3) pa_nil))) (blkOk_by (own := [("before", 7), ("after", 8)]) (N := ["net", "change", "a", "b", "words", "table", "ins", "before", "after", "wire"]) (sc := defScope s_words_of) (by decide +kernel)) (fun _ _ _ _ _ => (show PG _ _ (gTup K 2 _) from pg_tup rfl (pgs_cons (pg_name (i := 7) sc_words_of.nd rfl (by first | exact .inl rfl | exact .inr rfl)) (pgs_cons (pg_name (i := 8) sc_words_of.nd rfl (by first | exact .inl rfl | exact .inr rfl)) pgs_nil)))) (fun _ _ _ _ _ => pts_nil) (fun _ _ _ _ _ => (pe_tup (pa_cons (pv 7) (pa_cons (pv 8) (pa_cons pe_bl pa_nil))))))) (pss_cons (ps_for PassesOwn.never rfl (pi_tup (pe_ix ix_tup (pv 0) pe_int (fun _ _ => rfl))) (pg_tup rfl (pgs_cons (pg_name (i := 5) sc_words_of.nd rfl (by first | exact .inl rfl | exact .inr rfl)) (pgs_cons (pg_name (i := 6) sc_words_of.nd rfl (by first | exact .inl rfl | exact .inr rfl)) pgs_nil))) (pss_one (ps_expr (pe_bm PySem.F.plainAttrs_list PySem.F.slot_list_append PySem.F.type_list_append mt_append (pv 4) (pa_cons (pe_call (ok_gate_word T) (hr.mono (by decide)) (by rfl) T.g_gate_word T.F_gate_word.kp T.b_gate_word .nil pass0 (pa_cons (pv 5) (pa_cons (pe_tupX (own := [("wire", 9)]) (k := 0) (hr.mono (by decide)) rfl sc_words_of.nd (by rfl) T.m_tuple (by decide +kernel) B.TB_words_of T.cd_words_of rfl rfl (by decide +kernel) (blkOk_by (own := [("wire", 9)]) (N := ["net", "change", "a", "b", "words", "table", "ins", "before", "after", "wire"]) (sc := defScope s_words_of) (by decide +kernel)) (pi_tup (pv 6)) (fun _ _ _ _ _ _ _ hr gd => (pg_name (i := 9) sc_words_of.nd rfl (by first | exact .inl rfl | exact .inr rfl))) (fun _ _ _ _ _ _ _ hr gd => pts_nil) (fun _ _ _ _ _ _ _ hr gd => (pe_ix (show IxR _ (rIxL K) from ix_list) (pv 4) (pv 9) (fun _ _ => rfl))) (fun _ => rfl)) pa_nil))) pa_nil))))) (pss_one (ps_ret (pe_callTy call_tuple_of (by rfl) T.m_tuple (by decide +kernel) (pa_cons (pv 4) pa_nil))))))), ?_⟩
    obtain ⟨c, ra, rb, rfl, hc, hra, hrb⟩ := tc.ch_inv
    obtain ⟨n, g, xs, rfl, hn, hg, tg⟩ := tn.net_inv
    have w0len := w0_len el
    refine ⟨.ref c, rfl, c, _, rfl, SqT.of hc, rfl, _, _, rfl, _, _, rfl, rfl, ?_⟩
    refine ⟨.ref ra, rfl, .ref rb, rfl, ra, rb, _, _, rfl, .inr ⟨SqT.of hra, SqT.of hrb, fun D nD => ?_⟩⟩
    refine lc_zipT (K := K) (a := ra) (b := rb) (xs := a.map V.int) (ys := b.map V.int) (by rw [List.length_map, List.length_map]; exact el)
      (fun i H' => GrD D H H' ∧ ∃ acc, H' D = some (.lst acc) ∧ TkAll (hd1 D H') acc (((w0M a b).take i).map wD)) ⟨GrD.new nD, [], upd_same, .nil⟩ (fun i H' _ hP => ⟨SqT.of (hP.1.gr.tup hra), SqT.of (hP.1.gr.tup hrb)⟩) ?_ ?_
    · rintro i x y Tq H1 hx hy nT ⟨gr, acc, hD, ta⟩
      obtain ⟨p1, q1, rfl, rfl, hw⟩ := w0_get hx hy
      refine ⟨Tq, _, rfl, SqT.of upd_same, rfl, _, _, rfl, _, _, rfl, rfl, rfl, ?_⟩
      refine ⟨.int p1, rfl, .int q1, rfl, sl3, fun p np => ?_⟩
      have n1 : D ≠ Tq := ne_of_none hD nT
      have hD1 : (upd H1 Tq (.tup [.int p1, .int q1])) D = some (.lst acc) := by rw [upd_ne n1]; exact hD
      have hD2 : (upd (upd H1 Tq (.tup [.int p1, .int q1])) p (.tup [.int p1, .int q1, .bl false])) D = some (.lst acc) := by
        rw [upd_ne (ne_of_none hD1 np)]
        exact hD1
      have g1 := gr.then hD ((Gr.none (o := HO.tup [.int p1, .int q1]) nT).trans (Gr.none (o := HO.tup [.int p1, .int q1, .bl false]) np))
      refine ⟨acc, hD2, ?_, g1.set, acc ++ [.ref p], upd_same, ?_⟩
      · have := ta.length
        rw [List.length_map, List.length_take] at this
        exact Nat.lt_of_lt_of_le (show acc.length < 64 by omega) (by decide)
      · rw [List.take_add_one, hw]
        show TkAll _ _ (((w0M a b).take i ++ [(p1, q1, false)]).map _)
        rw [List.map_append]
        have sD : Same (hd1 D H1) (hd1 D (upd (upd (upd H1 Tq (.tup [.int p1, .int q1])) p (.tup [.int p1, .int q1, .bl false])) D (.lst (acc ++ [.ref p])))) := ((hd1_same (same_upd nT)).trans (hd1_same (same_upd np))).trans hd1_upd
        have pD : p ≠ D := (ne_of_none hD1 np).symm
        refine (ta.same sD).append (.cons (.tup (a := p) ?_ (.cons (.int _) (.cons (.int _) (.cons (.bl _) .nil)))) .nil)
        rw [hd1_at pD, upd_ne pD, upd_same]
    · rintro H1 ⟨gr, acc, hD, ta⟩
      rw [List.length_map, List.take_of_length_le (by omega)] at ta
      refine ⟨.ref n, rfl, n, _, 1, .ref g, rfl, rfl, SqT.of (gr.gr.tup hn), rfl, g, rfl, ⟨_, SqT.of (gr.gr.tup hg)⟩, ?_⟩
      refine for_tup (K := K) (a := g) (xs := xs) (fun i σ H' => ∃ y5 y6, σ = [some (.ref n), some (.ref c), some (.ref ra), some (.ref rb), some (.ref D), y5, y6, none, none, none] ∧ GrD D H H' ∧ ∃ acc, H' D = some (.lst acc) ∧ TkAll (hd1 D H') acc ((wordsM (gs.take i) (w0M a b)).map wD))
        ⟨_, _, rfl, gr, acc, hD, ta⟩ (fun i σ H' _ ⟨_, _, _, hP, _⟩ => SqT.of (hP.gr.tup hg)) ?_ ?_
      · rintro i v σ H2 hv ⟨y5, y6, rfl, gr2, acc2, hD2, ta2⟩
        obtain ⟨gt, hgt, tgt⟩ := tg.at hv
        obtain ⟨ga, ii, rfl, hga, hii⟩ := (tgt.gr gr2.gr).gt_inv
        obtain ⟨ok1, ok2, ok3, ok4⟩ := ok i gt hgt
        refine ⟨ga, _, rfl, SqT.of hga, rfl, _, _, rfl, _, _, rfl, rfl, ?_⟩
        have tab2 := gr2.gr.2 _ tab
        have wlen : (wordsM (gs.take i) (w0M a b)).length = a.length + i := by
          rw [wordsM_len, w0len, List.length_take]
          have := (List.getElem?_eq_some_iff.mp hgt).1
          omega
        have alen : acc2.length = a.length + i := by
          have := ta2.length
          rw [List.length_map] at this
          omega
        have hi64 := (List.getElem?_eq_some_iff.mp hgt).1
        refine ⟨.ref D, rfl, .inl ⟨rfl, _, SqL.of hD2⟩, .str (tabOf gt.1), rfl, .ref ii, rfl, ii, rfl, ⟨_, SqT.of hii⟩, tab2, fun H3 tb3 => ?_⟩
        have g3 := Gr.tab tab2 tb3
        have hD3 := g3.lst hD2
        have nP : D ≠ T.P_words_of := fun z => by
          obtain ⟨ps, e, _⟩ := tab2
          rw [← z, hD2] at e
          cases e
        have s3 := hd1_gr (D := D) g3 fun P ⟨ps, e, _⟩ z => by
          rw [← z, hD2] at e
          cases e
        refine gx_tup (K := K) (a := ii) (xs := (gt.2.map Int.ofNat).map V.int) (fun j ys H' => H' = H3 ∧ TkAll (hd1 D H3) ys ((pick (wordsM (gs.take i) (w0M a b)) (gt.2.take j)).map wD)) ⟨rfl, .nil⟩ (fun j ys H' _ ⟨e, _⟩ => by rw [e]; exact SqT.of (g3.tup hii)) ?_ ?_
        · rintro j x ys H' hx ⟨rfl, tys⟩
          rw [List.getElem?_map, List.getElem?_map] at hx
          cases hj : gt.2[j]? with
          | none => rw [hj] at hx; cases hx
          | some k =>
            rw [hj] at hx
            cases Option.some.inj hx
            have hk := ok4 k (List.mem_of_getElem? hj)
            have hwk : (wordsM (gs.take i) (w0M a b))[k]? = some ((wordsM (gs.take i) (w0M a b)).getD k (0, 0, false)) := by
              rw [List.getD_eq_getElem?_getD, List.getElem?_eq_getElem (by omega)]
              rfl
            obtain ⟨u, hu, tu⟩ := ta2.at' hwk
            have hjl := (List.getElem?_eq_some_iff.mp hj).1
            refine ⟨rfl, .ref D, rfl, .int (Int.ofNat k), rfl, D, _, Int.ofNat k, u, rfl, rfl, SqL.of hD3, ?_, ?_, rfl, ?_⟩
            · exact atI_nat hu
            · have := tys.length
              rw [List.length_map] at this
              unfold pick at this
              rw [List.length_map, List.length_take] at this
              exact Nat.lt_of_lt_of_le (show ys.length < 64 by omega) (by decide)
            · rw [List.take_add_one, hj]
              unfold pick
              rw [List.map_append, List.map_append]
              exact tys.append (.cons (tu.gr s3) .nil)
        · rintro ys H' ⟨rfl, tys⟩
          rw [List.length_map, List.length_map, List.take_length] at tys
          have yl : ys.length = gt.2.length := by
            have := tys.length
            rw [List.length_map] at this
            unfold pick at this
            rw [List.length_map] at this
            exact this
          refine ⟨Nat.le_trans (show ys.length ≤ 64 by omega) (by decide), fun p np => ?_⟩
          have pl : (pick (wordsM (gs.take i) (w0M a b)) gt.2).length = gt.2.length := by unfold pick; rw [List.length_map]
          have tp : Tk (upd H' p (.tup ys)) (.ref p) (.tuple ((pick (wordsM (gs.take i) (w0M a b)) gt.2).map wD)) := .tup upd_same ((tys.same hd1_le).same (same_upd np))
          refine ⟨gt.1, p, _, rfl, tp, fun x hx => ?_, by rw [pl]; exact ok1, by rw [pl]; exact ok3, fun r H4 s4 hr4 => ?_⟩
          · obtain ⟨k, hk, rfl⟩ := List.mem_map.mp hx
            refine wordsM_ok (gs.take i) (w0M a b) (w0_ok ha hb) _ ?_
            rw [List.getD_eq_getElem?_getD, List.getElem?_eq_getElem (by rw [wlen]; exact ok4 k hk)]
            exact List.getElem_mem _
          · have hD4 : H4 D = some (.lst acc2) := s4 _ _ (by rw [upd_ne (ne_of_none hD3 np)]; exact hD3)
            have g34 : Gr H' H4 := (Gr.none np).trans (Gr.of s4)
            refine ⟨D, acc2, _, rfl, rfl, hD4, Nat.lt_of_lt_of_le (show acc2.length < 2000 by omega) (by decide), ?_⟩
            refine ⟨_, _, rfl, (gr2.then hD2 (g3.trans g34)).set, _, upd_same, ?_⟩
            rw [wordsM_take hgt]
            unfold stepW
            rw [List.map_append]
            have s4D := hd1_gr (D := D) g34 fun P ⟨ps, e, _⟩ z => by
              rw [← z, hD3] at e
              cases e
            have rD : r ≠ D := (ne_of hD4 hr4 (by intro z; cases z)).symm
            refine (((ta2.gr s3).gr s4D).same hd1_upd).append (.cons (.tup (a := r) ?_ (.cons (.int _) (.cons (.int _) (.cons (.bl _) .nil)))) .nil)
            rw [hd1_at rD, upd_ne rD]
            exact hr4
      · rintro σ H2 ⟨y5, y6, rfl, gr2, acc2, hD2, ta2⟩
        have xl : xs.length = gs.length := by rw [tg.length, List.length_map]
        rw [xl, List.take_length] at ta2
        refine ⟨.ref D, rfl, D, acc2, rfl, .inl ⟨SqL.of hD2, fun l nl => ?_⟩⟩
        exact q l _ (gr2.gr.trans (Gr.none nl)) (.tup upd_same ((ta2.same hd1_le).same (same_upd nl)))

end
end Gk

set_option Elab.async false
set_option linter.all false
set_option maxRecDepth 100000
set_option maxHeartbeats 1000000
namespace Gk
open PySem PySem.Spec PyProof.Rows L2
/-! ### data of tuples alone: no list that is written can harm it -/
mutual
def noL : PyData → Bool
  | .list _ => false
  | .tuple ds => noLs ds
  | _ => true
def noLs : List PyData → Bool
  | [] => true
  | d :: r => noL d && noLs r
end
def Ts (H H' : Hp) : Prop := ∀ b xs, H b = some (HO.tup xs) → H' b = some (.tup xs)
theorem Ts.refl {H : Hp} : Ts H H := fun _ _ e => e
theorem Ts.trans {H H1 H2 : Hp} (a : Ts H H1) (b : Ts H1 H2) : Ts H H2 := fun c xs e => b c xs (a c xs e)
theorem Ts.same {H H' : Hp} (s : Same H H') : Ts H H' := fun b xs e => s _ _ e
theorem Ts.gr {H H' : Hp} (s : Gr H H') : Ts H H' := fun b xs e => s.tup e
theorem Ts.new {H : Hp} {p : Addr} {o : HO} (h : H p = none) : Ts H (upd H p o) := Ts.same (same_upd h)
theorem Ts.set {H : Hp} {p : Addr} {xs ys : List V} (h : H p = some (.lst xs)) : Ts H (upd H p (.lst ys)) := fun b zs e => by
  rw [upd_ne (ne_of e h (by intro z; cases z))]
  exact e
mutual
theorem Tk.ts {H H' : Hp} (s : Ts H H') : ∀ {v : V} {d : PyData}, Tk H v d → noL d = true → Tk H' v d
  | _, _, .bl b, _ => .bl b
  | _, _, .int i, _ => .int i
  | _, _, .str x, _ => .str x
  | _, _, .lst h t, n => by cases n
  | _, _, .tup h t, n => .tup (s _ _ h) (t.ts s n)
theorem TkAll.ts {H H' : Hp} (s : Ts H H') : ∀ {vs : List V} {ds : List PyData}, TkAll H vs ds → noLs ds = true → TkAll H' vs ds
  | _, _, .nil, _ => .nil
  | _, _, .cons (d := d) (ds := ds) h t, n => by
    have n' : noL d = true ∧ noLs ds = true := Bool.and_eq_true_iff.mp n
    exact .cons (h.ts s n'.1) (t.ts s n'.2)
end
theorem noLs_map {α : Type} {f : α → PyData} (h : ∀ x, noL (f x) = true) : ∀ l : List α, noLs (l.map f) = true
  | [] => rfl
  | x :: r => by
    show (noL (f x) && noLs (r.map f)) = true
    rw [h x, noLs_map h r]
    rfl
theorem noL_row (r : List Int) : noL (rowD r) = true := noLs_map (fun _ => rfl) r
theorem noL_gate (g : Gt) : noL (gD g) = true := by
  show (true && (noLs ((g.2.map Int.ofNat).map PyData.int) && true)) = true
  rw [noLs_map (fun _ => rfl)]
  rfl
theorem noL_gates (gs : List Gt) : noLs (gs.map gD) = true := noLs_map noL_gate gs
theorem noL_net (m : Int) (gs : List Gt) : noL (netD m gs) = true := by
  show (true && (noLs (gs.map gD) && true)) = true
  rw [noL_gates]
  rfl
theorem noL_ch (a b : List Int) : noL (chD a b) = true := by
  show (noL (rowD a) && (noL (rowD b) && true)) = true
  rw [noL_row, noL_row]
  rfl

theorem noL_words (ws : List Wd) : noL (.tuple (ws.map wD)) = true := noLs_map (fun _ => rfl) ws

section
variable {P : Program} {w : World} {K : PySem.W.Frag} {mg : Str → Option Value} {base : Heap}
/-! ### what is a net: of nets -/
theorem kII : kitB "int" "int" = some true := by decide +kernel
theorem kIB : kitB "int" "bool" = some false := by decide +kernel
theorem kTT : kitB "tuple" "tuple" = some true := by decide +kernel
theorem kSS : kitB "str" "str" = some true := by decide +kernel
theorem kBB : kitB "bool" "bool" = some true := by decide +kernel
def sp_is_whole (K : PySem.W.Frag) : Sp := fun vs H Q _ => ∃ i : Int, vs = [.int i] ∧ Q (.bl true) H
theorem ok_is_whole (T : Tx K mg) : FnOk P w K mg base CX0 1 T.f_is_whole T.fd_is_whole ["thing"] (sp_is_whole K) := by
  refine T.F_is_whole.ok sc_is_whole (fun vs H Q E h => ?_) (fun cdv A outer s H vs Q E hr h => ?_)
  · obtain ⟨i, rfl, _⟩ := h
    rfl
  · obtain ⟨i, rfl, q⟩ := h
    refine ⟨_, (pss_one (ps_ret (pe_and (pe_callB call_isi (by rfl) T.m_isinstance (by decide +kernel) (pa_cons (pv 0) (pa_cons (pe_bltn (v := .ty "int") (u := .type "int") (by rfl) T.m_int (by decide +kernel) rfl) pa_nil))) (pe_one (pe_not (pe_callB call_isi (by rfl) T.m_isinstance (by decide +kernel) (pa_cons (pv 0) (pa_cons (pe_bltn (v := .ty "bool") (u := .type "bool") (by rfl) T.m_bool (by decide +kernel) rfl) pa_nil)))))))), ?_⟩
    refine ⟨.int i, rfl, _, _, _, _, _, rfl, .ty _, .base (.int i), kit_ty kII, _, rfl, iteT ?_⟩
    exact ⟨.int i, rfl, _, _, _, _, _, rfl, .ty _, .base (.int i), kit_ty kIB, _, rfl, q⟩
def sp_is_signs (K : PySem.W.Frag) (Pt : Addr) : Sp := fun vs H Q _ => ∃ (k : Nat) (bs : List Bool), vs = [.int k, .str (tabOf bs)] ∧ bs.length = k ∧ k ≤ 64 ∧ GxR.TabG H Pt ∧ ∀ H', Gr H H' → Q (.bl true) H'
theorem ok_is_signs (T : Tx K mg) (B : Tb base T) : FnOk P w K mg base CX0 2 T.f_is_signs T.fd_is_signs ["many", "thing"] (sp_is_signs K T.P_is_signs) := by
  refine okC T.F_is_signs sc_is_signs (fun vs H Q E h => ?_) (fun A outer s H vs Q E hr h => ?_)
  · obtain ⟨k, bs, rfl, _⟩ := h
    rfl
  · obtain ⟨k, bs, rfl, lb, h64, tab, q⟩ := h
    refine ⟨_, (pss_one (ps_ret (pe_and (pe_callB call_isi (by rfl) T.m_isinstance (by decide +kernel) (pa_cons (pv 1) (pa_cons (pe_bltn (v := .ty "str") (u := .type "str") (by rfl) T.m_str (by decide +kernel) rfl) pa_nil))) (pe_and (pe_cmpR op_eq (pe_callB call_len_str (by rfl) T.m_len PySem.boot_len (pa_cons (pv 1) pa_nil)) (pv 0) (nomark _)) (pe_one (pe_allX (own := [("sign", 2)]) (k := 0) (hr.mono (by decide)) rfl sc_is_signs.nd (by rfl) T.m_all (by decide +kernel) B.TB_is_signs T.cd_is_signs rfl rfl (by decide +kernel) (blkOk_by (own := [("sign", 2)]) (N := ["many", "thing", "sign"]) (sc := defScope s_is_signs) (by decide +kernel)) (pi_str (pv 1)) (fun _ _ _ _ _ _ _ hr gd => (pg_name (i := 2) sc_is_signs.nd rfl (by first | exact .inl rfl | exact .inr rfl))) (fun _ _ _ _ _ _ _ hr gd => pts_nil) (fun _ _ _ _ _ _ _ hr gd => (pe_cmpR op_in_sign (pv 2) pe_str rfl)) (fun _ => rfl))))))), ?_⟩
    have tl : (tabOf bs).length = k := by rw [← lb]; simp [tabOf, Str.length]
    refine ⟨.str (tabOf bs), rfl, _, _, _, _, _, rfl, .ty _, .base (.str _), kit_ty kSS, _, rfl, iteT ?_⟩
    refine ⟨.str (tabOf bs), rfl, _, rfl, by rw [tl]; exact Nat.le_trans h64 (by decide), ?_⟩
    rw [tl]
    refine ⟨.int k, rfl, rfl, _, rfl, ?_⟩
    rw [decide_eq_true rfl]
    refine iteT ?_
    refine ⟨.str (tabOf bs), rfl, tabOf bs, rfl, tab, fun H2 tb => ?_⟩
    have g2 := Gr.tab tab tb
    refine gx_str (z := tabOf bs) (fun j _ H' => H' = H2) rfl ?_ ?_
    · rintro j x _ H' hx rfl
      refine ⟨rfl, .str ⟨#[x]⟩, rfl, x, _, rfl, rfl, true, ?_, rfl⟩
      have hm : x = 48 ∨ x = 49 := by
        have hx' : (bs.map fun b => if b = true then 49 else 48)[j]? = some x := by
          have : (tabOf bs).cps[j]? = some x := hx
          simpa [tabOf] using this
        rw [List.getElem?_map] at hx'
        cases hb : bs[j]? with
        | none => rw [hb] at hx'; cases hx'
        | some b =>
          rw [hb] at hx'
          cases Option.some.inj hx'
          cases b
          · exact .inl rfl
          · exact .inr rfl
      rcases hm with rfl | rfl <;> rfl
    · rintro _ H' rfl
      exact q H' g2
def Tabs2 (T : Tx K mg) (H : Hp) : Prop := GxR.TabG H T.P_is_signs ∧ GxR.TabG H T.P_is_gate ∧ GxR.TabG H T.P_is_net
theorem Tabs2.gr {T : Tx K mg} {H H' : Hp} (t : Tabs2 T H) (g : Gr H H') : Tabs2 T H' := ⟨g.2 _ t.1, g.2 _ t.2.1, g.2 _ t.2.2⟩
def sp_is_gate (T : Tx K mg) : Sp := fun vs H Q _ => ∃ (n : Nat) (gv : V) (g : Gt), vs = [.int n, gv] ∧ Tk H gv (gD g) ∧ GtOk n g ∧ Tabs2 T H ∧ ∀ H', Gr H H' → Q (.bl true) H'
theorem ok_is_gate (T : Tx K mg) (B : Tb base T) : FnOk P w K mg base CX0 3 T.f_is_gate T.fd_is_gate ["wires", "thing"] (sp_is_gate T) := by
  refine okC T.F_is_gate sc_is_gate (fun vs H Q E h => ?_) (fun A outer s H vs Q E hr h => ?_)
  · obtain ⟨n, gv, g, rfl, _⟩ := h
    rfl
  · obtain ⟨n, gv, g, rfl, tg, ⟨o1, o2, o3, o4⟩, tabs, q⟩ := h
    refine ⟨_, (pss_cons (ps_if (pw_or (pt_not (pt_val (pe_callB call_isi (by rfl) T.m_isinstance (by decide +kernel) (pa_cons (pv 1) (pa_cons (pe_bltn (v := .ty "tuple") (u := .type "tuple") (by rfl) T.m_tuple (by decide +kernel) rfl) pa_nil))))) (pw_or1 (pt_cmpR op_ne (pe_callB call_len_seq (by rfl) T.m_len PySem.boot_len (pa_cons (pv 1) pa_nil)) pe_int (nomark _)))).pt (pss_one (ps_ret pe_bl)) pss_nil) (pss_cons (ps_asg (pv 1) (pg_tup rfl (pgs_cons (pg_name (i := 2) sc_is_gate.nd rfl (by first | exact .inl rfl | exact .inr rfl)) (pgs_cons (pg_name (i := 3) sc_is_gate.nd rfl (by first | exact .inl rfl | exact .inr rfl)) pgs_nil)))) (pss_cons (ps_if (pw_or (pt_not (pt_val (pe_callB call_isi (by rfl) T.m_isinstance (by decide +kernel) (pa_cons (pv 3) (pa_cons (pe_bltn (v := .ty "tuple") (u := .type "tuple") (by rfl) T.m_tuple (by decide +kernel) rfl) pa_nil))))) (pw_or1 (pt_not (pt_chain op_le op_le pe_int (pe_callB call_len_seq (by rfl) T.m_len PySem.boot_len (pa_cons (pv 3) pa_nil)) (pe_glob (v := .int 3) (by rfl) T.k_MOST_INS.choose_spec ⟨_, rfl⟩))))).pt (pss_one (ps_ret pe_bl)) pss_nil) (pss_one (ps_ret (pe_and (pe_call (ok_is_signs T B) (hr.mono (by decide)) (by rfl) T.g_is_signs T.F_is_signs.kp T.b_is_signs .nil pass0 (pa_cons (pe_op op_shl pe_int (pe_callB call_len_seq (by rfl) T.m_len PySem.boot_len (pa_cons (pv 3) pa_nil))) (pa_cons (pv 2) pa_nil))) (pe_one (pe_allX (own := [("wire", 4)]) (k := 1) (hr.mono (by decide)) rfl sc_is_gate.nd (by rfl) T.m_all (by decide +kernel) B.TB_is_gate T.cd_is_gate rfl rfl (by decide +kernel) (blkOk_by (own := [("wire", 4)]) (N := ["wires", "thing", "table", "ins", "wire"]) (sc := defScope s_is_gate) (by decide +kernel)) (pi_tup (pv 3)) (fun _ _ _ _ _ _ _ hr gd => (pg_name (i := 4) sc_is_gate.nd rfl (by first | exact .inl rfl | exact .inr rfl))) (fun _ _ _ _ _ _ _ hr gd => pts_nil) (fun _ _ _ _ _ _ _ hr gd => (pe_and (pe_call (ok_is_whole T) (hr.mono (by decide)) (by rfl) T.g_is_whole T.F_is_whole.kp T.b_is_whole .nil pass0 (pa_cons (pv 4) pa_nil)) (pe_one (pe_chain op_le op_lt pe_int (pv 4) (pv 0))))) (fun _ => rfl))))))))), ?_⟩
    obtain ⟨a, i, rfl, ha, hi⟩ := tg.gt_inv
    refine ⟨.ref a, rfl, _, _, _, _, _, rfl, .ty _, .base (.tup ha), kit_ty kTT, _, rfl, iteF ⟨.ref a, rfl, a, _, rfl, .inr (SqT.of ha), rfl, _, rfl, iteF ?_⟩⟩
    refine ⟨.ref a, rfl, a, _, rfl, SqT.of ha, rfl, _, _, rfl, _, _, rfl, rfl, ?_⟩
    have li : (List.map V.int (List.map Int.ofNat g.2)).length = g.2.length := by rw [List.length_map, List.length_map]
    refine ⟨.ref i, rfl, _, _, _, _, _, rfl, .ty _, .base (.tup hi), kit_ty kTT, _, rfl, iteF ⟨.ref i, rfl, i, _, rfl, .inr (SqT.of hi), ?_⟩⟩
    rw [li]
    refine ⟨1, _, rfl, rfl, _, rfl, ?_⟩
    rw [decide_eq_true (show (1 : Int) ≤ (g.2.length : Int) by omega)]
    refine iteT ⟨_, 3, rfl, rfl, _, rfl, ?_⟩
    rw [decide_eq_true (show (g.2.length : Int) ≤ 3 by omega)]
    refine iteF ?_
    refine ⟨.ref i, rfl, i, _, rfl, .inr (SqT.of hi), ?_⟩
    rw [li]
    refine ⟨1, _, rfl, rfl, ⟨by omega, by omega, by decide⟩, .str (tabOf g.1), rfl, g.1.length, g.1, ?_, rfl, ?_, tabs.1, fun H2 g2 => ⟨_, rfl, iteT ?_⟩⟩
    · have : (1 : Int) * 2 ^ ((g.2.length : Int)).toNat = (g.1.length : Int) := by
        rw [o1]
        simp
      show [V.int ((1 : Int) * 2 ^ ((g.2.length : Int)).toNat), V.str (tabOf g.1)] = _
      rw [this]
    · rw [o1]
      have : g.2.length = 1 ∨ g.2.length = 2 ∨ g.2.length = 3 := by omega
      rcases this with h | h | h <;> rw [h] <;> decide
    have hi2 := g2.tup hi
    have tabs2 := tabs.gr g2
    refine ⟨.ref i, rfl, i, rfl, ⟨_, SqT.of hi2⟩, tabs2.2.1, fun H3 tb3 => ?_⟩
    have g3 := Gr.tab tabs2.2.1 tb3
    refine gx_tup (K := K) (a := i) (xs := (g.2.map Int.ofNat).map V.int) (fun j _ H' => H' = H3) rfl (fun j _ H' _ e => by rw [e]; exact SqT.of (g3.tup hi2)) ?_ ?_
    · rintro j x _ H' hx rfl
      rw [List.getElem?_map, List.getElem?_map] at hx
      cases hj : g.2[j]? with
      | none => rw [hj] at hx; cases hx
      | some k =>
        rw [hj] at hx
        cases Option.some.inj hx
        have hk := o4 k (List.mem_of_getElem? hj)
        refine ⟨rfl, .int (Int.ofNat k), rfl, _, rfl, _, rfl, iteT ?_⟩
        refine ⟨.int (Int.ofNat k), rfl, 0, _, rfl, rfl, _, rfl, ?_⟩
        rw [decide_eq_true (show (0 : Int) ≤ Int.ofNat k from Int.natCast_nonneg k)]
        refine iteT ⟨.int n, rfl, _, _, rfl, rfl, true, ?_, rfl⟩
        dsimp only
        rw [decide_eq_true (show Int.ofNat k < (n : Int) from Int.ofNat_lt.mpr hk)]
    · rintro _ H' rfl
      exact q H' (g2.trans g3)
def sp_is_net (T : Tx K mg) : Sp := fun vs H Q _ => ∃ (nv : V) (m : Nat) (gs : List Gt), vs = [nv] ∧ Tk H nv (netD m gs) ∧ 1 ≤ m ∧ m ≤ 6 ∧ 1 ≤ gs.length ∧ NetOk m gs ∧ Tabs2 T H ∧ ∀ H', Gr H H' → Q (.bl true) H'
theorem ok_is_net (T : Tx K mg) (B : Tb base T) : FnOk P w K mg base CX0 5 T.f_is_net T.fd_is_net ["thing"] (sp_is_net T) := by
  refine okC T.F_is_net sc_is_net (fun vs H Q E h => ?_) (fun A outer s H vs Q E hr h => ?_)
  · obtain ⟨nv, m, gs, rfl, _⟩ := h
    rfl
  · obtain ⟨nv, m, gs, rfl, tn, m1, m6, g1, ok, tabs, q⟩ := h
    refine ⟨_, (pss_cons (ps_if (pw_or (pt_not (pt_val (pe_callB call_isi (by rfl) T.m_isinstance (by decide +kernel) (pa_cons (pv 0) (pa_cons (pe_bltn (v := .ty "tuple") (u := .type "tuple") (by rfl) T.m_tuple (by decide +kernel) rfl) pa_nil))))) (pw_or1 (pt_cmpR op_ne (pe_callB call_len_seq (by rfl) T.m_len PySem.boot_len (pa_cons (pv 0) pa_nil)) pe_int (nomark _)))).pt (pss_one (ps_ret pe_bl)) pss_nil) (pss_cons (ps_asg (pv 0) (pg_tup rfl (pgs_cons (pg_name (i := 1) sc_is_net.nd rfl (by first | exact .inl rfl | exact .inr rfl)) (pgs_cons (pg_name (i := 2) sc_is_net.nd rfl (by first | exact .inl rfl | exact .inr rfl)) pgs_nil)))) (pss_cons (ps_if (pw_or (pt_not (pt_val (pe_call (ok_is_whole T) (hr.mono (by decide)) (by rfl) T.g_is_whole T.F_is_whole.kp T.b_is_whole .nil pass0 (pa_cons (pv 1) pa_nil)))) (pw_or1 (pt_not (pt_chain op_le op_le pe_int (pv 1) (pe_glob (v := .int 6) (by rfl) T.k_MOST_INPUTS.choose_spec ⟨_, rfl⟩))))).pt (pss_one (ps_ret pe_bl)) pss_nil) (pss_cons (ps_if (pw_or (pt_not (pt_val (pe_callB call_isi (by rfl) T.m_isinstance (by decide +kernel) (pa_cons (pv 2) (pa_cons (pe_bltn (v := .ty "tuple") (u := .type "tuple") (by rfl) T.m_tuple (by decide +kernel) rfl) pa_nil))))) (pw_or1 (pt_cmpR op_eq (pe_callB call_len_seq (by rfl) T.m_len PySem.boot_len (pa_cons (pv 2) pa_nil)) pe_int (nomark _)))).pt (pss_one (ps_ret pe_bl)) pss_nil) (pss_one (ps_ret (pe_allX (own := [("number", 3), ("gate", 4)]) (k := 3) (hr.mono (by decide)) rfl sc_is_net.nd (by rfl) T.m_all (by decide +kernel) B.TB_is_net T.cd_is_net rfl rfl (by decide +kernel) (blkOk_by (own := [("number", 3), ("gate", 4)]) (N := ["thing", "many", "gates", "number", "gate"]) (sc := defScope s_is_net) (by decide +kernel)) (pi_enumT (by rfl) T.m_enumerate (pa_cons (pv 2) pa_nil)) (fun _ _ _ _ _ _ _ hr gd => (show PG _ _ (gTup K 2 _) from pg_tup rfl (pgs_cons (pg_name (i := 3) sc_is_net.nd rfl (by first | exact .inl rfl | exact .inr rfl)) (pgs_cons (pg_name (i := 4) sc_is_net.nd rfl (by first | exact .inl rfl | exact .inr rfl)) pgs_nil)))) (fun _ _ _ _ _ _ _ hr gd => pts_nil) (fun _ _ _ _ _ _ _ hr gd => (pe_call (ok_is_gate T B) (hr.mono (by decide)) (by rfl) T.g_is_gate T.F_is_gate.kp T.b_is_gate .nil pass0 (pa_cons (pe_op op_add (pv 1) (pv 3)) (pa_cons (pv 4) pa_nil)))) (fun _ => rfl)))))))), ?_⟩
    obtain ⟨a, g, xs, rfl, ha, hg, tg⟩ := tn.net_inv
    have xl : xs.length = gs.length := by rw [tg.length, List.length_map]
    refine ⟨.ref a, rfl, _, _, _, _, _, rfl, .ty _, .base (.tup ha), kit_ty kTT, _, rfl, iteF ⟨.ref a, rfl, a, _, rfl, .inr (SqT.of ha), rfl, _, rfl, iteF ?_⟩⟩
    refine ⟨.ref a, rfl, a, _, rfl, SqT.of ha, rfl, _, _, rfl, _, _, rfl, rfl, ?_⟩
    refine ⟨.int m, rfl, _, rfl, _, rfl, iteF ⟨.int m, rfl, 1, _, rfl, rfl, _, rfl, ?_⟩⟩
    rw [decide_eq_true (show (1 : Int) ≤ (m : Int) by omega)]
    refine iteT ⟨_, 6, rfl, rfl, _, rfl, ?_⟩
    rw [decide_eq_true (show (m : Int) ≤ 6 by omega)]
    refine iteF ?_
    refine ⟨.ref g, rfl, _, _, _, _, _, rfl, .ty _, .base (.tup hg), kit_ty kTT, _, rfl, iteF ⟨.ref g, rfl, g, _, rfl, .inr (SqT.of hg), rfl, _, rfl, ?_⟩⟩
    have e0 : decide (V.int (xs.length : Int) = V.int 0) = false := decide_eq_false fun z => by
      have := V.int.inj z
      omega
    rw [e0]
    refine iteF ?_
    refine ⟨.ref g, rfl, g, _, rfl, SqT.of hg, tabs.2.2, fun H2 tb2 => ?_⟩
    have g2 := Gr.tab tabs.2.2 tb2
    refine gx_enum (K := K) (a := g) (xs := xs) (fun j _ H' => Gr H H') g2 (fun j _ H' _ e => SqT.of (e.tup hg)) ?_ ?_
    · rintro j x Tq _ H' hx nT gr
      obtain ⟨gt, hgt, tgt⟩ := tg.at hx
      have g3 : Gr H (upd H' Tq (.tup [.int (j : Nat), x])) := gr.trans (Gr.none nT)
      refine ⟨Tq, _, rfl, SqT.of upd_same, rfl, _, _, rfl, _, _, rfl, rfl, rfl, ?_⟩
      refine ⟨.int m, rfl, .int (j : Nat), rfl, _, _, rfl, rfl, x, rfl, m + j, x, gt, ?_, tgt.gr g3, ok j gt hgt, tabs.gr g3, fun H4 g4 => ⟨true, rfl, g3.trans g4⟩⟩
      show [V.int ((m : Int) + (j : Int)), x] = [V.int ((m + j : Nat) : Int), x]
      rw [Int.natCast_add]
    · rintro _ H' gr
      exact q H' gr

def flatG (gs : List Gt) : List Nat := gs.flatMap (·.2)
def high (m : Nat) (l : List Nat) : List Nat := l.filter fun x => decide (m ≤ x)
def formB (m : Nat) (gs : List Gt) : Bool := decide (high m (flatG gs)).Nodup
theorem flatG_take {gs : List Gt} {i : Nat} {g : Gt} (h : gs[i]? = some g) : flatG (gs.take (i + 1)) = flatG (gs.take i) ++ g.2 := by
  rw [List.take_add_one, h]
  unfold flatG
  show ((gs.take i) ++ [g]).flatMap _ = _
  rw [List.flatMap_append]
  simp
theorem high_app (m : Nat) (a b : List Nat) : high m (a ++ b) = high m a ++ high m b := List.filter_append ..
theorem flatG_split {gs : List Gt} {i j : Nat} {g : Gt} {k : Nat} (h : gs[i]? = some g) (hj : g.2[j]? = some k) : ∃ t, flatG gs = (flatG (gs.take i) ++ g.2.take j) ++ k :: t := by
  have e1 : gs = gs.take i ++ g :: gs.drop (i + 1) := by
    have hi := (List.getElem?_eq_some_iff.mp h)
    obtain ⟨hl, e⟩ := hi
    rw [← e, List.getElem_cons_drop, List.take_append_drop]
  have e2 : g.2 = g.2.take j ++ k :: g.2.drop (j + 1) := by
    have hj' := (List.getElem?_eq_some_iff.mp hj)
    obtain ⟨hl, e⟩ := hj'
    rw [← e, List.getElem_cons_drop, List.take_append_drop]
  refine ⟨g.2.drop (j + 1) ++ flatG (gs.drop (i + 1)), ?_⟩
  have e3 : flatG gs = flatG (gs.take i) ++ (g.2 ++ flatG (gs.drop (i + 1))) := by
    conv => lhs; rw [e1]
    unfold flatG
    rw [List.flatMap_append, List.flatMap_cons]
  rw [e3]
  conv => lhs; rw [e2]
  simp
theorem high_len (m : Nat) (l : List Nat) : (high m l).length ≤ l.length := List.length_filter_le ..
theorem flatG_len {gs : List Gt} (h : ∀ g ∈ gs, g.2.length ≤ 3) : (flatG gs).length ≤ 3 * gs.length := by
  induction gs with
  | nil => exact Nat.zero_le _
  | cons g r ih =>
    have e : flatG (g :: r) = g.2 ++ flatG r := by simp [flatG]
    have := ih fun x hx => h x (List.mem_cons_of_mem _ hx)
    have := h g (List.mem_cons_self ..)
    rw [e, List.length_append, List.length_cons]
    omega
/-- the set R holds the read gates of pre -/
def Reads (w : World) (m : Nat) (R : Addr) (H : Hp) (pre : List Nat) : Prop := ∃ (S : Int → Bool) (n : Nat), H R = some (SetO w R S n) ∧ (∀ k : Nat, S (k : Int) = decide (k ∈ high m pre)) ∧ n ≤ pre.length ∧ (high m pre).Nodup
def sp_is_formula (T : Tx K mg) : Sp := fun vs H Q _ => ∃ (nv : V) (m : Nat) (gs : List Gt), vs = [nv] ∧ Tk H nv (netD m gs) ∧ 1 ≤ m ∧ m ≤ 6 ∧ 1 ≤ gs.length ∧ gs.length ≤ 64 ∧ NetOk m gs ∧ Tabs2 T H ∧ ∀ H', Gr H H' → Q (.bl (formB m gs)) H'
theorem ok_is_formula (T : Tx K mg) (B : Tb base T) : FnOk P w K mg base CX0 6 T.f_is_formula T.fd_is_formula ["net"] (sp_is_formula T) := by
  refine T.F_is_formula.ok sc_is_formula (fun vs H Q E h => ?_) (fun cdv A outer s H vs Q E hr h => ?_)
  · obtain ⟨nv, m, gs, rfl, _⟩ := h
    rfl
  · obtain ⟨nv, m, gs, rfl, tn, m1, m6, g1, g64, ok, tabs, q⟩ := h
    refine ⟨_, (pss_cons (ps_if (pt_not (pt_val (pe_call (ok_is_net T B) (hr.mono (by decide)) (by rfl) T.g_is_net T.F_is_net.kp T.b_is_net .nil pass0 (pa_cons (pv 0) pa_nil)))) (pss_one (ps_ret pe_bl)) pss_nil) (pss_cons (ps_asg (pv 0) (pg_tup rfl (pgs_cons (pg_name (i := 1) sc_is_formula.nd rfl (by first | exact .inl rfl | exact .inr rfl)) (pgs_cons (pg_name (i := 2) sc_is_formula.nd rfl (by first | exact .inl rfl | exact .inr rfl)) pgs_nil)))) (pss_cons (ps_set (i := 3) sc_is_formula.nd rfl (by first | exact .inl rfl | exact .inr rfl) (pe_callTy0 cr_set0 (by rfl) T.m_set (by decide +kernel))) (pss_cons (ps_for PassesOwn.never rfl (pi_tup (pv 2)) (pg_tup rfl (pgs_cons (pg_name (i := 4) sc_is_formula.nd rfl (by first | exact .inl rfl | exact .inr rfl)) (pgs_cons (pg_name (i := 5) sc_is_formula.nd rfl (by first | exact .inl rfl | exact .inr rfl)) pgs_nil))) (pss_one (ps_for PassesOwn.never rfl (pi_tup (pv 5)) (pg_name (i := 6) sc_is_formula.nd rfl (by first | exact .inl rfl | exact .inr rfl)) (pss_cons (ps_if (pt_cmpR or_sin (pv 6) (pv 3) rfl) (pss_one (ps_ret pe_bl)) pss_nil) (pss_one (ps_if (pt_cmpR op_ge (pv 6) (pv 1) (nomark _)) (pss_one (ps_expr (pe_sadd (pv 3) (pa_cons (pv 6) pa_nil)))) pss_nil)))))) (pss_one (ps_ret pe_bl)))))), ?_⟩
    refine ⟨nv, rfl, nv, m, gs, rfl, tn, m1, m6, g1, ok, tabs, fun H1 gr1 => ⟨_, rfl, iteF ?_⟩⟩
    obtain ⟨a, g, xs, rfl, ha, hg, tg⟩ := (tn.gr gr1).net_inv
    have xl : xs.length = gs.length := by rw [tg.length, List.length_map]
    have ins3 : ∀ gg ∈ gs, gg.2.length ≤ 3 := fun gg hgg => by
      obtain ⟨i, hi⟩ := List.getElem?_of_mem hgg
      exact (ok i gg hi).2.2.1
    refine ⟨.ref a, rfl, a, _, rfl, SqT.of ha, rfl, _, _, rfl, _, _, rfl, rfl, ?_⟩
    refine ⟨rfl, fun R nR => ?_⟩
    refine ⟨.ref g, rfl, g, rfl, ⟨_, SqT.of ((Gr.none nR).tup hg)⟩, ?_⟩
    refine for_tup (K := K) (a := g) (xs := xs) (fun i σ H' => ∃ y4 y5 y6, σ = [some (.ref a), some (.int m), some (.ref g), some (.ref R), y4, y5, y6] ∧ GrD R H1 H' ∧ Reads w m R H' (flatG (gs.take i)))
      ⟨_, _, _, rfl, GrD.new nR, _, 0, upd_same, fun k => rfl, Nat.zero_le _, List.nodup_nil⟩ (fun i σ H' _ ⟨_, _, _, _, hP, _⟩ => SqT.of (hP.gr.tup hg)) ?_ ?_
    · rintro i v σ H2 hv ⟨y4, y5, y6, rfl, gr2, rd2⟩
      obtain ⟨gt, hgt, tgt⟩ := tg.at hv
      obtain ⟨ga, ii, rfl, hga, hii⟩ := (tgt.gr gr2.gr).gt_inv
      have g3 := ins3 gt (List.mem_of_getElem? hgt)
      have fl : (flatG (gs.take i)).length ≤ 192 := by
        have := flatG_len (gs := gs.take i) fun x hx => ins3 x (List.mem_of_mem_take hx)
        rw [List.length_take] at this
        omega
      refine ⟨ga, _, rfl, SqT.of hga, rfl, _, _, rfl, _, _, rfl, rfl, ?_⟩
      refine ⟨.ref ii, rfl, ii, rfl, ⟨_, SqT.of hii⟩, for_tup (K := K) (a := ii) (xs := (gt.2.map Int.ofNat).map V.int) (fun j σ H' => ∃ y6, σ = [some (.ref a), some (.int m), some (.ref g), some (.ref R), some (.str (tabOf gt.1)), some (.ref ii), y6] ∧ GrD R H1 H' ∧ Ts H2 H' ∧ Reads w m R H' (flatG (gs.take i) ++ gt.2.take j))
        ⟨_, rfl, gr2, Ts.refl, by rw [List.take_zero, List.append_nil]; exact rd2⟩ (fun j σ H' _ ⟨_, _, _, t, _⟩ => SqT.of (t _ _ hii)) ?_ ?_⟩
      · rintro j x σ H3 hx ⟨y6', rfl, gr3, t3, S, n, hR, hS, hn, nd⟩
        rw [List.getElem?_map, List.getElem?_map] at hx
        cases hj : gt.2[j]? with
        | none => rw [hj] at hx; cases hx
        | some k =>
          rw [hj] at hx
          cases Option.some.inj hx
          have hjl := (List.getElem?_eq_some_iff.mp hj).1
          have pl : (flatG (gs.take i) ++ gt.2.take j).length ≤ 195 := by
            rw [List.length_append, List.length_take]
            omega
          have tk1 : gt.2.take (j + 1) = gt.2.take j ++ [k] := by rw [List.take_add_one, hj]; rfl
          refine ⟨.int (Int.ofNat k), rfl, .ref R, rfl, _, R, S, n, rfl, rfl, hR, _, rfl, ite2 (fun z => ?_) (fun z => ?_)⟩
          · have hk : k ∈ high m (flatG (gs.take i) ++ gt.2.take j) := by
              have := hS k
              have z' : S (k : Int) = true := z
              rw [z'] at this
              exact of_decide_eq_true this.symm
            have : formB m gs = false := by
              unfold formB
              refine decide_eq_false fun nd2 => ?_
              obtain ⟨t, e⟩ := flatG_split hgt hj
              rw [e, high_app] at nd2
              have hkm : decide (m ≤ k) = true := (List.mem_filter.mp hk).2
              have e2 : high m (k :: t) = k :: high m t := List.filter_cons_of_pos hkm
              rw [e2] at nd2
              exact (List.nodup_append.mp nd2).2.2 k hk k (List.mem_cons_self ..) rfl
            have q' := q H3 (gr1.trans gr3.gr)
            rw [this] at q'
            exact q'
          · have hk : k ∉ high m (flatG (gs.take i) ++ gt.2.take j) := fun y => by
              have := hS k
              rw [decide_eq_true y] at this
              exact z this
            refine ⟨.int (Int.ofNat k), rfl, .int m, rfl, _, _, rfl, rfl, _, rfl, ite2 (fun c => ?_) (fun c => ?_)⟩
            · have hm : m ≤ k := by
                have : (m : Int) ≤ Int.ofNat k := of_decide_eq_true c
                exact Int.ofNat_le.mp this
              have e1 : high m (flatG (gs.take i) ++ gt.2.take (j + 1)) = high m (flatG (gs.take i) ++ gt.2.take j) ++ [k] := by
                rw [tk1, ← List.append_assoc, high_app]
                congr 1
                exact List.filter_cons_of_pos (decide_eq_true hm)
              refine ⟨.ref R, rfl, ⟨R, S, n, rfl, hR⟩, .int (Int.ofNat k), rfl, R, _, S, n, rfl, rfl, hR, Nat.lt_of_le_of_lt (show n + 1 ≤ 200 by omega) (by decide), ?_⟩
              refine ⟨_, rfl, gr3.set, t3.trans fun b zs e => ?_, _, _, upd_same, fun x => ?_, ?_, ?_⟩
              · rw [upd_ne (ne_of e hR (by intro z; cases z))]
                exact e
              · rw [e1]
                show (S (x : Int) || decide ((x : Int) = Int.ofNat k)) = _
                rw [hS x]
                have : decide ((x : Int) = Int.ofNat k) = decide (x = k) := decide_eq_decide.mpr ⟨fun y => Int.ofNat.inj y, fun y => congrArg Int.ofNat y⟩
                rw [this, ← Bool.decide_or]
                congr 1
                rw [List.mem_append, List.mem_singleton]
              · rw [tk1, ← List.append_assoc, List.length_append]
                show (if S (Int.ofNat k) = true then n else n + 1) ≤ _ + 1
                split <;> omega
              · rw [e1]
                exact List.nodup_append.mpr ⟨nd, List.nodup_cons.mpr ⟨List.not_mem_nil, List.nodup_nil⟩, fun x hx y hy e => hk (by rw [List.mem_singleton.mp hy] at e; rw [← e]; exact hx)⟩
            · have hm : ¬ m ≤ k := fun y => c (decide_eq_true (show (m : Int) ≤ Int.ofNat k from Int.ofNat_le.mpr y))
              have e1 : high m (flatG (gs.take i) ++ gt.2.take (j + 1)) = high m (flatG (gs.take i) ++ gt.2.take j) := by
                rw [tk1, ← List.append_assoc, high_app]
                have : high m [k] = [] := List.filter_cons_of_neg (by simpa using hm)
                rw [this, List.append_nil]
              refine ⟨_, rfl, gr3, t3, S, n, hR, fun x => by rw [e1]; exact hS x, ?_, by rw [e1]; exact nd⟩
              rw [tk1, ← List.append_assoc, List.length_append]
              omega
      · rintro σ H3 ⟨y6', rfl, gr3, t3, rd3⟩
        refine ⟨_, _, _, rfl, gr3, ?_⟩
        rw [flatG_take hgt]
        rw [List.length_map, List.length_map, List.take_length] at rd3
        exact rd3
    · rintro σ H2 ⟨y4, y5, y6, rfl, gr2, S, n, hR, hS, hn, nd⟩
      rw [xl, List.take_length] at nd
      have : formB m gs = true := decide_eq_true nd
      have q' := q H2 (gr1.trans gr2.gr)
      rw [this] at q'
      exact q'

end
end Gk

set_option Elab.async false
set_option linter.all false
set_option maxRecDepth 100000
set_option maxHeartbeats 1000000
namespace Gk
open PySem PySem.Spec PyProof.Rows L2
section
variable {P : Program} {w : World} {K : PySem.W.Frag} {mg : Str → Option Value} {base : Heap}
/-! ### the deck of three parts -/
theorem p03 : (0 : Int) < 1000003 := by decide
def DeckB (H : Hp) (d l : Addr) (n : Int) : Prop := d ≠ l ∧ ∃ (cs : List Int) (z y : Int), H d = some (.lst [.ref l, .int z, .int y]) ∧ H l = some (.lst (cs.map V.int)) ∧ cs.length ≤ 63 ∧ 0 ≤ z ∧ z ≤ n
theorem DeckB.mono {H : Hp} {d l : Addr} {n m : Int} (D : DeckB H d l n) (h : n ≤ m) : DeckB H d l m := by
  obtain ⟨ne, cs, z, y, h1, h2, h3, h4, h5⟩ := D
  exact ⟨ne, cs, z, y, h1, h2, h3, h4, Int.le_trans h5 h⟩
theorem DeckB.same {H H' : Hp} {d l : Addr} {n : Int} (D : DeckB H d l n) (s : Same H H') : DeckB H' d l n := by
  obtain ⟨ne, cs, z, y, hd, hl, r⟩ := D
  exact ⟨ne, cs, z, y, s _ _ hd, s _ _ hl, r⟩
theorem DeckB.gr {H H' : Hp} {d l : Addr} {n : Int} (D : DeckB H d l n) (s : Gr H H') : DeckB H' d l n := by
  obtain ⟨ne, cs, z, y, hd, hl, r⟩ := D
  exact ⟨ne, cs, z, y, s.lst hd, s.lst hl, r⟩
theorem lc_enum {K : PySem.W.Frag} {a : Addr} {xs : List V} {g : TG} {tt : TT} {te : TE} {vs : List Nat} {σ : L2.St} {H1 : Hp} {D : Addr} {Qd : Hp → Prop} (Pv : Nat → Hp → Prop) (h0 : Pv 0 (upd H1 D (.lst []))) (hl : ∀ i H, i ≤ xs.length → Pv i H → SqL K H a xs)
    (hs : ∀ i x T H, xs[i]? = some x → H T = none → Pv i H → g (.ref T) (wipe σ vs) (upd H T (.tup [.int (i : Nat), x])) fun σ2 H2 => wipe σ2 vs = wipe σ vs ∧ tt σ2 H2 fun b H3 =>
      if b = true then te σ2 H3 fun y H4 => ∃ acc, H4 D = some (.lst acc) ∧ acc.length < sizeLine ∧ Pv (i + 1) (upd H4 D (.lst (acc ++ [y]))) else Pv (i + 1) H3) (hd : ∀ H, Pv xs.length H → Qd H) :
    ∃ W : Nat → Nat → Hp → Prop, (∃ m, W 0 m (upd H1 D (.lst []))) ∧ ∀ i m H, W i m H →
      ((Ite K a).stop i H ∧ Qd H) ∨ ((Ite K a).go i H ∧ ∃ Nx : Hp → Prop, (∀ H', Nx H' → ∃ m', m' < m ∧ W (i + 1) m' H') ∧ ∀ x H', (Ite K a).yld i H x H' → g x (wipe σ vs) H' fun σ2 H2 => wipe σ2 vs = wipe σ vs ∧ tt σ2 H2 fun b H3 =>
        if b = true then te σ2 H3 fun y H4 => ∃ acc, H4 D = some (.lst acc) ∧ acc.length < sizeLine ∧ Nx (upd H4 D (.lst (acc ++ [y]))) else Nx H3) := by
  refine ⟨fun i m H => m = xs.length - i ∧ i ≤ xs.length ∧ Pv i H, ⟨xs.length, by simp, Nat.zero_le _, h0⟩, ?_⟩
  rintro i m H ⟨rfl, hi, p⟩
  have qx := hl i H hi p
  by_cases hlt : i < xs.length
  · have hx : xs[i]? = some xs[i] := List.getElem?_eq_getElem hlt
    refine .inr ⟨⟨xs, _, qx, hx⟩, Pv (i + 1), fun H' p' => ⟨xs.length - (i + 1), by omega, rfl, hlt, p'⟩, fun x H' y => ?_⟩
    obtain ⟨T, x1, rfl, nT, rfl, e1⟩ := y
    exact hs i x1 T H (e1 xs qx) nT p
  · have e : i = xs.length := by omega
    subst e
    exact .inl ⟨⟨xs, qx, Nat.le_refl _⟩, hd H p⟩
theorem cutB {ns : List Int} (h : ns.length ≤ 63) : cutV (ns.map V.int) none (some 63) = ns.map V.int := by
  unfold cutV
  have e : HT.sIx (ns.map V.int).length (ns.map V.int).length (some 63) = min 63 (ns.map V.int).length := HT.sIx_nat _ _ 63
  rw [HT.sIx_none, e, List.length_map, List.drop_zero]
  apply List.take_of_length_le
  rw [List.length_map]
  omega
def sp_deck (K : PySem.W.Frag) : Sp := fun vs H Q _ => ∃ (a : Addr) (ns : List Int), vs = [.ref a] ∧ SqL K H a (ns.map V.int) ∧ ns.length ≤ 63 ∧ ∀ H' d l, Same H H' → DeckB H' d l 0 → Q (.ref d) H'
theorem ok_deck (T : Tx K mg) : FnOk P w K mg base CX0 1 T.f_deck T.fd_deck ["_law_script"] (sp_deck K) := by
  refine T.F_deck.ok sc_deck (fun vs H Q E h => ?_) (fun cdv A outer s H vs Q E hr h => ?_)
  · obtain ⟨a, ns, rfl, _⟩ := h
    rfl
  · obtain ⟨a, ns, rfl, hS, hlen, q⟩ := h
    refine ⟨_, (pss_cons (ps_set (i := 1) sc_deck.nd rfl (by first | exact .inl rfl | exact .inr rfl) (pe_callTy call_list_of (by rfl) T.m_list (by decide +kernel) (pa_cons (pe_slice sl_list (pv 0) po_none (po_some pe_int)) pa_nil))) (pss_one (ps_ret (pe_lst (pa_cons (pv 1) (pa_cons pe_int (pa_cons (pe_callB (cr_sum rfl) (by rfl) T.m_sum (by decide +kernel) (pa_cons (pe_lc (own := [("_law_k", 2), ("_law_cell", 3)]) (by rfl) sc_deck.nd (pi_enum (by rfl) T.m_enumerate (pa_cons (pv 1) pa_nil)) (blkOk_by (own := [("_law_k", 2), ("_law_cell", 3)]) (N := ["_law_script", "_law_cells", "_law_k", "_law_cell"]) (sc := defScope s_deck) (by decide +kernel)) (fun _ _ _ _ _ => (show PG _ _ (gTup K 2 _) from pg_tup rfl (pgs_cons (pg_name (i := 2) sc_deck.nd rfl (by first | exact .inl rfl | exact .inr rfl)) (pgs_cons (pg_name (i := 3) sc_deck.nd rfl (by first | exact .inl rfl | exact .inr rfl)) pgs_nil)))) (fun _ _ _ _ _ => pts_nil) (fun _ _ _ _ _ => (pe_op op_mul (pe_op op_mod (pv 3) pe_int) (pe_op op_add (pv 2) pe_int)))) pa_nil)) pa_nil))))))), ?_⟩
    refine ⟨.ref a, rfl, 63, rfl, a, _, rfl, hS, fun c2 nc2 => ?_⟩
    rw [cutB hlen]
    refine ⟨c2, _, rfl, .inl (SqL.of upd_same), fun l nl => ?_⟩
    have s1 : Same H (upd (upd H c2 (.lst (ns.map V.int))) l (.lst (ns.map V.int))) := (same_upd nc2).trans (same_upd nl)
    have h1 : (upd (upd H c2 (.lst (ns.map V.int))) l (.lst (ns.map V.int))) l = some (.lst (ns.map V.int)) := upd_same
    revert s1 h1
    generalize upd (upd H c2 (.lst (ns.map V.int))) l (.lst (ns.map V.int)) = H1
    intro s1 h1
    refine ⟨.ref l, rfl, .ref l, rfl, l, _, rfl, SqL.of h1, fun D nD => ?_⟩
    refine lc_enum (K := K) (a := l) (xs := ns.map V.int) (fun i H' => Same H1 (hd1 D H') ∧ ∃ ms : List Int, H' D = some (.lst (ms.map V.int)) ∧ ms.length = i) ⟨hd1_of (same_upd nD) nD, [], upd_same, rfl⟩ (fun i H' _ hP => SqL.of (hd1_le _ _ (hP.1 _ _ h1))) ?_ ?_
    · rintro i x Tq H2 hx nT ⟨s2, ms, hD, lm⟩
      rw [List.getElem?_map] at hx
      cases hj : ns[i]? with
      | none => rw [hj] at hx; cases hx
      | some c =>
        rw [hj] at hx
        cases Option.some.inj hx
        have hi := (List.getElem?_eq_some_iff.mp hj).1
        refine ⟨Tq, _, rfl, SqT.of upd_same, rfl, _, _, rfl, _, _, rfl, rfl, rfl, ?_⟩
        refine ⟨.int c, rfl, _, _, rfl, rfl, p03, .int (i : Nat), rfl, _, _, rfl, rfl, c % 1000003, (i : Int) + 2, rfl, rfl, .inr ⟨by omega, by omega⟩, ?_⟩
        have hD2 : (upd H2 Tq (.tup [.int (i : Nat), .int c])) D = some (.lst (ms.map V.int)) := by
          rw [upd_ne (ne_of_none hD nT)]
          exact hD
        refine ⟨_, hD2, ?_, (s2.trans (hd1_same (same_upd nT))).trans hd1_upd, ms ++ [c % 1000003 * ((i : Int) + 2)], ?_, by rw [List.length_append, lm]; rfl⟩
        · rw [List.length_map, lm]
          exact Nat.lt_of_lt_of_le (show i < 64 by omega) (by decide)
        · rw [upd_same, List.map_append]
          rfl
    · rintro H2 ⟨s2, ms, hD, lm⟩
      have s12 : Same H1 H2 := fun b o e => hd1_le _ _ (s2 _ _ e)
      refine ⟨D, ms, rfl, SqL.of hD, sl3, fun d nd => ?_⟩
      have nld : l ≠ d := ne_of_none (s12 _ _ h1) nd
      exact q _ d l ((s1.trans s12).trans (same_upd nd)) ⟨nld.symm, ns, 0, ms.sum, upd_same, (by rw [upd_ne nld]; exact s12 _ _ h1), hlen, Int.le_refl _, Int.le_refl _⟩
/-! ### a draw -/
def sp_draw (K : PySem.W.Frag) : Sp := fun vs H Q _ => ∃ (d l : Addr) (m n : Int), vs = [.ref d, .int m] ∧ DeckB H d l n ∧ n < 1000000000 ∧ 0 < m ∧ m < 1073741824 ∧ ∀ H' v, DeckB H' d l (n + 1) → Fr d l H H' → 0 ≤ v → v < m → Q (.int v) H'
theorem ok_draw (T : Tx K mg) : FnOk P w K mg base CX0 1 T.f_draw T.fd_draw ["_law_deck_here", "_law_most"] (sp_draw K) := by
  refine T.F_draw.ok sc_draw (fun vs H Q E h => ?_) (fun cdv A outer s H vs Q E hr h => ?_)
  · obtain ⟨d, l, m, n, rfl, _⟩ := h
    rfl
  · obtain ⟨d, l, m, n, rfl, D, hn, hm0, hm1, q⟩ := h
    obtain ⟨ne, cs, z, y, hd, hl, hcs, hz0, hz1⟩ := D
    refine ⟨_, (pss_cons (ps_asg (pe_op op_add (pe_ix ix_list (pv 0) pe_int (fun _ _ => rfl)) pe_int) (pg_sub (pv 0) pe_int set_list)) (pss_cons (ps_set (i := 2) sc_draw.nd rfl (by first | exact .inl rfl | exact .inr rfl) (pe_op op_add (pe_ix ix_list (pv 0) pe_int (fun _ _ => rfl)) (pe_op op_mul pe_int (pe_ix ix_list (pv 0) pe_int (fun _ _ => rfl))))) (pss_cons (ps_if (pt_cmpR (op_neD hr.units) (pe_ix ix_list (pv 0) pe_int (fun _ _ => rfl)) (pe_lst pa_nil) (nomark _)) (pss_cons (ps_set (i := 2) sc_draw.nd rfl (by first | exact .inl rfl | exact .inr rfl) (pe_bm PySem.F.plainAttrs_list PySem.F.slot_list_pop PySem.F.type_list_pop mt_popAt (pe_ix ix_list (pv 0) pe_int (fun _ _ => rfl)) (pa_cons pe_int pa_nil))) (pss_one (ps_if (pt_cmpR op_ge (pv 2) (pe_op op_pow pe_int pe_int) (nomark _)) (pss_cons (ps_expr (pe_bm PySem.F.plainAttrs_list PySem.F.slot_list_insert PySem.F.type_list_insert mt_insert (pe_ix ix_list (pv 0) pe_int (fun _ _ => rfl)) (pa_cons pe_int (pa_cons (pe_op op_fdiv (pv 2) (pv 1)) pa_nil)))) (pss_one (ps_ret (pe_op op_mod (pv 2) (pv 1))))) pss_nil))) pss_nil) (pss_cons (ps_set (i := 3) sc_draw.nd rfl (by first | exact .inl rfl | exact .inr rfl) (pe_op op_mod (pe_op op_mul (pe_op op_add (pe_op op_add (pe_op op_mod (pv 2) pe_int) (pe_op op_mul (pe_op op_mul pe_int (pe_ix ix_list (pv 0) pe_int (fun _ _ => rfl))) (pe_ix ix_list (pv 0) pe_int (fun _ _ => rfl)))) pe_int) pe_int) pe_int)) (pss_cons (ps_set (i := 3) sc_draw.nd rfl (by first | exact .inl rfl | exact .inr rfl) (pe_op op_mod (pe_op op_add (pe_op op_add (pe_op op_mul (pv 3) (pv 3)) (pe_op op_mul pe_int (pv 3))) (pe_ix ix_list (pv 0) pe_int (fun _ _ => rfl))) pe_int)) (pss_one (ps_ret (pe_op op_mod (pe_op op_fdiv (pv 3) pe_int) (pv 1))))))))), ?_⟩
    -- deck[1] = deck[1] + 1
    refine ⟨.ref d, rfl, d, _, 1, .int z, rfl, rfl, SqL.of hd, rfl, z, 1, rfl, rfl, .ref d, rfl, d, _, 1, 1, rfl, rfl, hd, rfl, ?_⟩
    have hd1 : (upd H d (.lst [.ref l, .int (z + 1), .int y])) d = some (.lst [.ref l, .int (z + 1), .int y]) := upd_same
    have hl1 : (upd H d (.lst [.ref l, .int (z + 1), .int y])) l = some (.lst (cs.map V.int)) := by rw [upd_ne ne.symm]; exact hl
    have fr1 : Fr d l H (upd H d (.lst [.ref l, .int (z + 1), .int y])) := Fr.d
    have hz2 : 0 ≤ z + 1 := by omega
    have hz3 : z + 1 ≤ n + 1 := by omega
    have hz4 : z + 1 < 2000000000 := by omega
    show tSeq _ _ _ _ (upd H d (.lst [.ref l, .int (z + 1), .int y]))
    revert hd1 hl1 fr1 hz2 hz3 hz4
    generalize upd H d (.lst [.ref l, .int (z + 1), .int y]) = H1
    generalize z + 1 = z'
    intro hd1 hl1 fr1 hz2 hz3 hz4
    -- cell = deck[2] + 104729 * deck[1]
    refine ⟨.ref d, rfl, d, _, 2, .int y, rfl, rfl, SqL.of hd1, rfl, .ref d, rfl, d, _, 1, .int z', rfl, rfl, SqL.of hd1, rfl, 104729, z', rfl, rfl, .inl ⟨by decide, by decide⟩, _, _, rfl, rfl, ?_⟩
    -- if deck[0] != []
    refine ⟨.ref d, rfl, d, _, 0, .ref l, rfl, rfl, SqL.of hd1, rfl, Nat.zero_le _, fun p np => ?_⟩
    have fr2 : Fr d l H (upd H1 p (.lst [])) := fr1.trans (Fr.new np)
    have hd2 : (upd H1 p (.lst [])) d = some (.lst [.ref l, .int z', .int y]) := same_upd np _ _ hd1
    have hl2 : (upd H1 p (.lst [])) l = some (.lst (cs.map V.int)) := same_upd np _ _ hl1
    refine ⟨.list (cs.map .int), .list [], .lst (SqL.of hl2) (dpInts cs), .lst (SqL.of upd_same) .nil, shInts cs, rfl, _, rfl, ?_⟩
    revert fr2 hd2 hl2
    generalize upd H1 p (.lst []) = H2
    intro fr2 hd2 hl2
    cases cs with
    | nil =>
      refine iteF ?_
      refine ⟨.int (y + 104729 * z'), rfl, _, _, rfl, rfl, p29, .ref d, rfl, d, _, 1, .int z', rfl, rfl, SqL.of hd2, rfl, 7919, z', rfl, rfl, .inl ⟨by decide, by decide⟩, .ref d, rfl, d, _, 1, .int z', rfl, rfl, SqL.of hd2, rfl, 7919 * z', z', rfl, rfl, .inr ⟨by omega, by omega⟩, _, _, rfl, rfl, _, _, rfl, rfl, _, 48271, rfl, rfl, .inr ⟨by decide, by decide⟩, _, _, rfl, rfl, p47, ?_⟩
      dsimp only
      have v0 := Int.emod_nonneg (((y + 104729 * z') % 2147483629 + 7919 * z' * z' + 31) * 48271) (show (2147483647 : Int) ≠ 0 by decide)
      have v1 := Int.emod_lt_of_pos (((y + 104729 * z') % 2147483629 + 7919 * z' * z' + 31) * 48271) (show (0 : Int) < 2147483647 by decide)
      revert v0 v1
      generalize (((y + 104729 * z') % 2147483629 + 7919 * z' * z' + 31) * 48271) % 2147483647 = v
      intro v0 v1
      refine ⟨.int v, rfl, .int v, rfl, v, v, rfl, rfl, .inl ⟨by omega, by omega⟩, .int v, rfl, 69621, v, rfl, rfl, .inl ⟨by decide, by decide⟩, _, _, rfl, rfl, .ref d, rfl, d, _, 1, .int z', rfl, rfl, SqL.of hd2, rfl, _, _, rfl, rfl, _, _, rfl, rfl, p87, ?_⟩
      refine ⟨.int ((v * v + 69621 * v + z') % 2147483587), rfl, _, _, rfl, rfl, ⟨by decide, by decide⟩, .int m, rfl, _, _, rfl, rfl, hm0, ?_⟩
      exact q _ _ ⟨ne, [], z', y, hd2, hl2, hcs, hz2, hz3⟩ fr2 (Int.emod_nonneg _ (by omega)) (Int.emod_lt_of_pos _ hm0)
    | cons c r =>
      refine iteT ?_
      -- cell = deck[0].pop(0)
      refine ⟨.ref d, rfl, d, _, 0, .ref l, rfl, rfl, SqL.of hd2, rfl, .inl ⟨rfl, _, SqL.of hl2⟩, l, _, 0, 0, .int c, rfl, rfl, hl2, by decide, by decide, seqIx0 _ _, rfl, ?_⟩
      have hd3 : (upd H2 l (.lst (r.map V.int))) d = some (.lst [.ref l, .int z', .int y]) := by rw [upd_ne ne]; exact hd2
      have hl3 : (upd H2 l (.lst (r.map V.int))) l = some (.lst (r.map V.int)) := upd_same
      have fr3 : Fr d l H (upd H2 l (.lst (r.map V.int))) := fr2.trans Fr.l
      have hr63 : r.length + 1 ≤ 63 := hcs
      -- if cell >= 10 ** 18
      refine ⟨.int c, rfl, _, _, rfl, rfl, ⟨by decide, by decide, by decide⟩, _, _, rfl, rfl, _, rfl, ite2 (fun _ => ?_) (fun _ => ?_)⟩
      · refine ⟨.ref d, rfl, d, _, 0, .ref l, rfl, rfl, SqL.of hd3, rfl, .inl ⟨rfl, _, SqL.of hl3⟩, .int c, rfl, .int m, rfl, _, _, rfl, rfl, ⟨hm0, hm1⟩, l, _, 0, _, rfl, rfl, hl3, ?_, by decide, by decide, ?_⟩
        · rw [List.length_map]
          exact Nat.lt_of_lt_of_le (show r.length < 64 by omega) (by decide)
        · refine ⟨.int c, rfl, .int m, rfl, _, _, rfl, rfl, hm0, ?_⟩
          refine q _ _ ⟨ne, c / m :: r, z', y, (by rw [upd_ne ne]; exact hd3), ?_, hr63, hz2, hz3⟩ (fr3.trans Fr.l) (Int.emod_nonneg _ (by omega)) (Int.emod_lt_of_pos _ hm0)
          rw [upd_same]
          simp
      · refine ⟨.int c, rfl, _, _, rfl, rfl, p29, .ref d, rfl, d, _, 1, .int z', rfl, rfl, SqL.of hd3, rfl, 7919, z', rfl, rfl, .inl ⟨by decide, by decide⟩, .ref d, rfl, d, _, 1, .int z', rfl, rfl, SqL.of hd3, rfl, 7919 * z', z', rfl, rfl, .inr ⟨by omega, by omega⟩, _, _, rfl, rfl, _, _, rfl, rfl, _, 48271, rfl, rfl, .inr ⟨by decide, by decide⟩, _, _, rfl, rfl, p47, ?_⟩
        dsimp only
        have v0 := Int.emod_nonneg ((c % 2147483629 + 7919 * z' * z' + 31) * 48271) (show (2147483647 : Int) ≠ 0 by decide)
        have v1 := Int.emod_lt_of_pos ((c % 2147483629 + 7919 * z' * z' + 31) * 48271) (show (0 : Int) < 2147483647 by decide)
        revert v0 v1
        generalize ((c % 2147483629 + 7919 * z' * z' + 31) * 48271) % 2147483647 = v
        intro v0 v1
        refine ⟨.int v, rfl, .int v, rfl, v, v, rfl, rfl, .inl ⟨by omega, by omega⟩, .int v, rfl, 69621, v, rfl, rfl, .inl ⟨by decide, by decide⟩, _, _, rfl, rfl, .ref d, rfl, d, _, 1, .int z', rfl, rfl, SqL.of hd3, rfl, _, _, rfl, rfl, _, _, rfl, rfl, p87, ?_⟩
        refine ⟨.int ((v * v + 69621 * v + z') % 2147483587), rfl, _, _, rfl, rfl, ⟨by decide, by decide⟩, .int m, rfl, _, _, rfl, rfl, hm0, ?_⟩
        exact q _ _ ⟨ne, r, z', y, hd3, hl3, by omega, hz2, hz3⟩ fr3 (Int.emod_nonneg _ (by omega)) (Int.emod_lt_of_pos _ hm0)

/-! ### drawn tables, nets, changes -/
def TabsIn (k : Nat) (bss : List (List Bool)) : Prop := bss ≠ [] ∧ bss.length ≤ 8 ∧ ∀ bs ∈ bss, bs.length = 2 ^ k
def vT (bs : List Bool) : V := .str (tabOf bs)
theorem tab_pick {k : Nat} {bss : List (List Bool)} (h : TabsIn k bss) {v : Int} (v0 : 0 ≤ v) (v1 : v < bss.length) : ∃ bs, atI (bss.map vT) v = some (vT bs) ∧ bs.length = 2 ^ k := by
  obtain ⟨j, rfl⟩ := Int.eq_ofNat_of_zero_le v0
  have hj : j < bss.length := by omega
  refine ⟨bss[j], atI_nat ?_, h.2.2 _ (List.getElem_mem hj)⟩
  rw [List.getElem?_map, List.getElem?_eq_getElem hj]
  rfl
def tabs1 : List (List Bool) := [[true, false], [false, true], [true, false]]
def tabs2 : List (List Bool) := [[false, false, false, true], [false, true, true, true], [false, true, true, false], [true, true, true, false], [true, false, false, false], [true, false, false, true], [false, false, true, false], [true, true, false, true]]
def tabs3 : List (List Bool) := [[false, false, false, false, false, false, false, true], [false, true, true, true, true, true, true, true], [false, true, true, false, true, false, false, true], [false, false, false, true, false, true, true, true],
  [false, false, true, true, false, true, false, true], [true, true, true, false, true, false, false, false], [true, false, false, false, false, false, false, false], [false, true, false, false, false, false, true, false]]
theorem tabsIn1 : TabsIn 1 tabs1 := ⟨by decide, by decide, by decide⟩
theorem tabsIn2 : TabsIn 2 tabs2 := ⟨by decide, by decide, by decide⟩
theorem tabsIn3 : TabsIn 3 tabs3 := ⟨by decide, by decide, by decide⟩
def sg (b : Bool) : Str := SX.S [if b = true then 49 else 48]
theorem sg0 : Str.ofString (toString (0 : Int)) = sg false := by decide +kernel
theorem sg1 : Str.ofString (toString (1 : Int)) = sg true := by decide +kernel
theorem joinL_nil : ∀ l : List (List Nat), TL.joinL [] l = l.flatten
  | [] => rfl
  | [p] => by simp [TL.joinL]
  | p :: q :: r => by
    show p ++ ([] ++ TL.joinL [] (q :: r)) = _
    rw [joinL_nil (q :: r)]
    rfl
theorem join_sg (bs : List Bool) : Txt.join (Str.ofString "") (bs.map sg) = tabOf bs := by
  have e : bs.map sg = (bs.map fun b => [if b = true then 49 else 48]).map SX.S := by rw [List.map_map]; rfl
  have z : Str.ofString "" = SX.S [] := by decide +kernel
  rw [e, z, SX.join_S, joinL_nil]
  have : (bs.map fun b => [if b = true then 49 else 48]).flatten = bs.map fun b => if b = true then 49 else 48 := by
    clear e z
    induction bs with
    | nil => rfl
    | cons b r ih => rw [List.map_cons, List.flatten_cons, ih]; rfl
  rw [this]
  rfl
theorem Fr.inv {d l : Addr} {H H' : Hp} (f : Fr d l H H') {b : Addr} {o : HO} (h1 : b ≠ d) (h2 : b ≠ l) (e : H b = some o) : H' b = some o := f b o h1 h2 e
def sp_table (K : PySem.W.Frag) : Sp := fun vs H Q _ => ∃ (d l : Addr) (n : Int) (k : Nat), vs = [.ref d, .int k] ∧ DeckB H d l n ∧ n < 1000000 ∧ 1 ≤ k ∧ k ≤ 3 ∧ ∀ H' bs, DeckB H' d l (n + 10) → Fr d l H H' → bs.length = 2 ^ k → Q (.str (tabOf bs)) H'
theorem ok_table (T : Tx K mg) : FnOk P w K mg base CX0 2 T.f_table T.fd_table ["_law_deck_here", "_law_ins"] (sp_table K) := by
  refine T.F_table.ok sc_table (fun vs H Q E h => ?_) (fun cdv A outer s H vs Q E hr h => ?_)
  · obtain ⟨d, l, n, k, rfl, _⟩ := h
    rfl
  · obtain ⟨d, l, n, k, rfl, D, hn, k1, k3, q⟩ := h
    refine ⟨_, (pss_cons (ps_set (i := 2) sc_table.nd rfl (by first | exact .inl rfl | exact .inr rfl) (pe_call (ok_draw T) (hr.mono (by decide)) (by rfl) T.g_draw T.F_draw.kp T.b_draw .nil pass0 (pa_cons (pv 0) (pa_cons pe_int pa_nil)))) (pss_cons (ps_set (i := 3) sc_table.nd rfl (by first | exact .inl rfl | exact .inr rfl) (pe_lst (pa_cons (pe_lst (pa_cons pe_str (pa_cons pe_str (pa_cons pe_str pa_nil)))) (pa_cons (pe_lst (pa_cons pe_str (pa_cons pe_str (pa_cons pe_str (pa_cons pe_str (pa_cons pe_str (pa_cons pe_str (pa_cons pe_str (pa_cons pe_str pa_nil))))))))) pa_nil)))) (pss_cons (ps_expr (pe_bm PySem.F.plainAttrs_list PySem.F.slot_list_append PySem.F.type_list_append mt_append (pv 3) (pa_cons (pe_lst (pa_cons pe_str (pa_cons pe_str (pa_cons pe_str (pa_cons pe_str (pa_cons pe_str (pa_cons pe_str (pa_cons pe_str (pa_cons pe_str pa_nil))))))))) pa_nil))) (pss_cons (ps_if (pt_cmpR op_lt (pv 2) pe_int (nomark _)) (pss_one (ps_ret (pe_ix ix_list (pe_ix ix_list (pv 3) (pe_op op_sub (pv 1) pe_int) (fun _ _ => rfl)) (pe_call (ok_draw T) (hr.mono (by decide)) (by rfl) T.g_draw T.F_draw.kp T.b_draw .nil pass0 (pa_cons (pv 0) (pa_cons (pe_callB call_len_seq (by rfl) T.m_len PySem.boot_len (pa_cons (pe_ix ix_list (pv 3) (pe_op op_sub (pv 1) pe_int) (fun _ _ => rfl)) pa_nil)) pa_nil))) (fun _ _ => rfl)))) pss_nil) (pss_one (ps_ret (pe_join pe_str (pe_lc (own := [("_law_k", 4)]) (by rfl) sc_table.nd (pi_range1 (by rfl) T.m_range (pa_cons (pe_ix ix_list (pe_lst (pa_cons pe_int (pa_cons pe_int (pa_cons pe_int pa_nil)))) (pe_op op_sub (pv 1) pe_int) (fun _ _ => rfl)) pa_nil)) (blkOk_by (own := [("_law_k", 4)]) (N := ["_law_deck_here", "_law_ins", "_law_way", "_law_some", "_law_k"]) (sc := defScope s_table) (by decide +kernel)) (fun _ _ _ _ _ => (pg_name (i := 4) sc_table.nd rfl (by first | exact .inl rfl | exact .inr rfl))) (fun _ _ _ _ _ => pts_nil) (fun _ _ _ _ _ => (pe_callTy call_str_int (by rfl) T.m_str (by decide +kernel) (pa_cons (pe_call (ok_draw T) (hr.mono (by decide)) (by rfl) T.g_draw T.F_draw.kp T.b_draw .nil pass0 (pa_cons (pv 0) (pa_cons pe_int pa_nil))) pa_nil))))))))))), ?_⟩
    refine ⟨.ref d, rfl, d, l, 3, n, rfl, D, by omega, by decide, by decide, fun H1 way D1 fr1 w0 w1 => ?_⟩
    refine ⟨by decide, fun p1 n1 => ⟨by decide, fun p2 n2 => ⟨sl2, fun p3 n3 => ?_⟩⟩⟩
    have hA1 : ([V.str (Str.ofString "10"), V.str (Str.ofString "01"), V.str (Str.ofString "10")] : List V) = tabs1.map vT := by decide +kernel
    have hA2 : ([V.str (Str.ofString "0001"), V.str (Str.ofString "0111"), V.str (Str.ofString "0110"), V.str (Str.ofString "1110"), V.str (Str.ofString "1000"), V.str (Str.ofString "1001"), V.str (Str.ofString "0010"), V.str (Str.ofString "1101")] : List V) = tabs2.map vT := by decide +kernel
    have hA3 : ([V.str (Str.ofString "00000001"), V.str (Str.ofString "01111111"), V.str (Str.ofString "01101001"), V.str (Str.ofString "00010111"), V.str (Str.ofString "00110101"), V.str (Str.ofString "11101000"), V.str (Str.ofString "10000000"), V.str (Str.ofString "01000010")] : List V) = tabs3.map vT := by decide +kernel
    rw [hA1] at n2 n3
    rw [hA2] at n3
    rw [hA1, hA2]
    refine ⟨.ref p3, rfl, .inl ⟨rfl, _, SqL.of upd_same⟩, by decide, fun p4 n4 => ?_⟩
    rw [hA3]
    have e1 : (upd (upd (upd H1 p1 (.lst (tabs1.map vT))) p2 (.lst (tabs2.map vT))) p3 (.lst [.ref p1, .ref p2])) p3 = some (.lst [.ref p1, .ref p2]) := upd_same
    have sA : Same H1 (upd (upd (upd H1 p1 (.lst (tabs1.map vT))) p2 (.lst (tabs2.map vT))) p3 (.lst [.ref p1, .ref p2])) := ((same_upd n1).trans (same_upd n2)).trans (same_upd n3)
    have e2 : (upd (upd (upd H1 p1 (.lst (tabs1.map vT))) p2 (.lst (tabs2.map vT))) p3 (.lst [.ref p1, .ref p2])) p1 = some (.lst (tabs1.map vT)) := same_upd n3 _ _ (same_upd n2 _ _ upd_same)
    have e3 : (upd (upd (upd H1 p1 (.lst (tabs1.map vT))) p2 (.lst (tabs2.map vT))) p3 (.lst [.ref p1, .ref p2])) p2 = some (.lst (tabs2.map vT)) := same_upd n3 _ _ upd_same
    have n12 : p3 ≠ p1 ∧ p3 ≠ p2 := ⟨fun z => (by rw [z, upd_ne (fun y => by rw [← y, upd_same] at n2; cases n2), upd_same] at n3; cases n3), fun z => (by rw [z, upd_same] at n3; cases n3)⟩
    revert n4 e1 sA e2 e3
    generalize upd (upd (upd H1 p1 (.lst (tabs1.map vT))) p2 (.lst (tabs2.map vT))) p3 (.lst [.ref p1, .ref p2]) = H2
    intro n4 e1 sA e2 e3
    have f1 := same_upd (o := HO.lst (tabs3.map vT)) n4 _ _ e1
    have f2 := same_upd (o := HO.lst (tabs3.map vT)) n4 _ _ e2
    have f3 := same_upd (o := HO.lst (tabs3.map vT)) n4 _ _ e3
    have f4 : (upd H2 p4 (HO.lst (tabs3.map vT))) p4 = some (.lst (tabs3.map vT)) := upd_same
    have sB : Same H1 (upd H2 p4 (HO.lst (tabs3.map vT))) := sA.trans (same_upd n4)
    have n34 : p3 ≠ p4 := ne_of_none e1 n4
    refine ⟨p3, _, _, rfl, rfl, f1, (show 2 < sizeLine by decide), ?_⟩
    have g1 : (upd (upd H2 p4 (HO.lst (tabs3.map vT))) p3 (.lst ([.ref p1, .ref p2] ++ [.ref p4]))) p3 = some (.lst [.ref p1, .ref p2, .ref p4]) := upd_same
    have g2 : (upd (upd H2 p4 (HO.lst (tabs3.map vT))) p3 (.lst ([.ref p1, .ref p2] ++ [.ref p4]))) p1 = some (.lst (tabs1.map vT)) := by rw [upd_ne n12.1.symm]; exact f2
    have g3 : (upd (upd H2 p4 (HO.lst (tabs3.map vT))) p3 (.lst ([.ref p1, .ref p2] ++ [.ref p4]))) p2 = some (.lst (tabs2.map vT)) := by rw [upd_ne n12.2.symm]; exact f3
    have g4 : (upd (upd H2 p4 (HO.lst (tabs3.map vT))) p3 (.lst ([.ref p1, .ref p2] ++ [.ref p4]))) p4 = some (.lst (tabs3.map vT)) := by rw [upd_ne n34.symm]; exact f4
    have n3' : H1 p3 = none := by
      cases z : H1 p3 with
      | none => rfl
      | some o => rw [same_upd n2 _ _ (same_upd n1 _ _ z)] at n3; cases n3
    have sC : Same H1 (upd (upd H2 p4 (HO.lst (tabs3.map vT))) p3 (.lst ([.ref p1, .ref p2] ++ [.ref p4]))) := fun b o e => by
      rw [upd_ne (ne_of_none e n3')]
      exact sB _ _ e
    show tSeq _ _ _ _ (upd (upd H2 p4 (HO.lst (tabs3.map vT))) p3 (.lst ([.ref p1, .ref p2] ++ [.ref p4])))
    revert g1 g2 g3 g4 sC
    generalize upd (upd H2 p4 (HO.lst (tabs3.map vT))) p3 (.lst ([.ref p1, .ref p2] ++ [.ref p4])) = H3
    intro g1 g2 g3 g4 sC
    have D3 := D1.same sC
    have fr3 : Fr d l H H3 := fr1.trans (Fr.of sC)
    have sel : ∃ (pk : Addr) (bss : List (List Bool)), atI [V.ref p1, V.ref p2, V.ref p4] ((k : Int) - 1) = some (.ref pk) ∧ H3 pk = some (.lst (bss.map vT)) ∧ TabsIn k bss := by
      have : k = 1 ∨ k = 2 ∨ k = 3 := by omega
      rcases this with rfl | rfl | rfl
      · exact ⟨p1, tabs1, rfl, g2, tabsIn1⟩
      · exact ⟨p2, tabs2, rfl, g3, tabsIn2⟩
      · exact ⟨p4, tabs3, rfl, g4, tabsIn3⟩
    obtain ⟨pk, bss, a1, hk, tin⟩ := sel
    have bpos : 0 < bss.length := List.length_pos_iff.mpr tin.1
    have b8 := tin.2.1
    refine ⟨.int way, rfl, _, _, rfl, rfl, _, rfl, ite2 (fun _ => ?_) (fun _ => ?_)⟩
    · refine ⟨.ref p3, rfl, .int k, rfl, _, _, rfl, rfl, p3, _, (k : Int) - 1, .ref pk, rfl, rfl, SqL.of g1, a1, .ref d, rfl, .ref p3, rfl, .int k, rfl, _, _, rfl, rfl, p3, _, (k : Int) - 1, .ref pk, rfl, rfl, SqL.of g1, a1, pk, _, rfl, .inl (SqL.of hk), ?_⟩
      rw [List.length_map]
      refine ⟨d, l, _, n + 1, rfl, D3, by omega, by omega, by omega, fun H4 v D4 fr4 v0 v1 => ?_⟩
      obtain ⟨bs, hbs, lbs⟩ := tab_pick tin v0 v1
      obtain ⟨ne, cs, z, y, hd, hl, r⟩ := D3
      have hk4 : H4 pk = some (.lst (bss.map vT)) := fr4 _ _ (fun z => ?_) (fun z => ?_) hk
      · exact ⟨pk, _, v, _, rfl, rfl, SqL.of hk4, hbs, q H4 bs (D4.mono (by omega)) (fr3.trans fr4) lbs⟩
      · rw [z, hd] at hk
        cases bss with
        | nil => exact tin.1 rfl
        | cons b r => cases hk
      · rw [z, hl] at hk
        cases bss with
        | nil => exact tin.1 rfl
        | cons b r =>
          cases cs with
          | nil => cases hk
          | cons c r => cases hk
    · refine ⟨⟨_, rfl⟩, sl3, fun p5 n5 => ?_⟩
      obtain ⟨N, hN, a2, k8⟩ : ∃ N : Nat, 2 ^ k = N ∧ atI [V.int 2, V.int 4, V.int 8] ((k : Int) - 1) = some (.int (N : Int)) ∧ N ≤ 8 := by
        have : k = 1 ∨ k = 2 ∨ k = 3 := by omega
        rcases this with rfl | rfl | rfl
        · exact ⟨2, rfl, rfl, by decide⟩
        · exact ⟨4, rfl, rfl, by decide⟩
        · exact ⟨8, rfl, rfl, by decide⟩
      refine ⟨.int k, rfl, _, _, rfl, rfl, p5, _, (k : Int) - 1, _, rfl, rfl, SqL.of upd_same, a2, _, rfl, by omega, by omega, fun D nD => ?_⟩
      have D5 := D3.same (same_upd (o := HO.lst [V.int 2, V.int 4, V.int 8]) n5)
      have fr5 : Fr d l H (upd H3 p5 (.lst [.int 2, .int 4, .int 8])) := fr3.trans (Fr.new n5)
      revert nD D5 fr5
      generalize upd H3 p5 (.lst [.int 2, .int 4, .int 8]) = H5
      intro nD D5 fr5
      have nDd : D ≠ d ∧ D ≠ l := by
        obtain ⟨ne, cs, z, y, hd, hl, r⟩ := D5
        exact ⟨(ne_of_none hd nD).symm, (ne_of_none hl nD).symm⟩
      refine lc_range (lo := 0) (n := ((N : Nat) : Int).toNat) (fun i H' => DeckB H' d l (n + 1 + i) ∧ Fr d l H H' ∧ ∃ bs : List Bool, bs.length = i ∧ H' D = some (.lst (bs.map fun b => V.str (sg b)))) ⟨(D5.same (same_upd nD)).mono (by omega), fr5.trans (Fr.new nD), [], rfl, upd_same⟩ ?_ ?_
      · rintro i H' hi ⟨Di, fri, bs, lbs, hD⟩
        have hi' : i < N := by simpa using hi
        refine ⟨rfl, .ref d, rfl, d, l, 2, _, rfl, Di, by omega, by decide, by decide, fun H6 v D6 fr6 v0 v1 => ?_⟩
        have hD6 := fr6 _ _ nDd.1 nDd.2 hD
        refine ⟨v, rfl, ?_, _, hD6, ?_, ?_, ?_, bs ++ [decide (v = 1)], by rw [List.length_append, lbs]; rfl, ?_⟩
        · have : v = 0 ∨ v = 1 := by omega
          rcases this with rfl | rfl <;> decide
        · rw [List.length_map, lbs]
          exact Nat.lt_of_lt_of_le (show i < 64 by omega) (by decide)
        · obtain ⟨ne, cs, z, y, hd, hl, r⟩ := D6
          refine ⟨ne, cs, z, y, by rw [upd_ne nDd.1.symm]; exact hd, by rw [upd_ne nDd.2.symm]; exact hl, r.1, r.2.1, ?_⟩
          have := r.2.2
          push_cast
          omega
        · intro b o h1 h2 e
          have hb : b ≠ D := ne_of_none (fr5.inv h1 h2 e) nD
          rw [upd_ne hb]
          exact fr6 _ _ h1 h2 (fri _ _ h1 h2 e)
        · rw [upd_same, List.map_append]
          have : v = 0 ∨ v = 1 := by omega
          rcases this with rfl | rfl
          · rw [sg0]; rfl
          · rw [sg1]; rfl
      · rintro H' ⟨Di, fri, bs, lbs, hD⟩
        have lb : bs.length = 2 ^ k := by rw [lbs, hN]; simp
        refine ⟨Str.ofString "", D, bs.map sg, rfl, rfl, .inl (SqL.of (by rw [hD, List.map_map]; rfl)), ?_, ?_⟩
        · rw [List.map_map, List.length_map]
          have : (bs.map ((fun x => x.length) ∘ sg)).sum = bs.length := by
            clear hD lbs lb
            induction bs with
            | nil => rfl
            | cons b r ih =>
              rw [List.map_cons, List.sum_cons, ih, List.length_cons]
              cases b <;> (show 1 + _ = _; omega)
          rw [this]
          show bs.length + bs.length * 0 ≤ _
          omega
        · rw [join_sg]
          exact q H' bs (Di.mono (by
            have : (((N : Nat) : Int).toNat : Int) ≤ 8 := by omega
            omega)) fri lb
theorem Ts.fr {H H' : Hp} {d l : Addr} {n : Int} (D : DeckB H d l n) (f : Fr d l H H') : Ts H H' := fun b xs e => by
  obtain ⟨ne, cs, z, y, hd, hl, r⟩ := D
  exact f b _ (ne_of e hd (by intro z; cases z)) (ne_of e hl (by intro z; cases z)) e
theorem DeckB.upd {H : Hp} {d l p : Addr} {n : Int} {o : HO} (D : DeckB H d l n) (h1 : p ≠ d) (h2 : p ≠ l) : DeckB (upd H p o) d l n := by
  obtain ⟨ne, cs, z, y, hd, hl, r⟩ := D
  exact ⟨ne, cs, z, y, by rw [upd_ne h1.symm]; exact hd, by rw [upd_ne h2.symm]; exact hl, r⟩
theorem DeckB.off {H : Hp} {d l p : Addr} {n : Int} (D : DeckB H d l n) (h : H p = none) : p ≠ d ∧ p ≠ l := by
  obtain ⟨ne, cs, z, y, hd, hl, r⟩ := D
  exact ⟨(ne_of_none hd h).symm, (ne_of_none hl h).symm⟩
theorem Fr.upd {d l p : Addr} {H H' : Hp} {o : HO} (f : Fr d l H H') (h : H p = none) : Fr d l H (upd H' p o) := fun b u h1 h2 e => by
  rw [upd_ne (ne_of_none e h)]
  exact f b u h1 h2 e
theorem NetOk.snoc {n : Nat} {gs : List Gt} {g : Gt} (h : NetOk n gs) (hg : GtOk (n + gs.length) g) : NetOk n (gs ++ [g]) := fun k g' e => by
  by_cases hk : k < gs.length
  · rw [List.getElem?_append_left hk] at e
    exact h k g' e
  · rw [List.getElem?_append_right (by omega)] at e
    cases hz : k - gs.length with
    | zero =>
      rw [hz] at e
      cases Option.some.inj e
      rw [show k = gs.length by omega]
      exact hg
    | succ j => rw [hz] at e; cases e


end
end Gk

set_option Elab.async false
set_option linter.all false
set_option maxRecDepth 100000
set_option maxHeartbeats 1000000
namespace Gk
open PySem PySem.Spec PyProof.Rows L2
section
variable {P : Program} {w : World} {K : PySem.W.Frag} {mg : Str → Option Value} {base : Heap}
theorem pick6 {v : Int} (v0 : 0 ≤ v) (v1 : v < 6) {a b c d e f : Nat} (ha : 1 ≤ a ∧ a ≤ 3) (hb : 1 ≤ b ∧ b ≤ 3) (hc : 1 ≤ c ∧ c ≤ 3) (hd : 1 ≤ d ∧ d ≤ 3) (he : 1 ≤ e ∧ e ≤ 3) (hf : 1 ≤ f ∧ f ≤ 3) :
    ∃ n : Nat, atI [V.int (a : Nat), V.int (b : Nat), V.int (c : Nat), V.int (d : Nat), V.int (e : Nat), V.int (f : Nat)] v = some (.int (n : Int)) ∧ 1 ≤ n ∧ n ≤ 3 := by
  have : v = 0 ∨ v = 1 ∨ v = 2 ∨ v = 3 ∨ v = 4 ∨ v = 5 := by omega
  rcases this with rfl | rfl | rfl | rfl | rfl | rfl
  · exact ⟨a, rfl, ha⟩
  · exact ⟨b, rfl, hb⟩
  · exact ⟨c, rfl, hc⟩
  · exact ⟨d, rfl, hd⟩
  · exact ⟨e, rfl, he⟩
  · exact ⟨f, rfl, hf⟩
def nV (ws : List Nat) : List V := (ws.map Int.ofNat).map V.int
theorem nV_len (ws : List Nat) : (nV ws).length = ws.length := by unfold nV; rw [List.length_map, List.length_map]
theorem nV_get {ws : List Nat} {j k : Nat} (h : ws[j]? = some k) : (nV ws)[j]? = some (.int (Int.ofNat k)) := by
  unfold nV
  rw [List.getElem?_map, List.getElem?_map, h]
  rfl
theorem nV_app (a b : List Nat) : nV (a ++ b) = nV a ++ nV b := by unfold nV; rw [List.map_append, List.map_append]
theorem nV_erase : ∀ (ws : List Nat) (t : Nat), (nV ws).eraseIdx t = nV (ws.eraseIdx t)
  | [], _ => rfl
  | _ :: _, 0 => rfl
  | w :: r, t + 1 => by
    show V.int (Int.ofNat w) :: (nV r).eraseIdx t = V.int (Int.ofNat w) :: nV (r.eraseIdx t)
    rw [nV_erase r t]
/-- a new gate behind the others -/
theorem gate_new {H : Hp} {bs : List Bool} {ws : List Nat} {ti tt : Addr} (nti : H ti = none) (ntt : (upd H ti (.tup (nV ws))) tt = none) : Tk (upd (upd H ti (.tup (nV ws))) tt (.tup [.str (tabOf bs), .ref ti])) (.ref tt) (gD (bs, ws)) :=
  .tup upd_same (.cons (.str _) (.cons (.tup (same_upd ntt _ _ upd_same) (TkAll.ints _)) .nil))
theorem none_of_fr {d l p : Addr} {H H' : Hp} {n : Int} (f : Fr d l H H') (D : DeckB H' d l n) (h : H' p = none) : H p = none := by
  have o := D.off h
  cases z : H p with
  | none => rfl
  | some x => rw [f _ _ o.1 o.2 z] at h; cases h
def sp_form (K : PySem.W.Frag) : Sp := fun vs H Q _ => ∃ (d l : Addr) (n : Int) (many count : Nat), vs = [.ref d, .int many, .int count] ∧ DeckB H d l n ∧ n < 100000 ∧ 1 ≤ many ∧ many ≤ 6 ∧ count ≤ 40 ∧
  ∀ r H' gs, DeckB H' d l (n + 20 * count) → Fr d l H H' → Tk H' (.ref r) (netD many gs) → gs.length = count → NetOk many gs → formB many gs = true → Q (.ref r) H'
/-- what has been read by gates, what is free yet -/
structure FOk (m : Nat) (gs : List Gt) (ws fr : List Nat) : Prop where
  h : (high m (flatG gs ++ ws)).Nodup
  f : fr.Nodup
  n : ∀ x ∈ fr, m ≤ x ∧ x ∉ flatG gs ++ ws
theorem FOk.nil {m : Nat} : FOk m [] [] [] := ⟨List.nodup_nil, List.nodup_nil, fun x h => by cases h⟩
theorem FOk.inp {m : Nat} {gs : List Gt} {ws fr : List Nat} {x : Nat} (k : FOk m gs ws fr) (h : x < m) : FOk m gs (ws ++ [x]) fr := by
  refine ⟨?_, k.f, fun y hy => ⟨(k.n y hy).1, fun z => ?_⟩⟩
  · rw [← List.append_assoc, high_app]
    have : high m [x] = [] := by unfold high; rw [List.filter_cons, if_neg (fun z => by have := of_decide_eq_true z; omega)]; rfl
    rw [this, List.append_nil]
    exact k.h
  · rw [← List.append_assoc] at z
    rcases List.mem_append.mp z with z | z
    · exact (k.n y hy).2 z
    · have := (k.n y hy).1
      rw [List.mem_singleton.mp z] at this
      omega
theorem not_erase : ∀ {l : List Nat} {t : Nat} (h : t < l.length), l.Nodup → l[t] ∉ l.eraseIdx t
  | [], _, h, _ => by cases h
  | x :: r, 0, _, nd => (List.nodup_cons.mp nd).1
  | x :: r, t + 1, h, nd => by
    obtain ⟨n1, n2⟩ := List.nodup_cons.mp nd
    have h' : t < r.length := by simpa using h
    show r[t] ∉ x :: r.eraseIdx t
    intro z
    rcases List.mem_cons.mp z with z | z
    · exact n1 (z ▸ List.getElem_mem h')
    · exact not_erase h' n2 z
theorem FOk.pop {m : Nat} {gs : List Gt} {ws fr : List Nat} {t : Nat} (k : FOk m gs ws fr) (h : t < fr.length) : FOk m gs (ws ++ [fr[t]]) (fr.eraseIdx t) := by
  have kn := k.n fr[t] (List.getElem_mem h)
  refine ⟨?_, k.f.sublist (List.eraseIdx_sublist ..), fun y hy => ⟨(k.n y (List.mem_of_mem_eraseIdx hy)).1, fun z => ?_⟩⟩
  · rw [← List.append_assoc, high_app]
    have : high m [fr[t]] = [fr[t]] := by unfold high; rw [List.filter_cons, if_pos (decide_eq_true kn.1)]; rfl
    rw [this, List.nodup_append]
    refine ⟨k.h, List.nodup_cons.mpr ⟨by simp, List.nodup_nil⟩, fun a ha b hb e => ?_⟩
    rw [List.mem_singleton.mp hb] at e
    subst e
    exact kn.2 (List.mem_filter.mp ha).1
  · rw [← List.append_assoc] at z
    rcases List.mem_append.mp z with z | z
    · exact (k.n y (List.mem_of_mem_eraseIdx hy)).2 z
    · rw [List.mem_singleton.mp z] at hy
      exact not_erase h k.f hy
theorem flatG_snoc (gs : List Gt) (g : Gt) : flatG (gs ++ [g]) = flatG gs ++ g.2 := by
  unfold flatG
  rw [List.flatMap_append]
  simp
theorem flat_lt {m : Nat} {gs : List Gt} (ok : NetOk m gs) : ∀ x ∈ flatG gs, x < m + gs.length := fun x hx => by
  obtain ⟨g, hg, h⟩ := List.mem_flatMap.mp hx
  obtain ⟨k, hk⟩ := List.getElem?_of_mem hg
  have := (ok k g hk).2.2.2 x h
  have := (List.getElem?_eq_some_iff.mp hk).1
  omega
theorem FOk.gate {m i : Nat} {gs : List Gt} {ws fr : List Nat} (k : FOk m gs ws fr) (bs : List Bool) (ok : NetOk m gs) (lg : gs.length = i) (hw : ∀ w ∈ ws, w < m + i) (hf : ∀ x ∈ fr, x < m + i) : FOk m (gs ++ [(bs, ws)]) [] (fr ++ [m + i]) := by
  have e : flatG (gs ++ [(bs, ws)]) ++ [] = flatG gs ++ ws := by rw [List.append_nil, flatG_snoc]
  refine ⟨by rw [e]; exact k.h, ?_, fun x hx => ?_⟩
  · rw [List.nodup_append]
    refine ⟨k.f, List.nodup_cons.mpr ⟨by simp, List.nodup_nil⟩, fun a ha b hb z => ?_⟩
    rw [List.mem_singleton.mp hb] at z
    have := hf a ha
    omega
  · rw [e]
    rcases List.mem_append.mp hx with z | z
    · exact k.n x z
    · rw [List.mem_singleton.mp z]
      refine ⟨by omega, fun q => ?_⟩
      rcases List.mem_append.mp q with q | q
      · have := flat_lt ok _ q
        omega
      · have := hw _ q
        omega
theorem FOk.form {m : Nat} {gs : List Gt} {fr : List Nat} (k : FOk m gs [] fr) : formB m gs = true := by
  have h := k.h
  rw [List.append_nil] at h
  exact decide_eq_true h
def COk (m i : Nat) (gs : List Gt) : Prop := (high m (flatG gs)).Nodup ∧ ∀ x ∈ high m (flatG gs), x + 1 < m + i
theorem COk.nil {m : Nat} : COk m 0 [] := ⟨List.nodup_nil, fun x h => by cases h⟩
theorem high_set {m y : Nat} (hy : m ≤ y) : ∀ {ws : List Nat} {t : Nat}, t < ws.length → (∀ w ∈ ws, w < m) → high m (ws.set t y) = [y]
  | [], _, h, _ => by cases h
  | x :: r, 0, _, k => by
    show high m (y :: r) = [y]
    have e : high m r = [] := List.filter_eq_nil_iff.mpr fun w hw z => by
      have := k w (List.mem_cons_of_mem _ hw)
      have := of_decide_eq_true z
      omega
    unfold high at e ⊢
    rw [List.filter_cons, if_pos (decide_eq_true hy), e]
  | x :: r, t + 1, h, k => by
    show high m (x :: r.set t y) = [y]
    have e := high_set hy (ws := r) (t := t) (by simpa using h) fun w hw => k w (List.mem_cons_of_mem _ hw)
    unfold high at e ⊢
    rw [List.filter_cons, if_neg (fun z => by have := of_decide_eq_true z; have := k x List.mem_cons_self; omega), e]
theorem COk.gate {m i : Nat} {gs : List Gt} {ws : List Nat} (k : COk m i gs) (bs : List Bool) (h : high m ws = [] ∨ high m ws = [m + i - 1] ∧ 0 < i) : COk m (i + 1) (gs ++ [(bs, ws)]) := by
  unfold COk
  rw [flatG_snoc, high_app]
  show (high m (flatG gs) ++ high m ws).Nodup ∧ ∀ x ∈ high m (flatG gs) ++ high m ws, x + 1 < m + (i + 1)
  rcases h with h | ⟨h, ip⟩
  · rw [h, List.append_nil]
    exact ⟨k.1, fun x hx => by have := k.2 x hx; omega⟩
  · rw [h]
    refine ⟨?_, fun x hx => ?_⟩
    · rw [List.nodup_append]
      refine ⟨k.1, List.nodup_cons.mpr ⟨by simp, List.nodup_nil⟩, fun a ha b hb e => ?_⟩
      rw [List.mem_singleton.mp hb] at e
      have := k.2 a ha
      omega
    · rcases List.mem_append.mp hx with z | z
      · have := k.2 x z
        omega
      · rw [List.mem_singleton.mp z]
        omega
theorem COk.form {m i : Nat} {gs : List Gt} (k : COk m i gs) : formB m gs = true := decide_eq_true k.1
theorem ok_formula (T : Tx K mg) : FnOk P w K mg base CX0 3 T.f_formula T.fd_formula ["_law_deck_here", "_law_many", "_law_count"] (sp_form K) := by
  refine T.F_formula.ok sc_formula (fun vs H Q E h => ?_) (fun cdv A outer s H vs Q E hr h => ?_)
  · obtain ⟨d, l, n, many, count, rfl, _⟩ := h
    rfl
  · obtain ⟨d, l, n, many, count, rfl, D, hn, m1, m6, c40, q⟩ := h
    refine ⟨_, (pss_cons (ps_set (i := 3) sc_formula.nd rfl (by first | exact .inl rfl | exact .inr rfl) (pe_lst pa_nil)) (pss_cons (ps_set (i := 4) sc_formula.nd rfl (by first | exact .inl rfl | exact .inr rfl) (pe_lst pa_nil)) (pss_cons (ps_for PassesOwn.never rfl (pi_range1 (by rfl) T.m_range (pa_cons (pv 2) pa_nil)) (pg_name (i := 5) sc_formula.nd rfl (by first | exact .inl rfl | exact .inr rfl)) (pss_cons (ps_set (i := 6) sc_formula.nd rfl (by first | exact .inl rfl | exact .inr rfl) (pe_lst pa_nil)) (pss_cons (ps_for PassesOwn.never rfl (pi_range1 (by rfl) T.m_range (pa_cons (pe_ix ix_list (pe_lst (pa_cons pe_int (pa_cons pe_int (pa_cons pe_int (pa_cons pe_int (pa_cons pe_int (pa_cons pe_int pa_nil))))))) (pe_call (ok_draw T) (hr.mono (by decide)) (by rfl) T.g_draw T.F_draw.kp T.b_draw .nil pass0 (pa_cons (pv 0) (pa_cons pe_int pa_nil))) (fun _ _ => rfl)) pa_nil)) (pg_name (i := 7) sc_formula.nd rfl (by first | exact .inl rfl | exact .inr rfl)) (pss_cons (ps_set (i := 8) sc_formula.nd rfl (by first | exact .inl rfl | exact .inr rfl) (pe_call (ok_draw T) (hr.mono (by decide)) (by rfl) T.g_draw T.F_draw.kp T.b_draw .nil pass0 (pa_cons (pv 0) (pa_cons pe_int pa_nil)))) (pss_one (ps_if (pt_cut (pw_and (pt_cmpR op_gt (pv 8) pe_int (nomark _)) (pw_and1 (pt_cmpR (op_neD hr.units) (pv 4) (pe_lst pa_nil) (nomark _)))).pt) (pss_one (ps_expr (pe_bm PySem.F.plainAttrs_list PySem.F.slot_list_append PySem.F.type_list_append mt_append (pv 6) (pa_cons (pe_bm PySem.F.plainAttrs_list PySem.F.slot_list_pop PySem.F.type_list_pop mt_popAt (pv 4) (pa_cons (pe_call (ok_draw T) (hr.mono (by decide)) (by rfl) T.g_draw T.F_draw.kp T.b_draw .nil pass0 (pa_cons (pv 0) (pa_cons (pe_callB call_len_seq (by rfl) T.m_len PySem.boot_len (pa_cons (pv 4) pa_nil)) pa_nil))) pa_nil)) pa_nil)))) (pss_one (ps_expr (pe_bm PySem.F.plainAttrs_list PySem.F.slot_list_append PySem.F.type_list_append mt_append (pv 6) (pa_cons (pe_call (ok_draw T) (hr.mono (by decide)) (by rfl) T.g_draw T.F_draw.kp T.b_draw .nil pass0 (pa_cons (pv 0) (pa_cons (pv 1) pa_nil))) pa_nil)))))))) (pss_cons (ps_expr (pe_bm PySem.F.plainAttrs_list PySem.F.slot_list_append PySem.F.type_list_append mt_append (pv 3) (pa_cons (pe_tup (pa_cons (pe_call (ok_table T) (hr.mono (by decide)) (by rfl) T.g_table T.F_table.kp T.b_table .nil pass0 (pa_cons (pv 0) (pa_cons (pe_callB call_len_seq (by rfl) T.m_len PySem.boot_len (pa_cons (pv 6) pa_nil)) pa_nil))) (pa_cons (pe_callTy call_tuple_of (by rfl) T.m_tuple (by decide +kernel) (pa_cons (pv 6) pa_nil)) pa_nil))) pa_nil))) (pss_one (ps_expr (pe_bm PySem.F.plainAttrs_list PySem.F.slot_list_append PySem.F.type_list_append mt_append (pv 4) (pa_cons (pe_op op_add (pv 1) (pv 5)) pa_nil)))))))) (pss_one (ps_ret (pe_tup (pa_cons (pv 1) (pa_cons (pe_callTy call_tuple_of (by rfl) T.m_tuple (by decide +kernel) (pa_cons (pv 3) pa_nil)) pa_nil)))))))), ?_⟩
    have hcc : (((count : Int).toNat : Nat) : Int) = count := by simp
    refine ⟨Nat.zero_le _, fun G nG => ?_⟩
    have oG := D.off nG
    refine ⟨Nat.zero_le _, fun F nF => ?_⟩
    have DF := D.same (same_upd (o := HO.lst []) nG)
    have oF := DF.off nF
    have nF0 : H F = none := none_of_fr (Fr.new nG) DF nF
    have nGF : G ≠ F := fun z => by rw [← z, upd_same] at nF; cases nF
    refine ⟨.int count, rfl, count, rfl, by omega, by omega, ?_⟩
    refine for_range (lo := 0) (n := (count : Int).toNat) (fun i σ H' => ∃ y5 y6 y7 y8, σ = [some (.ref d), some (.int many), some (.int count), some (.ref G), some (.ref F), y5, y6, y7, y8] ∧ DeckB H' d l (n + 20 * i) ∧ Fr d l H H' ∧ ∃ gs, (∃ acc, H' G = some (.lst acc) ∧ TkAll H' acc (gs.map gD) ∧ gs.length = i ∧ NetOk many gs) ∧ ∃ fr : List Nat, H' F = some (.lst (nV fr)) ∧ fr.length ≤ i ∧ (∀ x ∈ fr, x < many + i) ∧ FOk many gs [] fr)
      ⟨_, _, _, _, rfl, (DF.same (same_upd nF)).mono (by omega), (Fr.new nG).trans (Fr.new nF), [], ⟨[], same_upd nF _ _ upd_same, .nil, rfl, fun k g e => by simp at e⟩, [], upd_same, Nat.zero_le _, (fun x hx => by cases hx), FOk.nil⟩ ?_ ?_
    · rintro i σ H1 hi ⟨y5, y6, y7, y8, rfl, D1, fr1, gs, ⟨acc, hG, tg, lg, ok⟩, fr, hF, lf, okf, fok⟩
      have hi' : i < count := by simpa using hi
      refine ⟨Nat.zero_le _, fun I nI => ?_⟩
      have oI := D1.off nI
      have nI0 : H I = none := none_of_fr fr1 D1 nI
      have nGI : G ≠ I := ne_of_none hG nI
      have nFI : F ≠ I := ne_of_none hF nI
      have sI := same_upd (o := HO.lst []) nI
      have D2 := D1.same sI
      have hG2 := sI _ _ hG
      have hF2 := sI _ _ hF
      have tg2 := tg.ts (Ts.same sI) (noL_gates gs)
      have fr2 : Fr d l H (upd H1 I (.lst [])) := fr1.trans (Fr.of sI)
      have hI2 : (upd H1 I (.lst [])) I = some (.lst []) := upd_same
      show tSeq _ _ _ _ (upd H1 I (.lst []))
      revert D2 hG2 hF2 tg2 fr2 hI2
      generalize upd H1 I (.lst []) = H2
      intro D2 hG2 hF2 tg2 fr2 hI2
      refine ⟨by decide, fun p6 n6 => ?_⟩
      have o6 := D2.off n6
      have s26 := same_upd (o := HO.lst [V.int 2, V.int 2, V.int 1, V.int 3, V.int 2, V.int 3]) n6
      have D2' := D2.same s26
      refine ⟨.ref d, rfl, d, l, 6, _, rfl, D2', by omega, by decide, by decide, fun H3 v D3 fr3 v0 v1 => ?_⟩
      have h63 := fr3 _ _ o6.1 o6.2 upd_same
      have hG3 := fr3 _ _ oG.1 oG.2 (s26 _ _ hG2)
      have hF3 := fr3 _ _ oF.1 oF.2 (s26 _ _ hF2)
      have hI3 := fr3 _ _ oI.1 oI.2 (s26 _ _ hI2)
      have tg3 := tg2.ts ((Ts.same s26).trans (Ts.fr D2' fr3)) (noL_gates gs)
      have frA : Fr d l H H3 := (fr2.trans (Fr.of s26)).trans fr3
      obtain ⟨c, hc, c1, c3⟩ := pick6 (a := 2) (b := 2) (c := 1) (d := 3) (e := 2) (f := 3) v0 v1 (by omega) (by omega) (by omega) (by omega) (by omega) (by omega)
      refine ⟨p6, _, v, _, rfl, rfl, SqL.of h63, hc, c, rfl, by omega, by omega, ?_⟩
      have hc2 : (((c : Int).toNat : Nat) : Int) = c := by simp
      refine for_range (lo := 0) (n := (c : Int).toNat) (fun j σ H' => ∃ y7 y8, σ = [some (.ref d), some (.int many), some (.int count), some (.ref G), some (.ref F), some (.int (0 + (i : Int))), some (.ref I), y7, y8] ∧ DeckB H' d l (n + 20 * i + 1 + 3 * j) ∧ Fr d l H H' ∧ H' G = some (.lst acc) ∧ TkAll H' acc (gs.map gD) ∧ ∃ ws : List Nat, (∃ fr : List Nat, H' F = some (.lst (nV fr)) ∧ fr.length ≤ i ∧ (∀ x ∈ fr, x < many + i) ∧ FOk many gs ws fr) ∧ H' I = some (.lst (nV ws)) ∧ ws.length = j ∧ ∀ w ∈ ws, w < many + i)
        ⟨_, _, rfl, D3.mono (by omega), frA, hG3, tg3, [], ⟨fr, hF3, lf, okf, fok⟩, hI3, rfl, fun w hw => by cases hw⟩ ?_ ?_
      · rintro j σ H4 hj ⟨y7, y8, rfl, D4, fr4, hG4, tg4, ws, ⟨f4, hF4, lf4, okf4, fok4⟩, hI4, lw, okw⟩
        have hj' : j < c := by simpa using hj
        refine ⟨.ref d, rfl, d, l, 3, _, rfl, D4, by omega, by decide, by decide, fun H5 way D5 fr5 w0 w1 => ?_⟩
        have hI5 := fr5 _ _ oI.1 oI.2 hI4
        have hF5 := fr5 _ _ oF.1 oF.2 hF4
        have hG5 := fr5 _ _ oG.1 oG.2 hG4
        have tg5 := tg4.ts (Ts.fr D4 fr5) (noL_gates gs)
        have frB := fr4.trans fr5
        -- the test
        refine ⟨fun b H' => Same H5 H' ∧ (b = true → f4 ≠ []), ?_, ?_⟩
        · refine ⟨.int way, rfl, _, _, rfl, rfl, _, rfl, ite2 (fun _ => ?_) (fun _ => ⟨Same.refl _, fun z => by cases z⟩)⟩
          refine ⟨.ref F, rfl, Nat.zero_le _, fun p np => ?_⟩
          have sp := same_upd (o := HO.lst []) np
          refine ⟨.list ((f4.map Int.ofNat).map .int), .list [], .lst (SqL.of (sp _ _ hF5)) (dpInts _), .lst (SqL.of upd_same) .nil, shInts _, rfl, _, rfl, sp, fun z e => ?_⟩
          rw [e] at z
          cases z
        · rintro b H6 ⟨s56, hb⟩
          have D6 := D5.same s56
          have hI6 := s56 _ _ hI5
          have hF6 := s56 _ _ hF5
          have hG6 := s56 _ _ hG5
          have tg6 := tg5.ts (Ts.same s56) (noL_gates gs)
          have frC := frB.trans (Fr.of s56)
          -- an in more
          have fin : ∀ {H' : Hp} {x : Nat}, DeckB H' d l (n + 20 * i + 1 + 3 * j + 2) → Fr d l H H' → H' G = some (.lst acc) → TkAll H' acc (gs.map gD) → (∃ fr : List Nat, H' F = some (.lst (nV fr)) ∧ fr.length ≤ i ∧ (∀ x ∈ fr, x < many + i) ∧ FOk many gs (ws ++ [x]) fr) → H' I = some (.lst (nV ws)) → x < many + i →
              (nV ws).length < sizeLine ∧ DeckB (upd H' I (.lst (nV ws ++ [.int (Int.ofNat x)]))) d l (n + 20 * i + 1 + 3 * ((j + 1 : Nat) : Int)) ∧ Fr d l H (upd H' I (.lst (nV ws ++ [.int (Int.ofNat x)]))) ∧ (upd H' I (.lst (nV ws ++ [.int (Int.ofNat x)]))) G = some (.lst acc) ∧ TkAll (upd H' I (.lst (nV ws ++ [.int (Int.ofNat x)]))) acc (gs.map gD) ∧
              ∃ ws' : List Nat, (∃ fr : List Nat, (upd H' I (.lst (nV ws ++ [.int (Int.ofNat x)]))) F = some (.lst (nV fr)) ∧ fr.length ≤ i ∧ (∀ x ∈ fr, x < many + i) ∧ FOk many gs ws' fr) ∧ (upd H' I (.lst (nV ws ++ [.int (Int.ofNat x)]))) I = some (.lst (nV ws')) ∧ ws'.length = j + 1 ∧ ∀ w ∈ ws', w < many + i := by
            intro H' x D' fr' hG' tg' hF' hI' hx
            obtain ⟨f', hF', lf', okf', fok'⟩ := hF'
            refine ⟨?_, (D'.upd oI.1 oI.2).mono (by push_cast; omega), Fr.upd fr' nI0, by rw [upd_ne nGI]; exact hG', tg'.ts (Ts.set hI') (noL_gates gs), ws ++ [x], ⟨f', by rw [upd_ne nFI]; exact hF', lf', okf', fok'⟩, ?_, by rw [List.length_append, lw]; rfl, fun w hw => ?_⟩
            · rw [nV_len, lw]
              exact Nat.lt_of_lt_of_le (show j < 64 by omega) (by decide)
            · rw [upd_same, nV_app]
              rfl
            · rcases List.mem_append.mp hw with z | z
              · exact okw w z
              · rw [List.mem_singleton.mp z]; exact hx
          cases b with
          | true =>
            have fne := hb rfl
            have fpos : 0 < f4.length := List.length_pos_iff.mpr fne
            refine ⟨.ref I, rfl, .inl ⟨rfl, _, SqL.of hI6⟩, .ref F, rfl, .inl ⟨rfl, _, SqL.of hF6⟩, .ref d, rfl, .ref F, rfl, F, _, rfl, .inl (SqL.of hF6), ?_⟩
            rw [nV_len]
            refine ⟨d, l, _, _, rfl, D6, by omega, by omega, by omega, fun H7 at_ D7 fr7 a0 a1 => ?_⟩
            obtain ⟨t, rfl⟩ := Int.eq_ofNat_of_zero_le a0
            have ht : t < f4.length := by omega
            have hF7 := fr7 _ _ oF.1 oF.2 hF6
            have hI7 := fr7 _ _ oI.1 oI.2 hI6
            have hG7 := fr7 _ _ oG.1 oG.2 hG6
            have tg7 := tg6.ts (Ts.fr D6 fr7) (noL_gates gs)
            refine ⟨F, _, (t : Int), t, .int (Int.ofNat f4[t]), rfl, rfl, hF7, by omega, by omega, ?_, nV_get (List.getElem?_eq_getElem ht), ?_⟩
            · rw [nV_len]
              rw [seqIndex_of (by omega) (by omega), Int.toNat_natCast]
            have hI8 : (upd H7 F (.lst ((nV f4).eraseIdx t))) I = some (.lst (nV ws)) := by rw [upd_ne nFI.symm]; exact hI7
            obtain ⟨z1, z2, z3, z4, z5, z6⟩ := fin (H' := upd H7 F (.lst ((nV f4).eraseIdx t))) (x := f4[t]) ((D7.upd oF.1 oF.2).mono (by omega)) (Fr.upd (frC.trans fr7) nF0) (by rw [upd_ne nGF]; exact hG7) (tg7.ts (Ts.set hF7) (noL_gates gs))
              ⟨f4.eraseIdx t, by rw [upd_same, nV_erase], by rw [List.length_eraseIdx]; split <;> omega, fun x hx => okf4 x (List.mem_of_mem_eraseIdx hx), fok4.pop ht⟩ hI8 (okf4 _ (List.getElem_mem ht))
            exact ⟨I, _, _, rfl, rfl, hI8, z1, _, _, rfl, z2, z3, z4, z5, z6⟩
          | false =>
            refine ⟨.ref I, rfl, .inl ⟨rfl, _, SqL.of hI6⟩, .ref d, rfl, .int many, rfl, d, l, _, _, rfl, D6, by omega, by omega, by omega, fun H7 x D7 fr7 a0 a1 => ?_⟩
            obtain ⟨t, rfl⟩ := Int.eq_ofNat_of_zero_le a0
            have hI7 := fr7 _ _ oI.1 oI.2 hI6
            obtain ⟨z1, z2, z3, z4, z5, z6⟩ := fin (H' := H7) (x := t) (D7.mono (by omega)) (frC.trans fr7) (fr7 _ _ oG.1 oG.2 hG6) (tg6.ts (Ts.fr D6 fr7) (noL_gates gs)) ⟨f4, fr7 _ _ oF.1 oF.2 hF6, lf4, okf4, fok4.inp (by omega)⟩ hI7 (by omega)
            exact ⟨I, _, _, rfl, rfl, hI7, z1, _, _, rfl, z2, z3, z4, z5, z6⟩
      · rintro σ H4 ⟨y7, y8, rfl, D4, fr4, hG4, tg4, ws, ⟨f4, hF4, lf4, okf4, fok4⟩, hI4, lw, okw⟩
        have lw' : ws.length = c := by rw [lw]; simp
        refine ⟨.ref G, rfl, .inl ⟨rfl, _, SqL.of hG4⟩, .ref d, rfl, .ref I, rfl, I, _, rfl, .inl (SqL.of hI4), ?_⟩
        rw [nV_len, lw']
        refine ⟨d, l, _, c, rfl, D4, by omega, c1, c3, fun H5 bs D5 fr5 lb => ?_⟩
        have hI5 := fr5 _ _ oI.1 oI.2 hI4
        have hG5 := fr5 _ _ oG.1 oG.2 hG4
        have hF5 := fr5 _ _ oF.1 oF.2 hF4
        have tg5 := tg4.ts (Ts.fr D4 fr5) (noL_gates gs)
        refine ⟨.ref I, rfl, I, _, rfl, .inl ⟨SqL.of hI5, fun ti nti => ⟨sl2, fun tt ntt => ?_⟩⟩⟩
        have s5 := (same_upd (o := HO.tup (nV ws)) nti).trans (same_upd (o := HO.tup [V.str (tabOf bs), .ref ti]) ntt)
        have hG6 := s5 _ _ hG5
        have hF6 := s5 _ _ hF5
        refine ⟨G, _, _, rfl, rfl, hG6, ?_, ?_⟩
        · have := tg5.length
          rw [List.length_map, lg] at this
          exact Nat.lt_of_lt_of_le (show acc.length < 64 by omega) (by decide)
        have D6 := (D5.same s5).upd (o := HO.lst (acc ++ [.ref tt])) oG.1 oG.2
        have frD := Fr.upd (o := HO.lst (acc ++ [.ref tt])) ((fr4.trans fr5).trans (Fr.of s5)) nG
        have tgN : TkAll (upd (upd (upd H5 ti (.tup (nV ws))) tt (.tup [.str (tabOf bs), .ref ti])) G (.lst (acc ++ [.ref tt]))) (acc ++ [.ref tt]) ((gs ++ [(bs, ws)]).map gD) := by
          rw [List.map_append]
          exact (tg5.ts ((Ts.same s5).trans (Ts.set hG6)) (noL_gates gs)).append (.cons ((gate_new nti ntt).ts (Ts.set hG6) (noL_gate _)) .nil)
        have hGN : (upd (upd (upd H5 ti (.tup (nV ws))) tt (.tup [.str (tabOf bs), .ref ti])) G (.lst (acc ++ [.ref tt]))) G = some (.lst (acc ++ [.ref tt])) := upd_same
        have hFN : (upd (upd (upd H5 ti (.tup (nV ws))) tt (.tup [.str (tabOf bs), .ref ti])) G (.lst (acc ++ [.ref tt]))) F = some (.lst (nV f4)) := by rw [upd_ne nGF.symm]; exact hF6
        refine ⟨.ref F, rfl, .inl ⟨rfl, _, SqL.of hFN⟩, .int many, rfl, .int (0 + (i : Int)), rfl, _, _, rfl, rfl, F, _, _, rfl, rfl, hFN, ?_, ?_⟩
        · rw [nV_len]
          exact Nat.lt_of_lt_of_le (show f4.length < 64 by omega) (by decide)
        · refine ⟨_, _, _, _, rfl, (D6.upd oF.1 oF.2).mono (by push_cast; omega), Fr.upd frD nF0, gs ++ [(bs, ws)], ⟨_, by rw [upd_ne nGF]; exact hGN, tgN.ts (Ts.set hFN) (noL_gates _), by rw [List.length_append, lg]; rfl, ok.snoc ⟨?_, ?_, ?_, ?_⟩⟩, f4 ++ [many + i], ?_, by rw [List.length_append]; show f4.length + 1 ≤ i + 1; omega, fun x hx => ?_, fok4.gate bs ok lg okw okf4⟩
          · show bs.length = 2 ^ ws.length
            rw [lb, lw']
          · show 1 ≤ ws.length
            omega
          · show ws.length ≤ 3
            omega
          · rw [lg]
            exact okw
          · rw [upd_same, nV_app]
            have : V.int ((many : Int) + (0 + (i : Int))) = V.int (Int.ofNat (many + i)) := by
              congr 1
              show (many : Int) + (0 + (i : Int)) = ((many + i : Nat) : Int)
              push_cast
              omega
            show some (HO.lst (nV f4 ++ [V.int ((many : Int) + (0 + (i : Int)))])) = _
            rw [this]
            rfl
          · rcases List.mem_append.mp hx with z | z
            · have := okf4 x z
              omega
            · rw [List.mem_singleton.mp z]
              omega
    · rintro σ H1 ⟨y5, y6, y7, y8, rfl, D1, fr1, gs, ⟨acc, hG, tg, lg, ok⟩, fr, _, _, _, fok⟩
      have lg' : gs.length = count := by rw [lg]; simp
      refine ⟨.int many, rfl, .ref G, rfl, G, _, rfl, .inl ⟨SqL.of hG, fun tq ntq => ⟨sl2, fun r nr => ?_⟩⟩⟩
      have s2 := (same_upd (o := HO.tup acc) ntq).trans (same_upd (o := HO.tup [V.int many, .ref tq]) nr)
      refine q r _ gs ((D1.same s2).mono (by omega)) (fr1.trans (Fr.of s2)) ?_ lg' ok fok.form
      exact .tup upd_same (.cons (.int _) (.cons (.tup (same_upd nr _ _ upd_same) (tg.same s2)) .nil))
/-! ### chains -/
theorem nV_set : ∀ (ws : List Nat) (t x : Nat), (nV ws).set t (.int (Int.ofNat x)) = nV (ws.set t x)
  | [], _, _ => rfl
  | _ :: _, 0, _ => rfl
  | w :: r, t + 1, x => by
    show V.int (Int.ofNat w) :: (nV r).set t _ = V.int (Int.ofNat w) :: nV (r.set t x)
    rw [nV_set r t x]
theorem ok_chain (T : Tx K mg) : FnOk P w K mg base CX0 3 T.f_chain T.fd_chain ["_law_deck_here", "_law_many", "_law_count"] (sp_form K) := by
  refine T.F_chain.ok sc_chain (fun vs H Q E h => ?_) (fun cdv A outer s H vs Q E hr h => ?_)
  · obtain ⟨d, l, n, many, count, rfl, _⟩ := h
    rfl
  · obtain ⟨d, l, n, many, count, rfl, D, hn, m1, m6, c40, q⟩ := h
    refine ⟨_, (pss_cons (ps_set (i := 3) sc_chain.nd rfl (by first | exact .inl rfl | exact .inr rfl) (pe_lst pa_nil)) (pss_cons (ps_for PassesOwn.never rfl (pi_range1 (by rfl) T.m_range (pa_cons (pv 2) pa_nil)) (pg_name (i := 4) sc_chain.nd rfl (by first | exact .inl rfl | exact .inr rfl)) (pss_cons (ps_setLc (i := 5) (own := [("_law_place", 6)]) (by rfl) sc_chain.nd rfl rfl (sw_true rfl rfl rfl (by decide +kernel)) (pi_range1 (by rfl) T.m_range (pa_cons (pe_ix ix_list (pe_lst (pa_cons pe_int (pa_cons pe_int (pa_cons pe_int (pa_cons pe_int (pa_cons pe_int (pa_cons pe_int pa_nil))))))) (pe_call (ok_draw T) (hr.mono (by decide)) (by rfl) T.g_draw T.F_draw.kp T.b_draw .nil pass0 (pa_cons (pv 0) (pa_cons pe_int pa_nil))) (fun _ _ => rfl)) pa_nil)) (blkOk_by (own := [("_law_place", 6)]) (N := ["_law_deck_here", "_law_many", "_law_count", "_law_gates", "_law_k", "_law_ins", "_law_place"]) (sc := defScope s_chain) (by decide +kernel)) (fun _ _ _ _ _ => (pg_name (i := 6) sc_chain.nd rfl (by first | exact .inl rfl | exact .inr rfl))) (fun _ _ _ _ _ => pts_nil) (fun _ _ _ _ _ => (pe_call (ok_draw T) (hr.mono (by decide)) (by rfl) T.g_draw T.F_draw.kp T.b_draw .nil pass0 (pa_cons (pv 0) (pa_cons (pv 1) pa_nil))))) (C8.pss_cut (ps_if (pt_cmpR op_gt (pv 4) pe_int (nomark _)) (pss_one (ps_asg (pe_op op_sub (pe_op op_add (pv 1) (pv 4)) pe_int) (pg_sub (pv 5) (pe_call (ok_draw T) (hr.mono (by decide)) (by rfl) T.g_draw T.F_draw.kp T.b_draw .nil pass0 (pa_cons (pv 0) (pa_cons (pe_callB call_len_seq (by rfl) T.m_len PySem.boot_len (pa_cons (pv 5) pa_nil)) pa_nil))) set_list))) pss_nil) (pss_one (ps_expr (pe_bm PySem.F.plainAttrs_list PySem.F.slot_list_append PySem.F.type_list_append mt_append (pv 3) (pa_cons (pe_tup (pa_cons (pe_call (ok_table T) (hr.mono (by decide)) (by rfl) T.g_table T.F_table.kp T.b_table .nil pass0 (pa_cons (pv 0) (pa_cons (pe_callB call_len_seq (by rfl) T.m_len PySem.boot_len (pa_cons (pv 5) pa_nil)) pa_nil))) (pa_cons (pe_callTy call_tuple_of (by rfl) T.m_tuple (by decide +kernel) (pa_cons (pv 5) pa_nil)) pa_nil))) pa_nil))))))) (pss_one (ps_ret (pe_tup (pa_cons (pv 1) (pa_cons (pe_callTy call_tuple_of (by rfl) T.m_tuple (by decide +kernel) (pa_cons (pv 3) pa_nil)) pa_nil))))))), ?_⟩
    have hcc : (((count : Int).toNat : Nat) : Int) = count := by simp
    refine ⟨Nat.zero_le _, fun G nG => ?_⟩
    have oG := D.off nG
    refine ⟨.int count, rfl, count, rfl, by omega, by omega, ?_⟩
    refine for_range (lo := 0) (n := (count : Int).toNat) (fun i σ H' => ∃ y4 y5, σ = [some (.ref d), some (.int many), some (.int count), some (.ref G), y4, y5, none] ∧ DeckB H' d l (n + 20 * i) ∧ Fr d l H H' ∧ (∃ acc gs, H' G = some (.lst acc) ∧ TkAll H' acc (gs.map gD) ∧ gs.length = i ∧ NetOk many gs ∧ COk many i gs))
      ⟨_, _, rfl, (D.same (same_upd nG)).mono (by omega), Fr.new nG, [], [], upd_same, .nil, rfl, (fun k g e => by simp at e), COk.nil⟩ ?_ ?_
    · rintro i σ H1 hi ⟨y4, y5, rfl, D1, fr1, acc, gs, hG, tg, lg, ok, cok⟩
      have hi' : i < count := by simpa using hi
      refine ⟨by decide, fun p6 n6 => ?_⟩
      have o6 := D1.off n6
      have s26 := same_upd (o := HO.lst [V.int 2, V.int 2, V.int 1, V.int 3, V.int 2, V.int 2]) n6
      have D2' := D1.same s26
      refine ⟨.ref d, rfl, d, l, 6, _, rfl, D2', by omega, by decide, by decide, fun H3 v D3 fr3 v0 v1 => ?_⟩
      have h63 := fr3 _ _ o6.1 o6.2 upd_same
      have hG3 := fr3 _ _ oG.1 oG.2 (s26 _ _ hG)
      have tg3 := tg.ts ((Ts.same s26).trans (Ts.fr D2' fr3)) (noL_gates gs)
      have frA : Fr d l H H3 := (fr1.trans (Fr.of s26)).trans fr3
      obtain ⟨c, hc, c1, c3⟩ := pick6 (a := 2) (b := 2) (c := 1) (d := 3) (e := 2) (f := 2) v0 v1 (by omega) (by omega) (by omega) (by omega) (by omega) (by omega)
      have hc2 : (((c : Int).toNat : Nat) : Int) = c := by simp
      refine ⟨p6, _, v, _, rfl, rfl, SqL.of h63, hc, c, rfl, by omega, by omega, fun I nI => ?_⟩
      have oI := D3.off nI
      have nI0 : H I = none := none_of_fr frA D3 nI
      have nGI : G ≠ I := ne_of_none hG3 nI
      refine lc_range (lo := 0) (n := (c : Int).toNat) (fun j H' => DeckB H' d l (n + 20 * i + 1 + j) ∧ Fr d l H H' ∧ H' G = some (.lst acc) ∧ TkAll H' acc (gs.map gD) ∧ ∃ ws : List Nat, H' I = some (.lst (nV ws)) ∧ ws.length = j ∧ ∀ w ∈ ws, w < many)
        ⟨(D3.same (same_upd nI)).mono (by omega), frA.trans (Fr.new nI), same_upd nI _ _ hG3, tg3.ts (Ts.new nI) (noL_gates gs), [], upd_same, rfl, fun w hw => by cases hw⟩ ?_ ?_
      · rintro j H4 hj ⟨D4, fr4, hG4, tg4, ws, hI4, lw, okw⟩
        have hj' : j < c := by simpa using hj
        refine ⟨rfl, .ref d, rfl, .int many, rfl, d, l, _, _, rfl, D4, by omega, by omega, by omega, fun H5 x D5 fr5 x0 x1 => ?_⟩
        obtain ⟨t, rfl⟩ := Int.eq_ofNat_of_zero_le x0
        have hI5 := fr5 _ _ oI.1 oI.2 hI4
        have hG5 := fr5 _ _ oG.1 oG.2 hG4
        refine ⟨_, hI5, ?_, (D5.upd oI.1 oI.2).mono (by push_cast; omega), Fr.upd (fr4.trans fr5) nI0, by rw [upd_ne nGI]; exact hG5, tg4.ts ((Ts.fr D4 fr5).trans (Ts.set hI5)) (noL_gates gs), ws ++ [t], ?_, by rw [List.length_append, lw]; rfl, fun w hw => ?_⟩
        · rw [nV_len, lw]
          exact Nat.lt_of_lt_of_le (show j < 64 by omega) (by decide)
        · rw [upd_same, nV_app]
          rfl
        · rcases List.mem_append.mp hw with z | z
          · exact okw w z
          · rw [List.mem_singleton.mp z]; omega
      · rintro H4 ⟨D4, fr4, hG4, tg4, ws, hI4, lw, okw⟩
        have lw' : ws.length = c := by rw [lw]; simp
        -- if k > 0
        refine ⟨fun σ H' => σ = [some (.ref d), some (.int many), some (.int count), some (.ref G), some (.int (0 + (i : Int))), some (.ref I), none] ∧ DeckB H' d l (n + 20 * i + 6) ∧ Fr d l H H' ∧ H' G = some (.lst acc) ∧ TkAll H' acc (gs.map gD) ∧ ∃ ws : List Nat, H' I = some (.lst (nV ws)) ∧ ws.length = c ∧ (∀ w ∈ ws, w < many + i) ∧ (high many ws = [] ∨ high many ws = [many + i - 1] ∧ 0 < i), ?_, ?_⟩
        · refine ⟨.int (0 + (i : Int)), rfl, _, _, rfl, rfl, _, rfl, ite2 (fun z => ?_) (fun z => ?_)⟩
          · have ip : 0 < i := by
              have : (0 : Int) < 0 + (i : Int) := of_decide_eq_true z
              omega
            refine ⟨.int many, rfl, .int (0 + (i : Int)), rfl, _, _, rfl, rfl, _, _, rfl, rfl, .ref I, rfl, .ref d, rfl, .ref I, rfl, I, _, rfl, .inl (SqL.of hI4), ?_⟩
            rw [nV_len, lw']
            refine ⟨d, l, _, _, rfl, D4, by omega, by omega, by omega, fun H5 x D5 fr5 x0 x1 => ?_⟩
            obtain ⟨t, rfl⟩ := Int.eq_ofNat_of_zero_le x0
            have ht : t < ws.length := by omega
            have hI5 := fr5 _ _ oI.1 oI.2 hI4
            have hG5 := fr5 _ _ oG.1 oG.2 hG4
            refine ⟨I, _, (t : Int), t, rfl, rfl, hI5, ?_, ?_⟩
            · unfold ixN
              rw [if_pos (by omega), nV_len, if_pos (by omega)]
              simp
            · have ev : V.int ((many : Int) + (0 + (i : Int)) - 1) = .int (Int.ofNat (many + i - 1)) := by
                congr 1
                show (many : Int) + (0 + (i : Int)) - 1 = ((many + i - 1 : Nat) : Int)
                omega
              refine ⟨rfl, (D5.upd oI.1 oI.2).mono (by omega), Fr.upd (fr4.trans fr5) nI0, by rw [upd_ne nGI]; exact hG5, tg4.ts ((Ts.fr D4 fr5).trans (Ts.set hI5)) (noL_gates gs), ws.set t (many + i - 1), ?_, by rw [List.length_set]; exact lw', fun w hw => ?_, .inr ⟨high_set (by omega) ht okw, ip⟩⟩
              · rw [upd_same]
                show some (HO.lst ((nV ws).set t (V.int ((many : Int) + (0 + (i : Int)) - 1)))) = _
                rw [ev, nV_set]
              · rcases List.mem_or_eq_of_mem_set hw with z | z
                · have := okw w z
                  omega
                · omega
          · exact ⟨rfl, D4.mono (by omega), fr4, hG4, tg4, ws, hI4, lw', (fun w hw => by have := okw w hw; omega), .inl (List.filter_eq_nil_iff.mpr fun w hw z => by have := okw w hw; have := of_decide_eq_true z; omega)⟩
        rintro σ H5 ⟨rfl, D5, fr5, hG5, tg5, ws2, hI5, lw2, okw2, hgh⟩
        refine ⟨.ref G, rfl, .inl ⟨rfl, _, SqL.of hG5⟩, .ref d, rfl, .ref I, rfl, I, _, rfl, .inl (SqL.of hI5), ?_⟩
        rw [nV_len, lw2]
        refine ⟨d, l, _, c, rfl, D5, by omega, c1, c3, fun H6 bs D6 fr6 lb => ?_⟩
        have hI6 := fr6 _ _ oI.1 oI.2 hI5
        have hG6 := fr6 _ _ oG.1 oG.2 hG5
        have tg6 := tg5.ts (Ts.fr D5 fr6) (noL_gates gs)
        refine ⟨.ref I, rfl, I, _, rfl, .inl ⟨SqL.of hI6, fun ti nti => ⟨sl2, fun tt ntt => ?_⟩⟩⟩
        have s5 := (same_upd (o := HO.tup (nV ws2)) nti).trans (same_upd (o := HO.tup [V.str (tabOf bs), .ref ti]) ntt)
        have hG7 := s5 _ _ hG6
        refine ⟨G, _, _, rfl, rfl, hG7, ?_, ?_⟩
        · have := tg6.length
          rw [List.length_map, lg] at this
          exact Nat.lt_of_lt_of_le (show acc.length < 64 by omega) (by decide)
        · refine ⟨_, _, rfl, ((D6.same s5).upd oG.1 oG.2).mono (by push_cast; omega), Fr.upd ((fr5.trans fr6).trans (Fr.of s5)) nG, _, gs ++ [(bs, ws2)], upd_same, ?_, by rw [List.length_append, lg]; rfl, ok.snoc ⟨?_, ?_, ?_, ?_⟩, cok.gate bs hgh⟩
          · rw [List.map_append]
            exact (tg6.ts ((Ts.same s5).trans (Ts.set hG7)) (noL_gates gs)).append (.cons ((gate_new nti ntt).ts (Ts.set hG7) (noL_gate _)) .nil)
          · show bs.length = 2 ^ ws2.length
            rw [lb, lw2]
          · show 1 ≤ ws2.length
            omega
          · show ws2.length ≤ 3
            omega
          · rw [lg]
            exact okw2
    · rintro σ H1 ⟨y4, y5, rfl, D1, fr1, acc, gs, hG, tg, lg, ok, cok⟩
      have lg' : gs.length = count := by rw [lg]; simp
      refine ⟨.int many, rfl, .ref G, rfl, G, _, rfl, .inl ⟨SqL.of hG, fun tq ntq => ⟨sl2, fun r nr => ?_⟩⟩⟩
      have s2 := (same_upd (o := HO.tup acc) ntq).trans (same_upd (o := HO.tup [V.int many, .ref tq]) nr)
      refine q r _ gs ((D1.same s2).mono (by omega)) (fr1.trans (Fr.of s2)) ?_ lg' ok cok.form
      exact .tup upd_same (.cons (.int _) (.cons (.tup (same_upd nr _ _ upd_same) (tg.same s2)) .nil))

def sp_shared (K : PySem.W.Frag) : Sp := fun vs H Q _ => ∃ (d l : Addr) (n : Int) (many count : Nat), vs = [.ref d, .int many, .int count] ∧ DeckB H d l n ∧ n < 100000 ∧ 1 ≤ many ∧ many ≤ 6 ∧ count ≤ 40 ∧
  ∀ r H' gs, DeckB H' d l (n + 20 * count) → Fr d l H H' → Tk H' (.ref r) (netD many gs) → gs.length = count → NetOk many gs → Q (.ref r) H'
theorem ok_shared (T : Tx K mg) : FnOk P w K mg base CX0 3 T.f_shared T.fd_shared ["_law_deck_here", "_law_many", "_law_count"] (sp_shared K) := by
  refine T.F_shared.ok sc_shared (fun vs H Q E h => ?_) (fun cdv A outer s H vs Q E hr h => ?_)
  · obtain ⟨d, l, n, many, count, rfl, _⟩ := h
    rfl
  · obtain ⟨d, l, n, many, count, rfl, D, hn, m1, m6, c40, q⟩ := h
    refine ⟨_, (pss_cons (ps_set (i := 3) sc_shared.nd rfl (by first | exact .inl rfl | exact .inr rfl) (pe_lst pa_nil)) (pss_cons (ps_for PassesOwn.never rfl (pi_range1 (by rfl) T.m_range (pa_cons (pv 2) pa_nil)) (pg_name (i := 4) sc_shared.nd rfl (by first | exact .inl rfl | exact .inr rfl)) (pss_cons (ps_set (i := 5) sc_shared.nd rfl (by first | exact .inl rfl | exact .inr rfl) (pe_lst pa_nil)) (pss_cons (ps_for PassesOwn.never rfl (pi_range1 (by rfl) T.m_range (pa_cons (pe_ix ix_list (pe_lst (pa_cons pe_int (pa_cons pe_int (pa_cons pe_int (pa_cons pe_int (pa_cons pe_int (pa_cons pe_int pa_nil))))))) (pe_call (ok_draw T) (hr.mono (by decide)) (by rfl) T.g_draw T.F_draw.kp T.b_draw .nil pass0 (pa_cons (pv 0) (pa_cons pe_int pa_nil))) (fun _ _ => rfl)) pa_nil)) (pg_name (i := 6) sc_shared.nd rfl (by first | exact .inl rfl | exact .inr rfl)) (pss_cons (ps_set (i := 7) sc_shared.nd rfl (by first | exact .inl rfl | exact .inr rfl) (pe_call (ok_draw T) (hr.mono (by decide)) (by rfl) T.g_draw T.F_draw.kp T.b_draw .nil pass0 (pa_cons (pv 0) (pa_cons pe_int pa_nil)))) (pss_one (ps_expr (pe_bm PySem.F.plainAttrs_list PySem.F.slot_list_append PySem.F.type_list_append mt_append (pv 5) (pa_cons (pe_ix ix_list (pe_lst (pa_cons (pe_call (ok_draw T) (hr.mono (by decide)) (by rfl) T.g_draw T.F_draw.kp T.b_draw .nil pass0 (pa_cons (pv 0) (pa_cons (pe_op op_add (pv 1) (pv 4)) pa_nil))) (pa_cons (pe_callB (call_max2 rfl) (by rfl) T.m_max (by decide +kernel) (pa_cons pe_int (pa_cons (pe_op op_sub (pe_op op_sub (pe_op op_add (pv 1) (pv 4)) pe_int) (pe_call (ok_draw T) (hr.mono (by decide)) (by rfl) T.g_draw T.F_draw.kp T.b_draw .nil pass0 (pa_cons (pv 0) (pa_cons pe_int pa_nil)))) pa_nil))) pa_nil))) (pe_callTy call_int1 (by rfl) T.m_int (by decide +kernel) (pa_cons (pe_cmpR op_gt (pv 7) pe_int (nomark _)) pa_nil)) (fun _ _ => rfl)) pa_nil)))))) (pss_one (ps_expr (pe_bm PySem.F.plainAttrs_list PySem.F.slot_list_append PySem.F.type_list_append mt_append (pv 3) (pa_cons (pe_tup (pa_cons (pe_call (ok_table T) (hr.mono (by decide)) (by rfl) T.g_table T.F_table.kp T.b_table .nil pass0 (pa_cons (pv 0) (pa_cons (pe_callB call_len_seq (by rfl) T.m_len PySem.boot_len (pa_cons (pv 5) pa_nil)) pa_nil))) (pa_cons (pe_callTy call_tuple_of (by rfl) T.m_tuple (by decide +kernel) (pa_cons (pv 5) pa_nil)) pa_nil))) pa_nil))))))) (pss_one (ps_ret (pe_tup (pa_cons (pv 1) (pa_cons (pe_callTy call_tuple_of (by rfl) T.m_tuple (by decide +kernel) (pa_cons (pv 3) pa_nil)) pa_nil))))))), ?_⟩
    refine ⟨Nat.zero_le _, fun G nG => ?_⟩
    have oG := D.off nG
    refine ⟨.int count, rfl, count, rfl, by omega, by omega, ?_⟩
    refine for_range (lo := 0) (n := (count : Int).toNat) (fun i σ H' => ∃ y4 y5 y6 y7, σ = [some (.ref d), some (.int many), some (.int count), some (.ref G), y4, y5, y6, y7] ∧ DeckB H' d l (n + 20 * i) ∧ Fr d l H H' ∧ ∃ acc gs, H' G = some (.lst acc) ∧ TkAll H' acc (gs.map gD) ∧ gs.length = i ∧ NetOk many gs)
      ⟨_, _, _, _, rfl, (D.same (same_upd nG)).mono (by omega), Fr.new nG, [], [], upd_same, .nil, rfl, fun k g e => by simp at e⟩ ?_ ?_
    · rintro i σ H1 hi ⟨y4, y5, y6, y7, rfl, D1, fr1, acc, gs, hG, tg, lg, ok⟩
      have hi' : i < count := by simpa using hi
      refine ⟨Nat.zero_le _, fun I nI => ?_⟩
      have oI := D1.off nI
      have D2 := D1.same (same_upd (o := HO.lst []) nI)
      have hG2 := same_upd (o := HO.lst []) nI _ _ hG
      have tg2 := tg.ts (Ts.new (o := HO.lst []) nI) (noL_gates gs)
      have fr2 : Fr d l H (upd H1 I (.lst [])) := fr1.trans (Fr.new nI)
      have hI2 : (upd H1 I (.lst [])) I = some (.lst []) := upd_same
      have nGI : G ≠ I := ne_of_none hG nI
      have nI0 : H I = none := by
        cases z : H I with
        | none => rfl
        | some o => rw [fr1 _ _ oI.1 oI.2 z] at nI; cases nI
      show tSeq _ _ _ _ (upd H1 I (.lst []))
      revert D2 hG2 tg2 fr2 hI2
      generalize upd H1 I (.lst []) = H2
      intro D2 hG2 tg2 fr2 hI2
      refine ⟨by decide, fun p6 n6 => ?_⟩
      have o6 := D2.off n6
      have D2' := D2.same (same_upd (o := HO.lst [V.int 2, V.int 2, V.int 1, V.int 3, V.int 2, V.int 3]) n6)
      refine ⟨.ref d, rfl, d, l, 6, _, rfl, D2', by omega, by decide, by decide, fun H3 v D3 fr3 v0 v1 => ?_⟩
      have h63 := fr3 _ _ o6.1 o6.2 upd_same
      have s26 := same_upd (o := HO.lst [V.int 2, V.int 2, V.int 1, V.int 3, V.int 2, V.int 3]) n6
      have hG3 := fr3 _ _ oG.1 oG.2 (s26 _ _ hG2)
      have hI3 := fr3 _ _ oI.1 oI.2 (s26 _ _ hI2)
      have tg3 := tg2.ts ((Ts.same s26).trans (Ts.fr D2' fr3)) (noL_gates gs)
      have frA : Fr d l H H3 := (fr2.trans (Fr.of s26)).trans fr3
      obtain ⟨c, hc, c1, c3⟩ : ∃ c : Nat, atI [V.int 2, V.int 2, V.int 1, V.int 3, V.int 2, V.int 3] v = some (.int (c : Int)) ∧ 1 ≤ c ∧ c ≤ 3 := by
        have : v = 0 ∨ v = 1 ∨ v = 2 ∨ v = 3 ∨ v = 4 ∨ v = 5 := by omega
        rcases this with rfl | rfl | rfl | rfl | rfl | rfl
        · exact ⟨2, rfl, by decide, by decide⟩
        · exact ⟨2, rfl, by decide, by decide⟩
        · exact ⟨1, rfl, by decide, by decide⟩
        · exact ⟨3, rfl, by decide, by decide⟩
        · exact ⟨2, rfl, by decide, by decide⟩
        · exact ⟨3, rfl, by decide, by decide⟩
      refine ⟨p6, _, v, _, rfl, rfl, SqL.of h63, hc, c, rfl, by omega, by omega, ?_⟩
      refine for_range (lo := 0) (n := (c : Int).toNat) (fun j σ H' => ∃ y6 y7, σ = [some (.ref d), some (.int many), some (.int count), some (.ref G), some (.int (0 + (i : Int))), some (.ref I), y6, y7] ∧ DeckB H' d l (n + 20 * i + 1 + 3 * j) ∧ Fr d l H H' ∧ H' G = some (.lst acc) ∧ TkAll H' acc (gs.map gD) ∧
          ∃ ws : List Nat, H' I = some (.lst ((ws.map Int.ofNat).map V.int)) ∧ ws.length = j ∧ ∀ w ∈ ws, w < many + i)
        ⟨_, _, rfl, D3.mono (by omega), frA, hG3, tg3, [], hI3, rfl, fun w hw => by cases hw⟩ ?_ ?_
      · rintro j σ H4 hj ⟨y6, y7, rfl, D4, fr4, hG4, tg4, ws, hI4, lw, okw⟩
        have hj' : j < c := by simpa using hj
        refine ⟨.ref d, rfl, d, l, 4, _, rfl, D4, by omega, by decide, by decide, fun H5 way D5 fr5 w0 w1 => ?_⟩
        have hI5 := fr5 _ _ oI.1 oI.2 hI4
        refine ⟨.ref I, rfl, .inl ⟨rfl, _, SqL.of hI5⟩, .ref d, rfl, .int many, rfl, .int (0 + (i : Int)), rfl, _, _, rfl, rfl, d, l, _, _, rfl, D5, by omega, by omega, by omega, fun H6 a D6 fr6 a0 a1 => ?_⟩
        refine ⟨.int many, rfl, .int (0 + (i : Int)), rfl, _, _, rfl, rfl, _, _, rfl, rfl, .ref d, rfl, d, l, 3, _, rfl, D6, by omega, by decide, by decide, fun H7 b D7 fr7 b0 b1 => ?_⟩
        refine ⟨_, _, rfl, rfl, 0, _, rfl, sl2, fun p7 n7 => ?_⟩
        have sel : ∃ w : Nat, atI [V.int a, V.int (if (many : Int) + (0 + (i : Int)) - 1 - b > 0 then (many : Int) + (0 + (i : Int)) - 1 - b else 0)] (if decide (1 < way) = true then 1 else 0) = some (.int (Int.ofNat w)) ∧ w < many + i := by
          by_cases hw : 1 < way
          · rw [decide_eq_true hw]
            by_cases hm : (many : Int) + (0 + (i : Int)) - 1 - b > 0
            · refine ⟨((many : Int) + (0 + (i : Int)) - 1 - b).toNat, ?_, by omega⟩
              rw [if_pos hm]
              show some (V.int ((many : Int) + (0 + (i : Int)) - 1 - b)) = _
              rw [show Int.ofNat ((many : Int) + (0 + (i : Int)) - 1 - b).toNat = (many : Int) + (0 + (i : Int)) - 1 - b from Int.toNat_of_nonneg (by omega)]
            · refine ⟨0, ?_, by omega⟩
              rw [if_neg hm]
              rfl
          · rw [decide_eq_false hw]
            refine ⟨a.toNat, ?_, by omega⟩
            show some (V.int a) = _
            rw [show Int.ofNat a.toNat = a from Int.toNat_of_nonneg a0]
        obtain ⟨x, hx, x1⟩ := sel
        have o7 := D7.off n7
        have s7 := same_upd (o := HO.lst [V.int a, V.int (if (many : Int) + (0 + (i : Int)) - 1 - b > 0 then (many : Int) + (0 + (i : Int)) - 1 - b else 0)]) n7
        have hI7 := s7 _ _ (fr7 _ _ oI.1 oI.2 (fr6 _ _ oI.1 oI.2 hI5))
        have hG7 := s7 _ _ (fr7 _ _ oG.1 oG.2 (fr6 _ _ oG.1 oG.2 (fr5 _ _ oG.1 oG.2 hG4)))
        refine ⟨.int way, rfl, _, _, rfl, rfl, .inr ⟨_, rfl, p7, _, _, _, rfl, rfl, SqL.of upd_same, hx, ?_⟩⟩
        refine ⟨I, _, _, rfl, rfl, hI7, ?_, ?_⟩
        · rw [List.length_map, List.length_map, lw]
          exact Nat.lt_of_lt_of_le (show j < 64 by omega) (by decide)
        · refine ⟨_, _, rfl, ((D7.same s7).upd oI.1 oI.2).mono (by push_cast; omega), ?_, ?_, ?_, ws ++ [x], ?_, by rw [List.length_append, lw]; rfl, ?_⟩
          · exact Fr.upd ((((fr4.trans fr5).trans fr6).trans fr7).trans (Fr.of s7)) nI0
          · rw [upd_ne nGI]; exact hG7
          · exact tg4.ts ((((Ts.fr D4 fr5).trans (Ts.fr D5 fr6)).trans (Ts.fr D6 fr7)).trans ((Ts.same s7).trans (Ts.set hI7))) (noL_gates gs)
          · rw [upd_same, List.map_append, List.map_append]
            rfl
          · intro w hw
            rcases List.mem_append.mp hw with z | z
            · exact okw w z
            · rw [List.mem_singleton.mp z]
              exact x1
      · rintro σ H4 ⟨y6, y7, rfl, D4, fr4, hG4, tg4, ws, hI4, lw, okw⟩
        have lw' : ws.length = c := by rw [lw]; simp
        refine ⟨.ref G, rfl, .inl ⟨rfl, _, SqL.of hG4⟩, .ref d, rfl, .ref I, rfl, I, _, rfl, .inl (SqL.of hI4), ?_⟩
        rw [List.length_map, List.length_map, lw']
        refine ⟨d, l, _, c, rfl, D4, by have : (((c : Int).toNat : Nat) : Int) = c := by simp
                                        omega, c1, c3, fun H5 bs D5 fr5 lb => ?_⟩
        have hI5 := fr5 _ _ oI.1 oI.2 hI4
        have hG5 := fr5 _ _ oG.1 oG.2 hG4
        have tg5 := tg4.ts (Ts.fr D4 fr5) (noL_gates gs)
        refine ⟨.ref I, rfl, I, _, rfl, .inl ⟨SqL.of hI5, fun ti nti => ⟨sl2, fun tt ntt => ?_⟩⟩⟩
        have s5 := (same_upd (o := HO.tup ((ws.map Int.ofNat).map V.int)) nti).trans (same_upd (o := HO.tup [V.str (tabOf bs), .ref ti]) ntt)
        have hG6 := s5 _ _ hG5
        refine ⟨G, _, _, rfl, rfl, hG6, ?_, ?_⟩
        · have := tg5.length
          rw [List.length_map, lg] at this
          exact Nat.lt_of_lt_of_le (show acc.length < 64 by omega) (by decide)
        · have hcc : (((c : Int).toNat : Nat) : Int) = c := by simp
          refine ⟨_, _, _, _, rfl, ((D5.same s5).upd oG.1 oG.2).mono (by push_cast; omega), Fr.upd ((fr4.trans fr5).trans (Fr.of s5)) nG, _, gs ++ [(bs, ws)], upd_same, ?_, by rw [List.length_append, lg]; rfl, ok.snoc ⟨?_, ?_, ?_, ?_⟩⟩
          · rw [List.map_append]
            have e1 : (upd (upd H5 ti (.tup ((ws.map Int.ofNat).map V.int))) tt (.tup [.str (tabOf bs), .ref ti])) ti = some (.tup ((ws.map Int.ofNat).map V.int)) := same_upd ntt _ _ upd_same
            have tgate : Tk (upd (upd H5 ti (.tup ((ws.map Int.ofNat).map V.int))) tt (.tup [.str (tabOf bs), .ref ti])) (.ref tt) (gD (bs, ws)) := .tup upd_same (.cons (.str _) (.cons (.tup e1 (TkAll.ints _)) .nil))
            refine (tg5.ts ((Ts.same s5).trans (Ts.set hG6)) (noL_gates gs)).append (.cons (tgate.ts (Ts.set hG6) (noL_gate _)) .nil)
          · show bs.length = 2 ^ ws.length
            rw [lb, lw']
          · show 1 ≤ ws.length
            omega
          · show ws.length ≤ 3
            omega
          · rw [lg]
            exact okw
    · rintro σ H1 ⟨y4, y5, y6, y7, rfl, D1, fr1, acc, gs, hG, tg, lg, ok⟩
      have lg' : gs.length = count := by rw [lg]; simp
      refine ⟨.int many, rfl, .ref G, rfl, G, _, rfl, .inl ⟨SqL.of hG, fun tq ntq => ⟨sl2, fun r nr => ?_⟩⟩⟩
      have s2 := (same_upd (o := HO.tup acc) ntq).trans (same_upd (o := HO.tup [V.int many, .ref tq]) nr)
      refine q r _ gs ((D1.same s2).mono (by
        have : (((count : Int).toNat : Nat) : Int) = count := by simp
        omega)) (fr1.trans (Fr.of s2)) ?_ lg' ok
      exact .tup upd_same (.cons (.int _) (.cons (.tup (same_upd nr _ _ upd_same) (tg.same s2)) .nil))

theorem cutV_to {xs : List V} {j : Nat} (h : j ≤ xs.length) : cutV xs none (some (j : Int)) = xs.take j := by
  unfold cutV
  rw [HT.sIx_none, HT.sIx_nat, List.drop_zero, Nat.min_eq_left h]
  rfl
theorem cutV_from {xs : List V} {j : Nat} (h : j ≤ xs.length) : cutV xs (some (j : Int)) none = xs.drop j := by
  unfold cutV
  rw [HT.sIx_none, HT.sIx_nat, Nat.min_eq_left h]
  exact List.take_of_length_le (by rw [List.length_drop]; exact Nat.le_refl _)
def RowL (H : Hp) (p : Addr) (m : Nat) (r : List Int) : Prop := H p = some (.lst (r.map V.int)) ∧ r.length = m ∧ Row01 r
theorem Row01.snoc {r : List Int} {v : Int} (h : Row01 r) (hv : v = 0 ∨ v = 1) : Row01 (r ++ [v]) := fun x hx => by
  rcases List.mem_append.mp hx with z | z
  · exact h x z
  · rw [List.mem_singleton.mp z]; exact hv
def sp_change (K : PySem.W.Frag) : Sp := fun vs H Q _ => ∃ (d l : Addr) (n : Int) (many : Nat), vs = [.ref d, .int many] ∧ DeckB H d l n ∧ n < 100000 ∧ 1 ≤ many ∧ many ≤ 6 ∧
  ∀ r H' a b, DeckB H' d l (n + 20) → Fr d l H H' → Tk H' (.ref r) (chD a b) → a.length = many → b.length = many → Row01 a → Row01 b → Q (.ref r) H'
theorem ok_change (T : Tx K mg) : FnOk P w K mg base CX0 2 T.f_change T.fd_change ["_law_deck_here", "_law_many"] (sp_change K) := by
  refine T.F_change.ok sc_change (fun vs H Q E h => ?_) (fun cdv A outer s H vs Q E hr h => ?_)
  · obtain ⟨d, l, n, many, rfl, _⟩ := h
    rfl
  · obtain ⟨d, l, n, many, rfl, D, hn, m1, m6, q⟩ := h
    refine ⟨_, (pss_cons (ps_set (i := 2) sc_change.nd rfl (by first | exact .inl rfl | exact .inr rfl) (pe_call (ok_draw T) (hr.mono (by decide)) (by rfl) T.g_draw T.F_draw.kp T.b_draw .nil pass0 (pa_cons (pv 0) (pa_cons pe_int pa_nil)))) (pss_cons (ps_setLc (i := 3) (own := [("_law_k", 6)]) (by rfl) sc_change.nd rfl rfl (sw_true rfl rfl rfl (by decide +kernel)) (pi_range1 (by rfl) T.m_range (pa_cons (pv 1) pa_nil)) (blkOk_by (own := [("_law_k", 6)]) (N := ["_law_deck_here", "_law_many", "_law_way", "_law_one", "_law_other", "_law_at", "_law_k", "_law_worth_here"]) (sc := defScope s_change) (by decide +kernel)) (fun _ _ _ _ _ => (pg_name (i := 6) sc_change.nd rfl (by first | exact .inl rfl | exact .inr rfl))) (fun _ _ _ _ _ => pts_nil) (fun _ _ _ _ _ => (pe_call (ok_draw T) (hr.mono (by decide)) (by rfl) T.g_draw T.F_draw.kp T.b_draw .nil pass0 (pa_cons (pv 0) (pa_cons pe_int pa_nil))))) (pss_cons (ps_setLc (i := 4) (own := [("_law_worth_here", 7)]) (by rfl) sc_change.nd rfl rfl (sw_true rfl rfl rfl (by decide +kernel)) (pi_list (pv 3)) (blkOk_by (own := [("_law_worth_here", 7)]) (N := ["_law_deck_here", "_law_many", "_law_way", "_law_one", "_law_other", "_law_at", "_law_k", "_law_worth_here"]) (sc := defScope s_change) (by decide +kernel)) (fun _ _ _ _ _ => (pg_name (i := 7) sc_change.nd rfl (by first | exact .inl rfl | exact .inr rfl))) (fun _ _ _ _ _ => pts_nil) (fun _ _ _ _ _ => (pe_op op_sub pe_int (pv 7)))) (C8.pss_cut (ps_if (pt_cmpR op_eq (pv 2) pe_int (nomark _)) (pss_one (ps_set (i := 4) sc_change.nd rfl (by first | exact .inl rfl | exact .inr rfl) (pe_callTy call_list_of (by rfl) T.m_list (by decide +kernel) (pa_cons (pv 3) pa_nil)))) pss_nil) (C8.pss_cut (ps_if (pt_cut (pw_or (pt_cmpR op_eq (pv 2) pe_int (nomark _)) (pw_or1 (pt_cmpR op_eq (pv 2) pe_int (nomark _)))).pt) (pss_cons (ps_set (i := 5) sc_change.nd rfl (by first | exact .inl rfl | exact .inr rfl) (pe_call (ok_draw T) (hr.mono (by decide)) (by rfl) T.g_draw T.F_draw.kp T.b_draw .nil pass0 (pa_cons (pv 0) (pa_cons (pv 1) pa_nil)))) (pss_one (ps_set (i := 4) sc_change.nd rfl (by first | exact .inl rfl | exact .inr rfl) (pe_op op_cat (pe_op op_cat (pe_slice sl_list (pv 3) po_none (po_some (pv 5))) (pe_lst (pa_cons (pe_op op_sub pe_int (pe_ix ix_list (pv 3) (pv 5) (fun _ _ => rfl))) pa_nil))) (pe_slice sl_list (pv 3) (po_some (pe_op op_add (pv 5) pe_int)) po_none))))) pss_nil) (C8.pss_cut (ps_if (pt_cmpR op_gt (pv 2) pe_int (nomark _)) (pss_one (ps_setLc (i := 4) (own := [("_law_k", 6)]) (by rfl) sc_change.nd rfl rfl (sw_true rfl rfl rfl (by decide +kernel)) (pi_range1 (by rfl) T.m_range (pa_cons (pv 1) pa_nil)) (blkOk_by (own := [("_law_k", 6)]) (N := ["_law_deck_here", "_law_many", "_law_way", "_law_one", "_law_other", "_law_at", "_law_k", "_law_worth_here"]) (sc := defScope s_change) (by decide +kernel)) (fun _ _ _ _ _ => (pg_name (i := 6) sc_change.nd rfl (by first | exact .inl rfl | exact .inr rfl))) (fun _ _ _ _ _ => pts_nil) (fun _ _ _ _ _ => (pe_call (ok_draw T) (hr.mono (by decide)) (by rfl) T.g_draw T.F_draw.kp T.b_draw .nil pass0 (pa_cons (pv 0) (pa_cons pe_int pa_nil)))))) pss_nil) (pss_one (ps_ret (pe_tup (pa_cons (pe_callTy call_tuple_of (by rfl) T.m_tuple (by decide +kernel) (pa_cons (pv 3) pa_nil)) (pa_cons (pe_callTy call_tuple_of (by rfl) T.m_tuple (by decide +kernel) (pa_cons (pv 4) pa_nil)) pa_nil))))))))))), ?_⟩
    have hmm : (((many : Int).toNat : Nat) : Int) = many := by simp
    refine ⟨.ref d, rfl, d, l, 8, n, rfl, D, by omega, by decide, by decide, fun H1 way D1 fr1 w0 w1 => ?_⟩
    refine ⟨.int many, rfl, _, rfl, by omega, by omega, fun D2 n2 => ?_⟩
    have o2 := D1.off n2
    have n20 : H D2 = none := by
      cases z : H D2 with
      | none => rfl
      | some o => rw [fr1 _ _ o2.1 o2.2 z] at n2; cases n2
    refine lc_range (lo := 0) (n := (many : Int).toNat) (fun i H' => DeckB H' d l (n + 1 + i) ∧ Fr d l H H' ∧ ∃ r, RowL H' D2 i r) ⟨(D1.same (same_upd n2)).mono (by omega), fr1.trans (Fr.new n2), [], upd_same, rfl, fun x hx => by cases hx⟩ ?_ ?_
    · rintro i H' hi ⟨Di, fri, r, hD, lr, okr⟩
      refine ⟨rfl, .ref d, rfl, d, l, 2, _, rfl, Di, by omega, by decide, by decide, fun H6 v D6 fr6 v0 v1 => ?_⟩
      have hD6 := fr6 _ _ o2.1 o2.2 hD
      refine ⟨_, hD6, ?_, (D6.upd o2.1 o2.2).mono (by push_cast; omega), Fr.upd (fri.trans fr6) n20, r ++ [v], ?_, by rw [List.length_append, lr]; rfl, okr.snoc (by omega)⟩
      · rw [List.length_map, lr]
        exact Nat.lt_of_lt_of_le (show i < 64 by omega) (by decide)
      · rw [upd_same, List.map_append]
        rfl
    · rintro H2 ⟨D3, fr2, one, h1, l1, ok1⟩
      have l1' : one.length = many := by rw [l1]; simp
      refine ⟨.ref D2, rfl, D2, rfl, ⟨_, SqL.of h1⟩, fun O nO => ?_⟩
      have oO := D3.off nO
      have nO0 : H O = none := by
        cases z : H O with
        | none => rfl
        | some o => rw [fr2 _ _ oO.1 oO.2 z] at nO; cases nO
      have n2O : D2 ≠ O := ne_of_none h1 nO
      refine lc_list (K := K) (a := D2) (xs := one.map V.int) (fun i H' => DeckB H' d l (n + 1 + many) ∧ Fr d l H H' ∧ H' D2 = some (.lst (one.map V.int)) ∧ ∃ r, RowL H' O i r) ⟨(D3.same (same_upd nO)).mono (by omega), fr2.trans (Fr.new nO), same_upd nO _ _ h1, [], upd_same, rfl, fun x hx => by cases hx⟩ (fun i H' _ hP => SqL.of hP.2.2.1) ?_ ?_
      · rintro i x H' hx ⟨Di, fri, h1i, r, hO, lr, okr⟩
        rw [List.getElem?_map] at hx
        cases hj : one[i]? with
        | none => rw [hj] at hx; cases hx
        | some v =>
          rw [hj] at hx
          cases Option.some.inj hx
          have hv := ok1 v (List.mem_of_getElem? hj)
          have hi := (List.getElem?_eq_some_iff.mp hj).1
          refine ⟨rfl, .int v, rfl, _, _, rfl, rfl, _, hO, ?_, Di.upd oO.1 oO.2, Fr.upd fri nO0, by rw [upd_ne n2O]; exact h1i, r ++ [1 - v], ?_, by rw [List.length_append, lr]; rfl, okr.snoc (by omega)⟩
          · rw [List.length_map, lr]
            exact Nat.lt_of_lt_of_le (show i < 64 by omega) (by decide)
          · rw [upd_same, List.map_append]
            rfl
      · rintro H3 ⟨D4, fr3, h1', r, hO⟩
        rw [List.length_map, l1'] at hO
        -- if way == 0
        refine ⟨fun σ H' => ∃ O' r, σ = [some (.ref d), some (.int many), some (.int way), some (.ref D2), some (.ref O'), none, none, none] ∧ DeckB H' d l (n + 1 + many) ∧ Fr d l H H' ∧ H' D2 = some (.lst (one.map V.int)) ∧ RowL H' O' many r, ?_, ?_⟩
        · refine ⟨.int way, rfl, rfl, _, rfl, ite2 (fun _ => ?_) (fun _ => ?_)⟩
          · refine ⟨.ref D2, rfl, D2, _, rfl, .inl (SqL.of h1'), fun p np => ?_⟩
            exact ⟨p, one, rfl, D4.same (same_upd np), fr3.trans (Fr.new np), same_upd np _ _ h1', upd_same, l1', ok1⟩
          · exact ⟨O, r, rfl, D4, fr3, h1', hO⟩
        rintro σ H4 ⟨O', r', rfl, D5, fr4, h14, hO4⟩
        -- if way == 1 or way == 2
        refine ⟨fun σ H' => ∃ O' r y5, σ = [some (.ref d), some (.int many), some (.int way), some (.ref D2), some (.ref O'), y5, none, none] ∧ DeckB H' d l (n + 2 + many) ∧ Fr d l H H' ∧ H' D2 = some (.lst (one.map V.int)) ∧ RowL H' O' many r, ?_, ?_⟩
        · refine ⟨fun _ H' => H' = H4, ?_, ?_⟩
          · refine ⟨.int way, rfl, rfl, _, rfl, ite2 (fun _ => rfl) (fun _ => ⟨.int way, rfl, rfl, _, rfl, rfl⟩)⟩
          · rintro b _ rfl
            cases b with
            | false => exact ⟨O', r', _, rfl, D5.mono (by omega), fr4, h14, hO4⟩
            | true =>
              refine ⟨.ref d, rfl, .int many, rfl, d, l, _, _, rfl, D5, by omega, by omega, by omega, fun H5 at_ D6 fr5 a0 a1 => ?_⟩
              obtain ⟨j, rfl⟩ := Int.eq_ofNat_of_zero_le a0
              have hj : j < one.length := by omega
              have h15 := fr5 _ _ o2.1 o2.2 h14
              refine ⟨.ref D2, rfl, .int (j : Int), rfl, (j : Int), rfl, D2, _, rfl, SqL.of h15, fun p1 n1 => ?_⟩
              rw [cutV_to (by rw [List.length_map]; omega)]
              have s1 := same_upd (o := HO.lst ((one.map V.int).take j)) n1
              have hat : (one.map V.int)[j]? = some (.int one[j]) := by rw [List.getElem?_map, List.getElem?_eq_getElem hj]; rfl
              refine ⟨.ref D2, rfl, .int (j : Int), rfl, D2, _, (j : Int), _, rfl, rfl, SqL.of (s1 _ _ h15), atI_nat hat, _, _, rfl, rfl, sl1, fun p2 n2' => ?_⟩
              have s2 := same_upd (o := HO.lst [V.int (1 - one[j])]) n2'
              have e1 := s2 _ _ (show (upd H5 p1 (.lst ((one.map V.int).take j))) p1 = some (.lst ((one.map V.int).take j)) from upd_same)
              refine ⟨p1, p2, _, _, rfl, rfl, e1, upd_same, ?_, fun p3 n3 => ?_⟩
              · rw [List.length_take, List.length_map]
                exact Nat.le_trans (show min j one.length + 1 ≤ 64 by omega) (by decide)
              have s3 := same_upd (o := HO.lst ((one.map V.int).take j ++ [V.int (1 - one[j])])) n3
              refine ⟨.ref D2, rfl, .int (j : Int), rfl, _, _, rfl, rfl, _, rfl, D2, _, rfl, SqL.of (s3 _ _ (s2 _ _ (s1 _ _ h15))), fun p4 n4 => ?_⟩
              rw [show ((j : Int) + 1) = ((j + 1 : Nat) : Int) by push_cast; rfl, cutV_from (by rw [List.length_map]; omega)]
              have s4 := same_upd (o := HO.lst ((one.map V.int).drop (j + 1))) n4
              have e3 := s4 _ _ (show (upd (upd (upd H5 p1 (.lst ((one.map V.int).take j))) p2 (.lst [V.int (1 - one[j])])) p3 (.lst ((one.map V.int).take j ++ [V.int (1 - one[j])]))) p3 = some (.lst ((one.map V.int).take j ++ [V.int (1 - one[j])])) from upd_same)
              refine ⟨p3, p4, _, _, rfl, rfl, e3, upd_same, ?_, fun p5 n5 => ?_⟩
              · rw [List.length_append, List.length_take, List.length_drop, List.length_map]
                exact Nat.le_trans (show min j one.length + 1 + (one.length - (j + 1)) ≤ 64 by omega) (by decide)
              have s5 := same_upd (o := HO.lst ((one.map V.int).take j ++ [V.int (1 - one[j])] ++ (one.map V.int).drop (j + 1))) n5
              have sA := (((s1.trans s2).trans s3).trans s4).trans s5
              have h1j := ok1 _ (List.getElem_mem hj)
              refine ⟨p5, one.take j ++ [1 - one[j]] ++ one.drop (j + 1), _, rfl, (D6.same sA).mono (by omega), (fr4.trans fr5).trans (Fr.of sA), sA _ _ h15, ?_, ?_, ?_⟩
              · rw [upd_same, List.map_append, List.map_append, List.map_take, List.map_drop]
                rfl
              · rw [List.length_append, List.length_append, List.length_take, List.length_drop]
                show min j one.length + 1 + (one.length - (j + 1)) = many
                omega
              · intro x hx
                rcases List.mem_append.mp hx with z | z
                · rcases List.mem_append.mp z with z | z
                  · exact ok1 x (List.mem_of_mem_take z)
                  · rw [List.mem_singleton.mp z]; omega
                · exact ok1 x (List.mem_of_mem_drop z)
        rintro σ H5 ⟨O5, r5, y5, rfl, D6, fr5, h15, hO5⟩
        -- if way > 4
        refine ⟨fun σ H' => ∃ O' r y5, σ = [some (.ref d), some (.int many), some (.int way), some (.ref D2), some (.ref O'), y5, none, none] ∧ DeckB H' d l (n + 2 + many + many) ∧ Fr d l H H' ∧ H' D2 = some (.lst (one.map V.int)) ∧ RowL H' O' many r, ?_, ?_⟩
        · refine ⟨.int way, rfl, _, _, rfl, rfl, _, rfl, ite2 (fun _ => ?_) (fun _ => ⟨O5, r5, y5, rfl, D6.mono (by omega), fr5, h15, hO5⟩)⟩
          refine ⟨.int many, rfl, _, rfl, by omega, by omega, fun O6 n6 => ?_⟩
          have o6 := D6.off n6
          have n60 : H O6 = none := by
            cases z : H O6 with
            | none => rfl
            | some o => rw [fr5 _ _ o6.1 o6.2 z] at n6; cases n6
          have n26 : D2 ≠ O6 := ne_of_none h15 n6
          refine lc_range (lo := 0) (n := (many : Int).toNat) (fun i H' => DeckB H' d l (n + 2 + many + i) ∧ Fr d l H H' ∧ H' D2 = some (.lst (one.map V.int)) ∧ ∃ r, RowL H' O6 i r) ⟨(D6.same (same_upd n6)).mono (by omega), fr5.trans (Fr.new n6), same_upd n6 _ _ h15, [], upd_same, rfl, fun x hx => by cases hx⟩ ?_ ?_
          · rintro i H' hi ⟨Di, fri, h1i, r, hD, lr, okr⟩
            refine ⟨rfl, .ref d, rfl, d, l, 2, _, rfl, Di, by omega, by decide, by decide, fun H6 v D7 fr6 v0 v1 => ?_⟩
            have hD6 := fr6 _ _ o6.1 o6.2 hD
            refine ⟨_, hD6, ?_, (D7.upd o6.1 o6.2).mono (by push_cast; omega), Fr.upd (fri.trans fr6) n60, by rw [upd_ne n26]; exact fr6 _ _ o2.1 o2.2 h1i, r ++ [v], ?_, by rw [List.length_append, lr]; rfl, okr.snoc (by omega)⟩
            · rw [List.length_map, lr]
              exact Nat.lt_of_lt_of_le (show i < 64 by omega) (by decide)
            · rw [upd_same, List.map_append]
              rfl
          · rintro H6 ⟨D7, fr6, h16, r, hO6⟩
            exact ⟨O6, r, _, rfl, D7.mono (by omega), fr6, h16, by simpa using hO6⟩
        rintro σ H6 ⟨O6, r6, y6, rfl, D7, fr6, h16, hO6, lr6, ok6⟩
        refine ⟨.ref D2, rfl, D2, _, rfl, .inl ⟨SqL.of h16, fun t1 n1 => ?_⟩⟩
        refine ⟨.ref O6, rfl, O6, _, rfl, .inl ⟨SqL.of (same_upd n1 _ _ hO6), fun t2 n2' => ⟨sl2, fun r nr => ?_⟩⟩⟩
        have sA := ((same_upd (o := HO.tup (one.map V.int)) n1).trans (same_upd (o := HO.tup (r6.map V.int)) n2')).trans (same_upd (o := HO.tup [V.ref t1, .ref t2]) nr)
        refine q r _ one r6 ((D7.same sA).mono (by omega)) (fr6.trans (Fr.of sA)) ?_ l1' lr6 ok1 ok6
        exact .tup upd_same (.cons (.tup (same_upd nr _ _ (same_upd n2' _ _ upd_same)) (TkAll.ints _)) (.cons (.tup (same_upd nr _ _ upd_same) (TkAll.ints _)) .nil))
/-! ### what a row settles -/
def pickI (ws : List Int) (ins : List Nat) : List Int := ins.map fun i => ws.getD i 0

end
end Gk

set_option Elab.async false
set_option linter.all false
set_option maxRecDepth 100000
set_option maxHeartbeats 1000000
set_option pp.maxSteps 1500
set_option pp.deepTerms false
namespace Gk
open PySem PySem.Spec PyProof.Rows L2
section
variable {P : Program} {w : World} {K : PySem.W.Frag} {mg : Str → Option Value} {base : Heap}
/-! ### a net with a wire read twice -/
theorem flat_cut {gs : List Gt} {j : Nat} {g : Gt} (h : gs[j]? = some g) : flatG gs = flatG (gs.take j) ++ (g.2 ++ flatG (gs.drop (j + 1))) := by
  have e : gs = gs.take j ++ (g :: gs.drop (j + 1)) := by
    obtain ⟨hl, e'⟩ := List.getElem?_eq_some_iff.mp h
    rw [← e', List.getElem_cons_drop, List.take_append_drop]
  have f : ∀ a b : List Gt, flatG (a ++ b) = flatG a ++ flatG b := fun a b => List.flatMap_append
  rw [e, f]
  show _ ++ (g.2 ++ flatG (gs.drop (j + 1))) = _
  rw [← e]
theorem not_form {m x : Nat} {gs : List Gt} (hx : m ≤ x) (h : 2 ≤ (flatG gs).count x) : formB m gs = false := by
  refine decide_eq_false fun nd => ?_
  have c := List.nodup_iff_count.mp nd x
  have e : (high m (flatG gs)).count x = (flatG gs).count x := by
    unfold high
    exact List.count_filter (p := fun y => decide (m ≤ y)) (decide_eq_true hx)
  omega
theorem twice_one {gs : List Gt} {j x : Nat} {g : Gt} (h : gs[j]? = some g) (c : 2 ≤ g.2.count x) : 2 ≤ (flatG gs).count x := by
  rw [flat_cut h, List.count_append, List.count_append]
  omega
theorem twice_two {gs : List Gt} {i j x : Nat} {g k : Gt} (hi : gs[i]? = some g) (hj : gs[j]? = some k) (lt : i < j) (c : x ∈ g.2) (c2 : x ∈ k.2) : 2 ≤ (flatG gs).count x := by
  rw [flat_cut hj, List.count_append, List.count_append]
  have m1 : x ∈ flatG (gs.take j) := List.mem_flatMap.mpr ⟨g, List.mem_of_getElem? (i := i) (by rw [List.getElem?_take, if_pos lt]; exact hi), c⟩
  have p1 := List.count_pos_iff.mpr m1
  have p2 := List.count_pos_iff.mpr c2
  omega
theorem TkAll.put {H : Hp} {v : V} {d : PyData} : ∀ {k : Nat} {vs : List V} {ds : List PyData}, TkAll H vs ds → Tk H v d → TkAll H (vs.set k v) (ds.set k d)
  | _, _, _, .nil, _ => .nil
  | 0, _, _, .cons _ r, h => .cons h r
  | k + 1, _, _, .cons a r, h => .cons a (r.put h)
theorem NetOk.put {m k : Nat} {gs : List Gt} {g : Gt} (h : NetOk m gs) (hg : GtOk (m + k) g) : NetOk m (gs.set k g) := fun i x e => by
  by_cases z : k = i
  · subst z
    by_cases l : k < gs.length
    · rw [List.getElem?_set_self l] at e
      cases Option.some.inj e
      exact hg
    · rw [List.getElem?_eq_none (by rw [List.length_set]; omega)] at e
      cases e
  · rw [List.getElem?_set_ne z] at e
    exact h i x e
theorem ixN_k {n k : Nat} (h : k < n) : ixN n ((k : Nat) : Int) = some k := by
  unfold ixN
  rw [if_pos (by omega), if_pos (by omega)]
  rfl
def tXor : List Bool := [false, true, true, false]
def tOr : List Bool := [false, true, true, true]
def tAnd : List Bool := [false, false, false, true]
def tMost : List Bool := [false, false, false, true, false, true, true, true]
theorem two_at (x y : V) {w : Int} (h0 : 0 ≤ w) (h1 : w < 2) : atI [x, y] w = some (if w = 0 then x else y) := by
  have : w = 0 ∨ w = 1 := by omega
  rcases this with rfl | rfl <;> rfl
def sp_twice (K : PySem.W.Frag) : Sp := fun vs H Q _ => ∃ (d l : Addr) (n : Int) (nv : V) (m : Nat) (gs : List Gt), vs = [.ref d, nv] ∧ DeckB H d l n ∧ n < 1000000 ∧ Tk H nv (netD m gs) ∧ NetOk m gs ∧ 1 ≤ m ∧ m ≤ 6 ∧ 2 ≤ gs.length ∧ gs.length ≤ 64 ∧
  ∀ r H' gs', DeckB H' d l (n + 12) → Fr d l H H' → Tk H' (.ref r) (netD m gs') → gs'.length = gs.length → NetOk m gs' → formB m gs' = false → Q (.ref r) H'
theorem ok_twice (T : Tx K mg) : FnOk P w K mg base CX0 2 T.f_twice T.fd_twice ["_law_deck_here", "_law_net"] (sp_twice K) := by
  refine T.F_twice.ok sc_twice (fun vs H Q E h => ?_) (fun cdv A outer s H vs Q E hr h => ?_)
  · obtain ⟨d, l, n, nv, m, gs, rfl, _⟩ := h
    rfl
  · obtain ⟨d, l, n, nv, m, gs, rfl, D, hn, tn, ok, m1, m6, g2, g64, q⟩ := h
    refine ⟨_, (pss_cons (ps_set (i := 2) sc_twice.nd rfl (by first | exact .inl rfl | exact .inr rfl) (pe_call (ok_draw T) (hr.mono (by decide)) (by rfl) T.g_draw T.F_draw.kp T.b_draw .nil pass0 (pa_cons (pv 0) (pa_cons pe_int pa_nil)))) (pss_cons (ps_asg (pv 1) (pg_tup rfl (pgs_cons (pg_name (i := 3) sc_twice.nd rfl (by first | exact .inl rfl | exact .inr rfl)) (pgs_cons (pg_name (i := 4) sc_twice.nd rfl (by first | exact .inl rfl | exact .inr rfl)) pgs_nil)))) (pss_cons (ps_set (i := 5) sc_twice.nd rfl (by first | exact .inl rfl | exact .inr rfl) (pe_op op_add pe_int (pe_call (ok_draw T) (hr.mono (by decide)) (by rfl) T.g_draw T.F_draw.kp T.b_draw .nil pass0 (pa_cons (pv 0) (pa_cons (pe_op op_sub (pe_callB call_len_seq (by rfl) T.m_len PySem.boot_len (pa_cons (pv 4) pa_nil)) pe_int) pa_nil))))) (pss_cons (ps_set (i := 6) sc_twice.nd rfl (by first | exact .inl rfl | exact .inr rfl) (pe_op op_add (pv 3) (pe_call (ok_draw T) (hr.mono (by decide)) (by rfl) T.g_draw T.F_draw.kp T.b_draw .nil pass0 (pa_cons (pv 0) (pa_cons (pv 5) pa_nil))))) (pss_cons (ps_set (i := 7) sc_twice.nd rfl (by first | exact .inl rfl | exact .inr rfl) (pe_op op_add (pv 5) (pe_call (ok_draw T) (hr.mono (by decide)) (by rfl) T.g_draw T.F_draw.kp T.b_draw .nil pass0 (pa_cons (pv 0) (pa_cons (pe_op op_sub (pe_callB call_len_seq (by rfl) T.m_len PySem.boot_len (pa_cons (pv 4) pa_nil)) (pv 5)) pa_nil))))) (pss_cons (ps_set (i := 8) sc_twice.nd rfl (by first | exact .inl rfl | exact .inr rfl) (pe_callTy call_list_of (by rfl) T.m_list (by decide +kernel) (pa_cons (pv 4) pa_nil))) (pss_cons (ps_asg (pe_tup (pa_cons pe_str (pa_cons (pe_tup (pa_cons (pv 6) (pa_cons (pe_ix ix_list (pe_lst (pa_cons (pv 6) (pa_cons (pe_call (ok_draw T) (hr.mono (by decide)) (by rfl) T.g_draw T.F_draw.kp T.b_draw .nil pass0 (pa_cons (pv 0) (pa_cons (pv 3) pa_nil))) pa_nil))) (pv 2) (fun _ _ => rfl)) pa_nil))) pa_nil))) (pg_sub (pv 8) (pv 5) set_list)) (C8.pss_cut (ps_if (pt_cmpR op_eq (pv 2) pe_int (nomark _)) (pss_one (ps_asg (pe_tup (pa_cons (pe_ix ix_list (pe_lst (pa_cons pe_str (pa_cons pe_str pa_nil))) (pe_call (ok_draw T) (hr.mono (by decide)) (by rfl) T.g_draw T.F_draw.kp T.b_draw .nil pass0 (pa_cons (pv 0) (pa_cons pe_int pa_nil))) (fun _ _ => rfl)) (pa_cons (pe_tup (pa_cons (pv 6) (pa_cons (pe_call (ok_draw T) (hr.mono (by decide)) (by rfl) T.g_draw T.F_draw.kp T.b_draw .nil pass0 (pa_cons (pv 0) (pa_cons (pe_op op_add (pv 3) (pv 7)) pa_nil))) pa_nil))) pa_nil))) (pg_sub (pv 8) (pv 7) set_list))) pss_nil) (C8.pss_cut (ps_if (pw_and (pt_cmpR op_eq (pv 2) pe_int (nomark _)) (pw_and1 (pt_cmpR op_eq (pv 7) (pv 5) (nomark _)))).pt (pss_one (ps_asg (pe_tup (pa_cons pe_str (pa_cons (pe_tup (pa_cons (pv 6) (pa_cons (pe_call (ok_draw T) (hr.mono (by decide)) (by rfl) T.g_draw T.F_draw.kp T.b_draw .nil pass0 (pa_cons (pv 0) (pa_cons (pv 3) pa_nil))) (pa_cons (pv 6) pa_nil)))) pa_nil))) (pg_sub (pv 8) (pv 5) set_list))) pss_nil) (pss_one (ps_ret (pe_tup (pa_cons (pv 3) (pa_cons (pe_callTy call_tuple_of (by rfl) T.m_tuple (by decide +kernel) (pa_cons (pv 8) pa_nil)) pa_nil)))))))))))))), ?_⟩
    refine ⟨.ref d, rfl, d, l, 2, _, rfl, D, by omega, by decide, by decide, fun H1 way D1 fr1 w0 w1 => ?_⟩
    obtain ⟨nn, g, xs, rfl, hnn, hg, tg⟩ := (tn.ts (Ts.fr D fr1) (noL_net _ _)).net_inv
    have lx : xs.length = gs.length := by rw [tg.length, List.length_map]
    refine ⟨.ref nn, rfl, nn, _, rfl, SqT.of hnn, rfl, _, _, rfl, _, _, rfl, rfl, ?_⟩
    refine ⟨.ref d, rfl, .ref g, rfl, g, xs, rfl, .inr (SqT.of hg), _, _, rfl, rfl, d, l, _, _, rfl, D1, by omega, by omega, by omega, fun H2 x D2 fr2 x0 x1 => ⟨_, _, rfl, rfl, ?_⟩⟩
    obtain ⟨A, hA, A1, Al⟩ : ∃ A : Nat, 1 + x = (A : Int) ∧ 1 ≤ A ∧ A < gs.length := ⟨(1 + x).toNat, by omega, by omega, by omega⟩
    show gName 5 (V.int (1 + x)) _ _ _
    rw [hA]
    refine ⟨.int (m : Nat), rfl, .ref d, rfl, .int (A : Nat), rfl, d, l, _, _, rfl, D2, by omega, by omega, by omega, fun H3 j D3 fr3 j0 j1 => ⟨_, _, rfl, rfl, ?_⟩⟩
    obtain ⟨j, rfl⟩ := Int.eq_ofNat_of_zero_le j0
    have jA : j < A := by omega
    have hg3 := (Ts.fr D2 fr3) _ _ ((Ts.fr D1 fr2) _ _ hg)
    refine ⟨.int (A : Nat), rfl, .ref d, rfl, .ref g, rfl, g, xs, rfl, .inr (SqT.of hg3), .int (A : Nat), rfl, _, _, rfl, rfl, d, l, _, _, rfl, D3, by omega, by omega, by omega, fun H4 y D4 fr4 y0 y1 => ⟨_, _, rfl, rfl, ?_⟩⟩
    obtain ⟨k, rfl⟩ := Int.eq_ofNat_of_zero_le y0
    have Bl : A + k < gs.length := by omega
    have ts14 := ((Ts.fr D1 fr2).trans (Ts.fr D2 fr3)).trans (Ts.fr D3 fr4)
    have hg4 := ts14 _ _ hg
    have tg4 := tg.ts ts14 (noL_gates gs)
    have fr04 := ((fr1.trans fr2).trans fr3).trans fr4
    refine ⟨.ref g, rfl, g, xs, rfl, .inr (SqT.of hg4), fun L nL => ?_⟩
    have oL := D4.off nL
    have nL0 : H L = none := none_of_fr fr04 D4 nL
    have s5 := same_upd (o := (HO.lst xs)) nL
    have h5 : upd H4 L (HO.lst xs) L = some (HO.lst xs) := upd_same
    generalize upd H4 L (HO.lst xs) = H5 at s5 h5 ⊢
    have D5 := D4.same s5
    have tg5 := tg4.same s5
    refine ⟨.int ((m + j : Nat) : Int), rfl, .int ((m + j : Nat) : Int), rfl, .ref d, rfl, .int (m : Nat), rfl, d, l, _, _, rfl, D5, by omega, by omega, by omega, fun H6 z D6 fr6 z0 z1 => ⟨sl2, fun p np => ?_⟩⟩
    obtain ⟨z, rfl⟩ := Int.eq_ofNat_of_zero_le z0
    have op := D6.off np
    have s7 := same_upd (o := (HO.lst [V.int ((m + j : Nat) : Int), V.int (z : Nat)])) np
    have h7 : upd H6 p (HO.lst [V.int ((m + j : Nat) : Int), V.int (z : Nat)]) p = some (HO.lst [V.int ((m + j : Nat) : Int), V.int (z : Nat)]) := upd_same
    generalize upd H6 p (HO.lst [V.int ((m + j : Nat) : Int), V.int (z : Nat)]) = H7 at s7 h7 ⊢
    obtain ⟨e, he, hel⟩ : ∃ e : Nat, atI [V.int ((m + j : Nat) : Int), V.int (z : Nat)] way = some (.int (e : Nat)) ∧ ((way = 0 ∧ e = m + j) ∨ (way = 1 ∧ e = z)) := by
      have : way = 0 ∨ way = 1 := by omega
      rcases this with rfl | rfl
      · exact ⟨m + j, rfl, .inl ⟨rfl, rfl⟩⟩
      · exact ⟨z, rfl, .inr ⟨rfl, rfl⟩⟩
    have ez : e < m + A := by rcases hel with ⟨_, h⟩ | ⟨_, h⟩ <;> omega
    refine ⟨.int way, rfl, p, _, way, _, rfl, rfl, SqL.of h7, he, sl2, fun t1 nt1 => ?_⟩
    have s8 := same_upd (o := (HO.tup [V.int ((m + j : Nat) : Int), V.int (e : Nat)])) nt1
    have h8 : upd H7 t1 (HO.tup [V.int ((m + j : Nat) : Int), V.int (e : Nat)]) t1 = some (HO.tup [V.int ((m + j : Nat) : Int), V.int (e : Nat)]) := upd_same
    generalize upd H7 t1 (HO.tup [V.int ((m + j : Nat) : Int), V.int (e : Nat)]) = H8 at s8 h8 ⊢
    refine ⟨sl2, fun t2 nt2 => ?_⟩
    have s9 := same_upd (o := (HO.tup [V.str (Str.ofString "0110"), V.ref t1])) nt2
    have h9 : upd H8 t2 (HO.tup [V.str (Str.ofString "0110"), V.ref t1]) t2 = some (HO.tup [V.str (Str.ofString "0110"), V.ref t1]) := upd_same
    generalize upd H8 t2 (HO.tup [V.str (Str.ofString "0110"), V.ref t1]) = H9 at s9 h9 ⊢
    have s69 := (s7.trans s8).trans s9
    have D9 := D6.same s69
    have hL9 := s69 _ _ (fr6 _ _ oL.1 oL.2 h5)
    have tg9 := (tg5.ts (Ts.fr D5 fr6) (noL_gates gs)).same s69
    refine ⟨.ref L, rfl, .int (A : Nat), rfl, L, _, _, A, rfl, rfl, hL9, ixN_k (by omega), ?_⟩
    have e0 : tabOf tXor = Str.ofString "0110" := by decide +kernel
    have tk1 : Tk H9 (.ref t2) (gD (tXor, [m + j, e])) := by
      refine .tup h9 (.cons ?_ (.cons (.tup (s9 _ _ h8) (.cons (.int _) (.cons (.int _) .nil))) .nil))
      rw [e0]
      exact .str _
    have gok1 : GtOk (m + A) (tXor, [m + j, e]) := ⟨rfl, (show 1 ≤ 2 by decide), (show 2 ≤ 3 by decide), fun i hi => by
      rcases List.mem_cons.mp hi with h | h
      · omega
      · rw [List.mem_singleton.mp h]; exact ez⟩
    obtain ⟨gs1, hgs1⟩ : ∃ gs1, gs1 = gs.set A ((tXor, [m + j, e]) : Gt) := ⟨_, rfl⟩
    have l1 : gs1.length = gs.length := by rw [hgs1, List.length_set]
    have ok1 : NetOk m gs1 := by rw [hgs1]; exact ok.put gok1
    have at1 : gs1[A]? = some ((tXor, [m + j, e]) : Gt) := by rw [hgs1]; exact List.getElem?_set_self Al
    have ts10 := Ts.set (ys := xs.set A (.ref t2)) hL9
    have tg10 : TkAll (upd H9 L (.lst (xs.set A (.ref t2)))) (xs.set A (.ref t2)) (gs1.map gD) := by
      have := (tg9.put (k := A) tk1)
      rw [← List.map_set, ← hgs1] at this
      exact this.ts ts10 (noL_gates gs1)
    have D10 := D9.upd (p := L) (o := .lst (xs.set A (.ref t2))) oL.1 oL.2
    have fr10 : Fr d l H (upd H9 L (.lst (xs.set A (.ref t2)))) := ((fr04.trans (Fr.of s5)).trans (fr6.trans (Fr.of s69))).upd nL0
    have hL10 : upd H9 L (.lst (xs.set A (.ref t2))) L = some (.lst (xs.set A (.ref t2))) := upd_same
    show tSeq _ _ _ _ (upd H9 L _)
    generalize upd H9 L (.lst (xs.set A (.ref t2))) = H10 at ts10 tg10 D10 fr10 hL10 ⊢
    -- a later gate that reads the same wire
    refine ⟨fun σ H' => ∃ vs gs2, σ = [some (.ref d), some (.ref nn), some (.int way), some (.int (m : Nat)), some (.ref g), some (.int (A : Nat)), some (.int ((m + j : Nat) : Int)), some (.int ((A + k : Nat) : Int)), some (.ref L)] ∧ DeckB H' d l (n + 9) ∧ Fr d l H H' ∧ H' L = some (.lst vs) ∧ TkAll H' vs (gs2.map gD) ∧ gs2.length = gs.length ∧ NetOk m gs2 ∧ (way = 0 → formB m gs2 = false) ∧ (way = 1 → k ≠ 0 → formB m gs2 = false), ?_, ?_⟩
    · refine ⟨.int way, rfl, rfl, _, rfl, ite2 (fun e1 => ?_) (fun e1 => ?_)⟩
      · have w1' : way = 1 := V.int.inj (of_decide_eq_true e1)
        refine ⟨sl2, fun p2 np2 => ?_⟩
        have op2 := D10.off np2
        have s11 := same_upd (o := (HO.lst [V.str (Str.ofString "0111"), V.str (Str.ofString "0001")])) np2
        have h11 : upd H10 p2 (HO.lst [V.str (Str.ofString "0111"), V.str (Str.ofString "0001")]) p2 = some (HO.lst [V.str (Str.ofString "0111"), V.str (Str.ofString "0001")]) := upd_same
        generalize upd H10 p2 (HO.lst [V.str (Str.ofString "0111"), V.str (Str.ofString "0001")]) = H11 at s11 h11 ⊢
        refine ⟨.ref d, rfl, d, l, 2, _, rfl, D10.same s11, by omega, by decide, by decide, fun H12 c D12 fr12 c0 c1 => ?_⟩
        obtain ⟨tb, ltb, etb⟩ : ∃ tb : List Bool, tb.length = 4 ∧ atI [V.str (Str.ofString "0111"), V.str (Str.ofString "0001")] c = some (.str (tabOf tb)) := by
          have : c = 0 ∨ c = 1 := by omega
          have h1 : tabOf tOr = Str.ofString "0111" := by decide +kernel
          have h2 : tabOf tAnd = Str.ofString "0001" := by decide +kernel
          rcases this with rfl | rfl
          · exact ⟨tOr, rfl, by rw [h1]; rfl⟩
          · exact ⟨tAnd, rfl, by rw [h2]; rfl⟩
        refine ⟨p2, _, c, _, rfl, rfl, SqL.of (fr12 _ _ op2.1 op2.2 h11), etb, ?_⟩
        refine ⟨.int ((m + j : Nat) : Int), rfl, .ref d, rfl, .int (m : Nat), rfl, .int ((A + k : Nat) : Int), rfl, _, _, rfl, rfl, d, l, _, _, rfl, D12, by omega, by omega, by omega, fun H13 u D13 fr13 u0 u1 => ⟨sl2, fun t3 nt3 => ?_⟩⟩
        obtain ⟨u, rfl⟩ := Int.eq_ofNat_of_zero_le u0
        have s14 := same_upd (o := (HO.tup [V.int ((m + j : Nat) : Int), V.int (u : Nat)])) nt3
        have h14 : upd H13 t3 (HO.tup [V.int ((m + j : Nat) : Int), V.int (u : Nat)]) t3 = some (HO.tup [V.int ((m + j : Nat) : Int), V.int (u : Nat)]) := upd_same
        generalize upd H13 t3 (HO.tup [V.int ((m + j : Nat) : Int), V.int (u : Nat)]) = H14 at s14 h14 ⊢
        refine ⟨sl2, fun t4 nt4 => ?_⟩
        have s15 := same_upd (o := (HO.tup [V.str (tabOf tb), V.ref t3])) nt4
        have h15 : upd H14 t4 (HO.tup [V.str (tabOf tb), V.ref t3]) t4 = some (HO.tup [V.str (tabOf tb), V.ref t3]) := upd_same
        generalize upd H14 t4 (HO.tup [V.str (tabOf tb), V.ref t3]) = H15 at s15 h15 ⊢
        have s1315 := s14.trans s15
        have fr1013 : Fr d l H10 H13 := ((Fr.of s11).trans fr12).trans fr13
        have hL15 := s1315 _ _ (fr1013 _ _ oL.1 oL.2 hL10)
        have tg15 := (((tg10.same s11).ts (Ts.fr (D10.same s11) fr12) (noL_gates gs1)).ts (Ts.fr D12 fr13) (noL_gates gs1)).same s1315
        refine ⟨.ref L, rfl, .int ((A + k : Nat) : Int), rfl, L, _, _, A + k, rfl, rfl, hL15, ixN_k (by rw [List.length_set]; omega), ?_⟩
        have tk2 : Tk H15 (.ref t4) (gD (tb, [m + j, u])) := .tup h15 (.cons (.str _) (.cons (.tup (s15 _ _ h14) (.cons (.int _) (.cons (.int _) .nil))) .nil))
        have gok2 : GtOk (m + (A + k)) (tb, [m + j, u]) := ⟨ltb, (show 1 ≤ 2 by decide), (show 2 ≤ 3 by decide), fun i hi => by
          rcases List.mem_cons.mp hi with h | h
          · omega
          · rw [List.mem_singleton.mp h]; omega⟩
        have ts16 := Ts.set (ys := (xs.set A (.ref t2)).set (A + k) (.ref t4)) hL15
        refine ⟨_, gs1.set (A + k) ((tb, [m + j, u]) : Gt), rfl, ((D13.same s1315).upd oL.1 oL.2).mono (by omega), ((fr10.trans fr1013).trans (Fr.of s1315)).upd nL0, upd_same, ?_, by rw [List.length_set, l1], ok1.put gok2, fun z => by omega, fun _ nk => ?_⟩
        · have := tg15.put (k := A + k) tk2
          rw [← List.map_set] at this
          exact this.ts ts16 (noL_gates _)
        · refine not_form (x := m + j) (by omega) (twice_two (i := A) (j := A + k) (g := (tXor, [m + j, e])) (k := (tb, [m + j, u])) ?_ ?_ (by omega) List.mem_cons_self List.mem_cons_self)
          · rw [List.getElem?_set_ne (by omega)]
            exact at1
          · exact List.getElem?_set_self (by omega)
      · have w0' : way = 0 := by
          have : ¬ way = 1 := fun z => e1 (by rw [z]; exact decide_eq_true rfl)
          omega
        refine ⟨_, gs1, rfl, D10.mono (by omega), fr10, hL10, tg10, l1, ok1, fun _ => ?_, fun z => by omega⟩
        have ee : e = m + j := by rcases hel with ⟨_, h⟩ | ⟨h, _⟩ <;> omega
        refine not_form (x := m + j) (by omega) (twice_one at1 ?_)
        show 2 ≤ [m + j, e].count (m + j)
        rw [ee]
        simp
    rintro σ H11 ⟨vs2, gs2, rfl, D11, fr11, hL11, tg11, l2, ok2, nf0, nf1⟩
    refine ⟨fun σ H' => ∃ vs gs3, σ = [some (.ref d), some (.ref nn), some (.int way), some (.int (m : Nat)), some (.ref g), some (.int (A : Nat)), some (.int ((m + j : Nat) : Int)), some (.int ((A + k : Nat) : Int)), some (.ref L)] ∧ DeckB H' d l (n + 12) ∧ Fr d l H H' ∧ H' L = some (.lst vs) ∧ TkAll H' vs (gs3.map gD) ∧ gs3.length = gs.length ∧ NetOk m gs3 ∧ formB m gs3 = false, ?_, ?_⟩
    · have keep : formB m gs2 = false → ∃ vs gs3, ([some (.ref d), some (.ref nn), some (.int way), some (.int (m : Nat)), some (.ref g), some (.int (A : Nat)), some (.int ((m + j : Nat) : Int)), some (.int ((A + k : Nat) : Int)), some (.ref L)] : L2.St) = [some (.ref d), some (.ref nn), some (.int way), some (.int (m : Nat)), some (.ref g), some (.int (A : Nat)), some (.int ((m + j : Nat) : Int)), some (.int ((A + k : Nat) : Int)), some (.ref L)] ∧ DeckB H11 d l (n + 12) ∧ Fr d l H H11 ∧ H11 L = some (.lst vs) ∧ TkAll H11 vs (gs3.map gD) ∧ gs3.length = gs.length ∧ NetOk m gs3 ∧ formB m gs3 = false := fun z => ⟨vs2, gs2, rfl, D11.mono (by omega), fr11, hL11, tg11, l2, ok2, z⟩
      refine ⟨.int way, rfl, rfl, _, rfl, ite2 (fun e1 => ?_) (fun e1 => ?_)⟩
      · have w1' : way = 1 := V.int.inj (of_decide_eq_true e1)
        refine ⟨.int ((A + k : Nat) : Int), rfl, .int (A : Nat), rfl, rfl, _, rfl, ite2 (fun e2 => ?_) (fun e2 => ?_)⟩
        · have k0 : k = 0 := by
            have := V.int.inj (of_decide_eq_true e2)
            omega
          have e3 : tabOf tMost = Str.ofString "00010111" := by decide +kernel
          refine ⟨.int ((m + j : Nat) : Int), rfl, .ref d, rfl, .int (m : Nat), rfl, d, l, _, _, rfl, D11, by omega, by omega, by omega, fun H12 u D12 fr12 u0 u1 => ⟨.int ((m + j : Nat) : Int), rfl, sl3, fun t3 nt3 => ?_⟩⟩
          obtain ⟨u, rfl⟩ := Int.eq_ofNat_of_zero_le u0
          have s13 := same_upd (o := (HO.tup [V.int ((m + j : Nat) : Int), V.int (u : Nat), V.int ((m + j : Nat) : Int)])) nt3
          have h13 : upd H12 t3 (HO.tup [V.int ((m + j : Nat) : Int), V.int (u : Nat), V.int ((m + j : Nat) : Int)]) t3 = some (HO.tup [V.int ((m + j : Nat) : Int), V.int (u : Nat), V.int ((m + j : Nat) : Int)]) := upd_same
          generalize upd H12 t3 (HO.tup [V.int ((m + j : Nat) : Int), V.int (u : Nat), V.int ((m + j : Nat) : Int)]) = H13 at s13 h13 ⊢
          refine ⟨sl2, fun t4 nt4 => ?_⟩
          have s14 := same_upd (o := (HO.tup [V.str (Str.ofString "00010111"), V.ref t3])) nt4
          have h14 : upd H13 t4 (HO.tup [V.str (Str.ofString "00010111"), V.ref t3]) t4 = some (HO.tup [V.str (Str.ofString "00010111"), V.ref t3]) := upd_same
          generalize upd H13 t4 (HO.tup [V.str (Str.ofString "00010111"), V.ref t3]) = H14 at s14 h14 ⊢
          have s1214 := s13.trans s14
          have hL14 := s1214 _ _ (fr12 _ _ oL.1 oL.2 hL11)
          have tg14 := (tg11.ts (Ts.fr D11 fr12) (noL_gates gs2)).same s1214
          have lv : vs2.length = gs2.length := by rw [tg11.length, List.length_map]
          refine ⟨.ref L, rfl, .int (A : Nat), rfl, L, _, _, A, rfl, rfl, hL14, ixN_k (by omega), ?_⟩
          have tk2 : Tk H14 (.ref t4) (gD (tMost, [m + j, u, m + j])) := by
            refine .tup h14 (.cons ?_ (.cons (.tup (s14 _ _ h13) (.cons (.int _) (.cons (.int _) (.cons (.int _) .nil)))) .nil))
            rw [e3]
            exact .str _
          have gok2 : GtOk (m + A) (tMost, [m + j, u, m + j]) := ⟨rfl, (show 1 ≤ 3 by decide), (show 3 ≤ 3 by decide), fun i hi => by
            have hi : i ∈ [m + j, u, m + j] := hi
            simp only [List.mem_cons, List.not_mem_nil, or_false] at hi
            omega⟩
          have ts15 := Ts.set (ys := vs2.set A (.ref t4)) hL14
          refine ⟨_, gs2.set A ((tMost, [m + j, u, m + j]) : Gt), rfl, ((D12.same s1214).upd oL.1 oL.2).mono (by omega), ((fr11.trans fr12).trans (Fr.of s1214)).upd nL0, upd_same, ?_, by rw [List.length_set, l2], ok2.put gok2, ?_⟩
          · have := tg14.put (k := A) tk2
            rw [← List.map_set] at this
            exact this.ts ts15 (noL_gates _)
          · refine not_form (x := m + j) (by omega) (twice_one (j := A) (g := (tMost, [m + j, u, m + j])) (List.getElem?_set_self (by omega)) ?_)
            show 2 ≤ [m + j, u, m + j].count (m + j)
            rw [List.count_cons_self, List.count_cons, List.count_cons_self]
            omega
        · refine keep (nf1 w1' fun z => e2 ?_)
          rw [z]
          exact decide_eq_true rfl
      · refine keep (nf0 ?_)
        have : ¬ way = 1 := fun z => e1 (by rw [z]; exact decide_eq_true rfl)
        omega
    rintro σ H12 ⟨vs3, gs3, rfl, D12, fr12, hL12, tg12, l3, ok3, nf⟩
    refine ⟨.int (m : Nat), rfl, .ref L, rfl, L, _, rfl, .inl ⟨SqL.of hL12, fun t5 nt5 => ?_⟩⟩
    have s13 := same_upd (o := (HO.tup vs3)) nt5
    have h13 : upd H12 t5 (HO.tup vs3) t5 = some (HO.tup vs3) := upd_same
    generalize upd H12 t5 (HO.tup vs3) = H13 at s13 h13 ⊢
    refine ⟨sl2, fun r nr => ?_⟩
    have s14 := same_upd (o := HO.tup [V.int (m : Nat), V.ref t5]) nr
    exact q r _ gs3 ((D12.same s13).same s14) (fr12.trans ((Fr.of s13).trans (Fr.of s14))) (.tup upd_same (.cons (.int _) (.cons (.tup (s14 _ _ h13) ((tg12.same s13).same s14)) .nil))) l3 ok3 nf

end
end Gk

set_option Elab.async false
set_option linter.all false
set_option maxRecDepth 100000
set_option maxHeartbeats 1000000
namespace Gk
open PySem PySem.Spec PyProof.Rows L2
/-! ### x in a tuple of data -/
def rInT (K : PySem.W.Frag) : R2 := fun x y H Q => ∃ d ds, Dp K H x d ∧ Dp K H y (.tuple ds) ∧ SeqAt.shaped d = true ∧ SeqAt.shaped (.tuple ds) = true ∧ Q (.bl (ds.any fun z => PyData.eqv z d)) H
theorem op_inT {X : Cx} (hu : X.A.units + 65 < cLine) : OpR X (compareOp .In) (rInT X.K) := by
  intro pins s σ H x y v u Q I rx ry h
  obtain ⟨d, ds, hd, he, sd, se, q⟩ := h
  obtain ⟨as, r1⟩ := Dp.reads I d x v hd rx
  obtain ⟨bs, r2⟩ := Dp.reads I (.tuple ds) y u he ry
  exact SeqAt.in_tuple_reads r2 r1 (SeqAt.canLay_of_shaped se) (SeqAt.canLay_of_shaped sd) (room_in_shaped sd hu) ⟨.bl _, H, I, rfl, q⟩

section
variable {P : Program} {w : World} {K : PySem.W.Frag} {mg : Str → Option Value} {base : Heap}
theorem ok_worth (T : Tx K mg) : FnOk P w K mg base CX0 1 T.f_worth T.fd_worth ["_law_table_here", "_law_worths"] (spGate K) := by
  refine T.F_worth.ok sc_worth (fun vs H Q E h => ?_) (fun cdv A outer s H vs Q E hr h => ?_)
  · obtain ⟨bs, la, ws, rfl, _⟩ := h
    rfl
  · obtain ⟨bs, la, ws, rfl, hS, hw, hb, h3, q⟩ := h
    obtain ⟨b, p0, p1, p2, p3, p4⟩ := gate_read hw hb h3
    refine ⟨_, (pss_cons (ps_set (i := 2) sc_worth.nd rfl (by first | exact .inl rfl | exact .inr rfl) pe_int) (pss_cons (ps_for PassesOwn.never rfl (pi_list (pv 1)) (pg_name (i := 3) sc_worth.nd rfl (by first | exact .inl rfl | exact .inr rfl)) (pss_one (ps_set (i := 2) sc_worth.nd rfl (by first | exact .inl rfl | exact .inr rfl) (pe_op op_add (pe_op op_mul pe_int (pv 2)) (pv 3))))) (pss_one (ps_ret (pe_callTy call_int_str (by rfl) T.m_int (by decide +kernel) (pa_cons (pe_item_str (pv 0) (pv 2) (fun _ _ => rfl)) pa_nil)))))), ?_⟩
    refine ⟨.ref la, rfl, la, rfl, ⟨_, hS⟩, for_list (K := K) (a := la) (xs := ws.map V.int) (fun i σ H' => ∃ y, σ = [some (.str (tabOf bs)), some (.ref la), some (.int (plc (ws.take i))), y] ∧ H' = H) ⟨none, rfl, rfl⟩ (fun i σ H' _ ⟨_, _, e⟩ => by rw [e]; exact hS) ?_ ?_⟩
    · rintro i x σ H' hx ⟨y, rfl, rfl⟩
      obtain ⟨u, hu, rfl⟩ : ∃ u, ws[i]? = some u ∧ x = V.int u := by
        rw [List.getElem?_map] at hx
        cases hz : ws[i]? with
        | none => rw [hz] at hx; cases hx
        | some u => rw [hz] at hx; exact ⟨u, rfl, (Option.some.inj hx).symm⟩
      refine ⟨.int (plc (ws.take i)), rfl, 2, _, rfl, rfl, .inl ⟨by decide, by decide⟩, .int u, rfl, _, _, rfl, rfl, some (.int u), ?_, rfl⟩
      rw [plc_take hu]
      rfl
    · rintro σ H' ⟨y, rfl, rfl⟩
      rw [List.length_map, List.take_length]
      refine ⟨.str (tabOf bs), rfl, .int (plc ws), rfl, _, _, _, rfl, rfl, p0, p1, p2, p3, _, _, rfl, int_sign b, (show 1 ≤ 640 by decide), ?_⟩
      rw [← p4]
      exact q

/-! ### a gate's word by all choices of pairs, counted through -/
def mayM (x : Wd) (p : Int × Int) : Bool := x.2.2 || ([(x.1, x.1), (x.1, x.2.1), (x.2.1, x.2.1)] : List (Int × Int)).any fun z => PyData.eqv (prD z) (prD p)
def allPairs : List (Int × Int) := [(0, 0), (0, 1), (1, 0), (1, 1)]
def allWords : List Wd := [(0, 0, false), (0, 1, false), (1, 0, false), (1, 1, false), (0, 0, true), (0, 1, true), (1, 0, true), (1, 1, true)]
theorem may_all : (allWords.all fun x => allPairs.all fun p => mayM x p == decide (p ∈ pw x)) = true := by decide +kernel
theorem word_mem {x : Wd} (h : Wok x) : x ∈ allWords := by
  obtain ⟨f, l, c⟩ := x
  obtain ⟨hf, hl⟩ := h
  dsimp only at hf hl
  rcases hf with rfl | rfl <;> rcases hl with rfl | rfl <;> cases c <;> decide
theorem may_pw {x : Wd} {p : Int × Int} (h : Wok x) (hp : p ∈ allPairs) : mayM x p = decide (p ∈ pw x) :=
  eq_of_beq (List.all_eq_true.mp (List.all_eq_true.mp may_all x (word_mem h)) p hp)
def pr4 (c : Nat) : Int × Int := (((c % 4 / 2 : Nat) : Int), ((c % 2 : Nat) : Int))
theorem pr4_mem (c : Nat) : pr4 c ∈ allPairs := by
  have h1 : c % 4 / 2 = 0 ∨ c % 4 / 2 = 1 := by omega
  have h2 : c % 2 = 0 ∨ c % 2 = 1 := by omega
  unfold pr4
  rcases h1 with h1 | h1 <;> rcases h2 with h2 | h2 <;> rw [h1, h2] <;> decide
theorem pr4_all {p : Int × Int} (h : p ∈ allPairs) : ∃ v : Nat, v < 4 ∧ pr4 v = p := by
  rcases List.mem_cons.mp h with rfl | h
  · exact ⟨0, by decide, rfl⟩
  rcases List.mem_cons.mp h with rfl | h
  · exact ⟨1, by decide, rfl⟩
  rcases List.mem_cons.mp h with rfl | h
  · exact ⟨2, by decide, rfl⟩
  rcases List.mem_cons.mp h with rfl | h
  · exact ⟨3, by decide, rfl⟩
  · cases h
theorem pw_mem {x : Wd} (h : Wok x) {p : Int × Int} (hp : p ∈ pw x) : p ∈ allPairs := by
  obtain ⟨a, b⟩ := p
  obtain ⟨h1, h2⟩ := pairs01 h _ hp
  dsimp only at h1 h2
  rcases h1 with rfl | rfl <;> rcases h2 with rfl | rfl <;> decide
def decL : List Wd → Nat → List (Int × Int)
  | [], _ => []
  | _ :: r, c => pr4 c :: decL r (c / 4)
def mays : List Wd → Nat → Bool
  | [], _ => true
  | x :: r, c => mayM x (pr4 c) && mays r (c / 4)
/-- the pairs kept by the loop -/
def kept : List Wd → Nat → List (Int × Int)
  | [], _ => []
  | x :: r, c => (if mayM x (pr4 c) = true then [pr4 c] else []) ++ kept r (c / 4)
theorem kept_len : ∀ (ws : List Wd) (c : Nat), (kept ws c).length ≤ ws.length
  | [], _ => Nat.le_refl _
  | x :: r, c => by
    have := kept_len r (c / 4)
    unfold kept
    rw [List.length_append, List.length_cons]
    split
    · show 1 + _ ≤ _; omega
    · show 0 + _ ≤ _; omega
theorem kept_all : ∀ (ws : List Wd) (c : Nat), ((kept ws c).length = ws.length ↔ mays ws c = true) ∧ (mays ws c = true → kept ws c = decL ws c)
  | [], _ => ⟨⟨fun _ => rfl, fun _ => rfl⟩, fun _ => rfl⟩
  | x :: r, c => by
    obtain ⟨h1, h2⟩ := kept_all r (c / 4)
    have hl := kept_len r (c / 4)
    unfold kept mays decL
    cases hm : mayM x (pr4 c) with
    | true =>
      rw [if_pos rfl, Bool.true_and]
      refine ⟨⟨fun e => h1.mp ?_, fun e => ?_⟩, fun e => by rw [h2 e]; rfl⟩
      · simp only [List.length_append, List.length_cons, List.length_nil] at e
        omega
      · have := h1.mpr e
        simp only [List.length_append, List.length_cons, List.length_nil]
        omega
    | false =>
      rw [if_neg (by decide), Bool.false_and]
      refine ⟨⟨fun e => ?_, fun e => (by cases e)⟩, fun e => (by cases e)⟩
      rw [List.length_append, List.length_cons] at e
      have : ([] : List (Int × Int)).length = 0 := rfl
      omega
def inA {α : Type} : List α → List (List α) → Prop
  | [], [] => True
  | p :: c, l :: ls => p ∈ l ∧ inA c ls
  | _, _ => False
theorem mem_fold {α : Type} : ∀ (ls : List (List α)) (acc : List (List α)) (c : List α), c ∈ ls.foldl stepC acc ↔ ∃ a ∈ acc, ∃ t, inA t ls ∧ c = a ++ t
  | [], acc, c => by
    constructor
    · intro h
      exact ⟨c, h, [], trivial, (List.append_nil c).symm⟩
    · rintro ⟨a, ha, t, ht, rfl⟩
      cases t with
      | nil => rw [List.append_nil]; exact ha
      | cons p t => exact ht.elim
  | l :: ls, acc, c => by
    rw [List.foldl_cons, mem_fold ls (stepC acc l) c]
    constructor
    · rintro ⟨a, ha, t, ht, rfl⟩
      obtain ⟨a0, h0, ha⟩ := List.mem_flatMap.mp ha
      obtain ⟨o, ho, rfl⟩ := List.mem_map.mp ha
      exact ⟨a0, h0, o :: t, ⟨ho, ht⟩, by rw [List.append_assoc]; rfl⟩
    · rintro ⟨a, ha, t, ht, rfl⟩
      cases t with
      | nil => exact ht.elim
      | cons p t => exact ⟨a ++ [p], List.mem_flatMap.mpr ⟨a, ha, List.mem_map.mpr ⟨p, ht.1, rfl⟩⟩, t, ht.2, by rw [List.append_assoc]; rfl⟩
theorem mem_chs {α : Type} (ls : List (List α)) (c : List α) : c ∈ chs ls ↔ inA c ls := by
  unfold chs
  rw [mem_fold]
  constructor
  · rintro ⟨a, ha, t, ht, rfl⟩
    rw [List.mem_singleton.mp ha, List.nil_append]
    exact ht
  · intro h
    exact ⟨[], List.mem_singleton.mpr rfl, c, h, rfl⟩
theorem inA_code : ∀ (ws : List Wd), (∀ x ∈ ws, Wok x) → ∀ c, inA c (ws.map pw) ↔ ∃ k : Nat, k < 4 ^ ws.length ∧ mays ws k = true ∧ decL ws k = c
  | [], _, c => by
    constructor
    · intro h
      cases c with
      | nil => exact ⟨0, by decide, rfl, rfl⟩
      | cons p c => exact h.elim
    · rintro ⟨k, _, _, rfl⟩
      trivial
  | x :: r, hw, c => by
    have ih := inA_code r fun y hy => hw y (List.mem_cons_of_mem _ hy)
    have hx := hw x (List.mem_cons_self ..)
    constructor
    · intro h
      cases c with
      | nil => exact h.elim
      | cons p c =>
        obtain ⟨k, hk, hm, rfl⟩ := (ih c).mp h.2
        obtain ⟨v, hv, rfl⟩ := pr4_all (pw_mem hx h.1)
        have e1 : pr4 (4 * k + v) = pr4 v := by
          unfold pr4
          rw [show (4 * k + v) % 4 = v % 4 by omega, show (4 * k + v) % 2 = v % 2 by omega]
        have e2 : (4 * k + v) / 4 = k := by omega
        refine ⟨4 * k + v, ?_, ?_, ?_⟩
        · rw [List.length_cons, Nat.pow_succ]
          omega
        · show (mayM x (pr4 (4 * k + v)) && mays r ((4 * k + v) / 4)) = true
          rw [e1, e2, hm, may_pw hx (pr4_mem v), decide_eq_true h.1]
          rfl
        · show pr4 (4 * k + v) :: decL r ((4 * k + v) / 4) = _
          rw [e1, e2]
    · rintro ⟨k, hk, hm, rfl⟩
      have hm : (mayM x (pr4 k) && mays r (k / 4)) = true := hm
      rw [Bool.and_eq_true] at hm
      refine ⟨?_, (ih _).mpr ⟨k / 4, ?_, hm.2, rfl⟩⟩
      · have := hm.1
        rw [may_pw hx (pr4_mem k)] at this
        exact of_decide_eq_true this
      · rw [List.length_cons, Nat.pow_succ] at hk
        omega
/-- what the law asks of one choice -/
def testL (bs : List Bool) (F L : Int) (c : List (Int × Int)) : Bool := !decide (gateM bs (c.map (·.1)) = F) && (decide (F = L) || decide (gateM bs (c.map (·.2)) = F))
theorem test_eq {bs : List Bool} {F L : Int} {c : List (Int × Int)} (hF : F = 0 ∨ F = 1) (hL : L = 0 ∨ L = 1) : testL bs F L c = testC bs F L c := by
  unfold testL testC
  have h1 := gate01 bs (c.map (·.1))
  generalize gateM bs (c.map (·.1)) = x at *
  generalize gateM bs (c.map (·.2)) = y
  rcases hF with rfl | rfl <;> rcases hL with rfl | rfl <;> rcases h1 with rfl | rfl <;> simp
def froL (bs : List Bool) (ws : List Wd) (F L : Int) (n : Nat) : Bool := (List.range n).any fun k => mays ws k && testL bs F L (decL ws k)
theorem froL_eq {bs : List Bool} {ws : List Wd} {F L : Int} (hw : ∀ x ∈ ws, Wok x) (hF : F = 0 ∨ F = 1) (hL : L = 0 ∨ L = 1) : froL bs ws F L (4 ^ ws.length) = froM bs ws F L := by
  rw [Bool.eq_iff_iff]
  unfold froL froM
  rw [List.any_eq_true, List.any_eq_true]
  constructor
  · rintro ⟨k, hk, h⟩
    rw [Bool.and_eq_true] at h
    refine ⟨decL ws k, (mem_chs _ _).mpr ((inA_code ws hw _).mpr ⟨k, List.mem_range.mp hk, h.1, rfl⟩), ?_⟩
    rw [← test_eq hF hL]
    exact h.2
  · rintro ⟨c, hc, h⟩
    obtain ⟨k, hk, hm, rfl⟩ := (inA_code ws hw _).mp ((mem_chs _ _).mp hc)
    refine ⟨k, List.mem_range.mpr hk, ?_⟩
    rw [hm, test_eq hF hL, h]
    rfl
theorem froL_succ (bs : List Bool) (ws : List Wd) (F L : Int) (n : Nat) : froL bs ws F L (n + 1) = (froL bs ws F L n || (mays ws n && testL bs F L (decL ws n))) := by
  unfold froL
  rw [List.range_succ, List.any_append, List.any_cons, List.any_nil, Bool.or_false]

end
end Gk

set_option Elab.async false
set_option linter.all false
set_option maxRecDepth 100000
set_option maxHeartbeats 1000000
namespace Gk
open PySem PySem.Spec PyProof.Rows L2
/-! ### slices and sums of tuples: what is told stands in a heap that has grown -/
theorem cut_all {xs : List V} {lo hi : Option Int} (h : HT.sIx xs.length 0 lo = 0 ∧ HT.sIx xs.length xs.length hi = xs.length) : cutV xs lo hi = xs := by
  unfold cutV
  rw [h.1, h.2, List.drop_zero, Nat.sub_zero, List.take_length]
theorem same_refl {H : Hp} : Same H H := fun _ _ e => e
theorem slA {K : PySem.W.Frag} {a : Addr} {xs : List V} {lo hi : Option Int} {H : Hp} {Q : VK} (h : H a = some (.tup xs)) (q : ∀ p H', Same H H' → H' p = some (.tup (cutV xs lo hi)) → Q (.ref p) H') : rSlA K (.ref a) lo hi H Q :=
  ⟨a, xs, rfl, SqT.of h, fun w => q a H same_refl (by rw [cut_all w]; exact h), fun _ p np => q p _ (same_upd np) upd_same⟩
theorem slAn {K : PySem.W.Frag} {a : Addr} {xs : List V} {lo : Option Int} {H : Hp} {Q : VK} {σ : L2.St} (h : H a = some (.tup xs)) (q : ∀ p H', Same H H' → H' p = some (.tup (cutV xs lo none)) → Q (.ref p) H') : tNoPart σ H (fun u H3 => rSlA K (.ref a) lo u H3 Q) := slA h q
theorem catA {K : PySem.W.Frag} {a b : Addr} {xs ys : List V} {H : Hp} {Q : VK} (ha : H a = some (.tup xs)) (hb : H b = some (.tup ys)) (hl : xs.length + ys.length ≤ sizeLine) (q : ∀ p H', Same H H' → H' p = some (.tup (xs ++ ys)) → Q (.ref p) H') : rCatA K (.ref a) (.ref b) H Q :=
  ⟨a, b, xs, ys, rfl, rfl, SqT.of ha, SqT.of hb, hl, fun e => q b H same_refl (by rw [e]; exact hb), fun _ e => q a H same_refl (by rw [e, List.append_nil]; exact ha), fun _ _ p np => q p _ (same_upd np) upd_same⟩
theorem cut_to {xs : List V} {k : Nat} : cutV xs none (some (k : Int)) = xs.take k := by
  unfold cutV
  rw [HT.sIx_none, HT.sIx_nat, List.drop_zero, Nat.sub_zero]
  apply List.ext_getElem?
  intro i
  rw [List.getElem?_take, List.getElem?_take]
  by_cases h : i < k
  · rw [if_pos h]
    by_cases h2 : i < xs.length
    · rw [if_pos (by omega)]
    · rw [List.getElem?_eq_none (by omega)]
      split <;> rfl
  · rw [if_neg h, if_neg (by omega)]
theorem cut_from {xs : List V} {k : Nat} : cutV xs (some (k : Int)) none = xs.drop k := by
  unfold cutV
  rw [HT.sIx_none, HT.sIx_nat]
  by_cases h : k ≤ xs.length
  · rw [Nat.min_eq_left h]
    exact List.take_of_length_le (by rw [List.length_drop]; exact Nat.le_refl _)
  · rw [Nat.min_eq_right (by omega), Nat.sub_self, List.take_zero, List.drop_eq_nil_of_le (by omega)]
theorem TkAll.take {H : Hp} : ∀ {xs : List V} {ds : List PyData} (k : Nat), TkAll H xs ds → TkAll H (xs.take k) (ds.take k)
  | _, _, 0, _ => by rw [List.take_zero, List.take_zero]; exact .nil
  | _, _, _ + 1, .nil => .nil
  | _, _, k + 1, .cons a t => .cons a (t.take k)
theorem TkAll.drop {H : Hp} : ∀ {xs : List V} {ds : List PyData} (k : Nat), TkAll H xs ds → TkAll H (xs.drop k) (ds.drop k)
  | _, _, 0, t => t
  | _, _, _ + 1, .nil => .nil
  | _, _, k + 1, .cons _ t => t.drop k
theorem set_put {α : Type} {l : List α} {i : Nat} {x : α} (h : i < l.length) : (l.take i ++ [x]) ++ l.drop (i + 1) = l.set i x := by
  rw [List.set_eq_take_append_cons_drop, if_pos h, List.append_assoc]
  rfl
def rJoinK (K : PySem.W.Frag) : V → List V → Hp → VK → Prop := fun x xs H Q => ∃ a p, ∃ ys : List Str, x = .str a ∧ xs = [.ref p] ∧ (SqL K H p (ys.map V.str) ∨ SqT K H p (ys.map V.str)) ∧ (ys.map (·.length)).sum + ys.length * a.length ≤ 16777216 ∧ Q (.str (Txt.join a ys)) H

section
variable {P : Program} {w : World} {K : PySem.W.Frag} {mg : Str → Option Value} {base : Heap}
def sp_may (K : PySem.W.Frag) : Sp := fun vs H Q _ => ∃ (wa pa : Addr) (x : Wd) (p : Int × Int), vs = [.ref wa, .ref pa] ∧ H wa = some (.tup [.int x.1, .int x.2.1, .bl x.2.2]) ∧ H pa = some (.tup [.int p.1, .int p.2]) ∧ ∀ H', Same H H' → Q (.bl (mayM x p)) H'
theorem ok_may (T : Tx K mg) : FnOk P w K mg base CX0 1 T.f_may T.fd_may ["_law_word_here", "_law_pair"] (sp_may K) := by
  refine T.F_may.ok sc_may (fun vs H Q E h => ?_) (fun cdv A outer s H vs Q E hr h => ?_)
  · obtain ⟨wa, pa, x, p, rfl, _⟩ := h
    rfl
  · obtain ⟨wa, pa, ⟨f, l, c⟩, ⟨p, r⟩, rfl, hw, hp, q⟩ := h
    dsimp only at hw hp
    refine ⟨_, (pss_cons (ps_asg (pv 0) (pg_tup rfl (pgs_cons (pg_name (i := 2) sc_may.nd rfl (by first | exact .inl rfl | exact .inr rfl)) (pgs_cons (pg_name (i := 3) sc_may.nd rfl (by first | exact .inl rfl | exact .inr rfl)) (pgs_cons (pg_name (i := 4) sc_may.nd rfl (by first | exact .inl rfl | exact .inr rfl)) pgs_nil))))) (pss_one (ps_ret (pe_or (pv 4) (pe_one (pe_cmpR (op_inT (units65 hr)) (pv 1) (pe_tup (pa_cons (pe_tup (pa_cons (pv 2) (pa_cons (pv 2) pa_nil))) (pa_cons (pe_tup (pa_cons (pv 2) (pa_cons (pv 3) pa_nil))) (pa_cons (pe_tup (pa_cons (pv 3) (pa_cons (pv 3) pa_nil))) pa_nil)))) rfl)))))), ?_⟩
    refine ⟨.ref wa, rfl, wa, _, rfl, SqT.of hw, rfl, _, _, rfl, _, _, rfl, _, _, rfl, rfl, ?_⟩
    refine ⟨.bl c, rfl, _, rfl, ?_⟩
    cases c with
    | true => exact iteT (q H same_refl)
    | false =>
      refine iteF ?_
      refine ⟨.ref pa, rfl, .int f, rfl, .int f, rfl, sl2, fun p1 n1 => ⟨.int f, rfl, .int l, rfl, sl2, fun p2 n2 => ⟨.int l, rfl, .int l, rfl, sl2, fun p3 n3 => ⟨sl3, fun p4 n4 => ?_⟩⟩⟩⟩
      have s4 := same_upd (o := HO.tup [V.ref p1, V.ref p2, V.ref p3]) n4
      have s3 := same_upd (o := HO.tup [V.int l, V.int l]) n3
      have s2 := same_upd (o := HO.tup [V.int f, V.int l]) n2
      have s1 := same_upd (o := HO.tup [V.int f, V.int f]) n1
      have sA := ((s1.trans s2).trans s3).trans s4
      refine ⟨prD (p, r), [prD (f, f), prD (f, l), prD (l, l)], .tup (SqT.of (sA _ _ hp)) (.cons (.int _) (.cons (.int _) .nil)), .tup (SqT.of upd_same) (.cons (.tup (SqT.of ((s2.trans s3).trans s4 _ _ upd_same)) (.cons (.int _) (.cons (.int _) .nil))) (.cons (.tup (SqT.of (s3.trans s4 _ _ upd_same)) (.cons (.int _) (.cons (.int _) .nil))) (.cons (.tup (SqT.of (s4 _ _ upd_same)) (.cons (.int _) (.cons (.int _) .nil))) .nil))), rfl, rfl, ?_⟩
      exact q _ sA
theorem kept_snoc (x : Wd) : ∀ (ws : List Wd) (c : Nat), kept (ws ++ [x]) c = kept ws c ++ (if mayM x (pr4 (c / 4 ^ ws.length)) = true then [pr4 (c / 4 ^ ws.length)] else [])
  | [], c => by
    show (if mayM x (pr4 c) = true then [pr4 c] else []) ++ [] = [] ++ _
    rw [List.append_nil, List.nil_append, List.length_nil, Nat.pow_zero, Nat.div_one]
  | y :: r, c => by
    show (if mayM y (pr4 c) = true then [pr4 c] else []) ++ kept (r ++ [x]) (c / 4) = _
    rw [kept_snoc x r (c / 4), List.length_cons, Nat.pow_succ, Nat.mul_comm (4 ^ r.length) 4, ← Nat.div_div_eq_div_mul, ← List.append_assoc]
    rfl
theorem kept_take {ws : List Wd} {j : Nat} {x : Wd} (h : ws[j]? = some x) (c : Nat) : kept (ws.take (j + 1)) c = kept (ws.take j) c ++ (if mayM x (pr4 (c / 4 ^ j)) = true then [pr4 (c / 4 ^ j)] else []) := by
  have hj := (List.getElem?_eq_some_iff.mp h).1
  rw [List.take_add_one, h]
  show kept (ws.take j ++ [x]) c = _
  rw [kept_snoc, List.length_take, Nat.min_eq_left (by omega)]
theorem pr_at {H : Hp} {xs : List V} {ps : List (Int × Int)} (t : TkAll H xs (ps.map prD)) {j : Nat} {v : V} (h : xs[j]? = some v) : ∃ (p : Int × Int) (a : Addr), ps[j]? = some p ∧ v = .ref a ∧ H a = some (.tup [.int p.1, .int p.2]) := by
  obtain ⟨p, hp, tp⟩ := t.at h
  obtain ⟨a, rfl, ha⟩ := pr_inv tp
  exact ⟨p, a, hp, rfl, ha⟩
def sp_word (K : PySem.W.Frag) : Sp := fun vs H Q _ => ∃ (bs : List Bool) (la : Addr) (xs : List V) (ws : List Wd), vs = [.str (tabOf bs), .ref la] ∧ H la = some (.lst xs) ∧ TkAll H xs (ws.map wD) ∧ (∀ x ∈ ws, Wok x) ∧ bs.length = 2 ^ ws.length ∧ 1 ≤ ws.length ∧ ws.length ≤ 3 ∧ ∀ r H', Same H H' → H' r = some (.tup [.int (gateM bs (ws.map (·.1))), .int (gateM bs (ws.map (·.2.1))), .bl (froM bs ws (gateM bs (ws.map (·.1))) (gateM bs (ws.map (·.2.1))))]) → Q (.ref r) H'
theorem ok_word (T : Tx K mg) : FnOk P w K mg base CX0 2 T.f_word T.fd_word ["_law_table_here", "_law_words_here"] (sp_word K) := by
  refine T.F_word.ok sc_word (fun vs H Q E h => ?_) (fun cdv A outer s H vs Q E hr h => ?_)
  · obtain ⟨bs, la, xs, ws, rfl, _⟩ := h
    rfl
  · obtain ⟨bs, la, xs, ws, rfl, hla, tws, ok, hb, h1', h3, q⟩ := h
    refine ⟨_, (pss_cons (ps_set (i := 2) sc_word.nd rfl (by first | exact .inl rfl | exact .inr rfl) (pe_call (ok_worth T) (hr.mono (by decide)) (by rfl) T.g_worth T.F_worth.kp T.b_worth .nil pass0 (pa_cons (pv 0) (pa_cons (pe_lc (own := [("_law_word_here", 8)]) (by rfl) sc_word.nd (pi_list (pv 1)) (blkOk_by (own := [("_law_word_here", 8)]) (N := ["_law_table_here", "_law_words_here", "_law_first", "_law_last", "_law_fro", "_law_code", "_law_rest", "_law_pairs", "_law_word_here", "_law_pair", "_law_one", "_law_other"]) (sc := defScope s_word) (by decide +kernel)) (fun _ _ _ _ _ => (pg_name (i := 8) sc_word.nd rfl (by first | exact .inl rfl | exact .inr rfl))) (fun _ _ _ _ _ => pts_nil) (fun _ _ _ _ _ => (pe_ix (show IxR _ (rIxT K) from ix_tup) (pv 8) pe_int (fun _ _ => rfl)))) pa_nil)))) (pss_cons (ps_set (i := 3) sc_word.nd rfl (by first | exact .inl rfl | exact .inr rfl) (pe_call (ok_worth T) (hr.mono (by decide)) (by rfl) T.g_worth T.F_worth.kp T.b_worth .nil pass0 (pa_cons (pv 0) (pa_cons (pe_lc (own := [("_law_word_here", 8)]) (by rfl) sc_word.nd (pi_list (pv 1)) (blkOk_by (own := [("_law_word_here", 8)]) (N := ["_law_table_here", "_law_words_here", "_law_first", "_law_last", "_law_fro", "_law_code", "_law_rest", "_law_pairs", "_law_word_here", "_law_pair", "_law_one", "_law_other"]) (sc := defScope s_word) (by decide +kernel)) (fun _ _ _ _ _ => (pg_name (i := 8) sc_word.nd rfl (by first | exact .inl rfl | exact .inr rfl))) (fun _ _ _ _ _ => pts_nil) (fun _ _ _ _ _ => (pe_ix (show IxR _ (rIxT K) from ix_tup) (pv 8) pe_int (fun _ _ => rfl)))) pa_nil)))) (pss_cons (ps_set (i := 4) sc_word.nd rfl (by first | exact .inl rfl | exact .inr rfl) pe_bl) (pss_cons (ps_for PassesOwn.never rfl (pi_range1 (by rfl) T.m_range (pa_cons (pe_ix ix_list (pe_lst (pa_cons pe_int (pa_cons pe_int (pa_cons pe_int pa_nil)))) (pe_op op_sub (pe_callB call_len_seq (by rfl) T.m_len PySem.boot_len (pa_cons (pv 1) pa_nil)) pe_int) (fun _ _ => rfl)) pa_nil)) (pg_name (i := 5) sc_word.nd rfl (by first | exact .inl rfl | exact .inr rfl)) (pss_cons (ps_set (i := 6) sc_word.nd rfl (by first | exact .inl rfl | exact .inr rfl) (pv 5)) (pss_cons (ps_set (i := 7) sc_word.nd rfl (by first | exact .inl rfl | exact .inr rfl) (pe_lst pa_nil)) (pss_cons (ps_for PassesOwn.never rfl (pi_list (pv 1)) (pg_name (i := 8) sc_word.nd rfl (by first | exact .inl rfl | exact .inr rfl)) (pss_cons (ps_set (i := 9) sc_word.nd rfl (by first | exact .inl rfl | exact .inr rfl) (pe_tup (pa_cons (pe_op op_fdiv (pe_op op_mod (pv 6) pe_int) pe_int) (pa_cons (pe_op op_mod (pv 6) pe_int) pa_nil)))) (pss_cons (ps_set (i := 6) sc_word.nd rfl (by first | exact .inl rfl | exact .inr rfl) (pe_op op_fdiv (pv 6) pe_int)) (pss_one (ps_if (pt_val (pe_call (ok_may T) (hr.mono (by decide)) (by rfl) T.g_may T.F_may.kp T.b_may .nil pass0 (pa_cons (pv 8) (pa_cons (pv 9) pa_nil)))) (pss_one (ps_expr (pe_bm PySem.F.plainAttrs_list PySem.F.slot_list_append PySem.F.type_list_append mt_append (pv 7) (pa_cons (pv 9) pa_nil)))) pss_nil))))) (pss_one (ps_if (pt_cmpR op_eq (pe_callB call_len_seq (by rfl) T.m_len PySem.boot_len (pa_cons (pv 7) pa_nil)) (pe_callB call_len_seq (by rfl) T.m_len PySem.boot_len (pa_cons (pv 1) pa_nil)) (nomark _)) (pss_cons (ps_set (i := 10) sc_word.nd rfl (by first | exact .inl rfl | exact .inr rfl) (pe_call (ok_worth T) (hr.mono (by decide)) (by rfl) T.g_worth T.F_worth.kp T.b_worth .nil pass0 (pa_cons (pv 0) (pa_cons (pe_lc (own := [("_law_pair", 9)]) (by rfl) sc_word.nd (pi_list (pv 7)) (blkOk_by (own := [("_law_pair", 9)]) (N := ["_law_table_here", "_law_words_here", "_law_first", "_law_last", "_law_fro", "_law_code", "_law_rest", "_law_pairs", "_law_word_here", "_law_pair", "_law_one", "_law_other"]) (sc := defScope s_word) (by decide +kernel)) (fun _ _ _ _ _ => (pg_name (i := 9) sc_word.nd rfl (by first | exact .inl rfl | exact .inr rfl))) (fun _ _ _ _ _ => pts_nil) (fun _ _ _ _ _ => (pe_ix (show IxR _ (rIxT K) from ix_tup) (pv 9) pe_int (fun _ _ => rfl)))) pa_nil)))) (pss_cons (ps_set (i := 11) sc_word.nd rfl (by first | exact .inl rfl | exact .inr rfl) (pe_call (ok_worth T) (hr.mono (by decide)) (by rfl) T.g_worth T.F_worth.kp T.b_worth .nil pass0 (pa_cons (pv 0) (pa_cons (pe_lc (own := [("_law_pair", 9)]) (by rfl) sc_word.nd (pi_list (pv 7)) (blkOk_by (own := [("_law_pair", 9)]) (N := ["_law_table_here", "_law_words_here", "_law_first", "_law_last", "_law_fro", "_law_code", "_law_rest", "_law_pairs", "_law_word_here", "_law_pair", "_law_one", "_law_other"]) (sc := defScope s_word) (by decide +kernel)) (fun _ _ _ _ _ => (pg_name (i := 9) sc_word.nd rfl (by first | exact .inl rfl | exact .inr rfl))) (fun _ _ _ _ _ => pts_nil) (fun _ _ _ _ _ => (pe_ix (show IxR _ (rIxT K) from ix_tup) (pv 9) pe_int (fun _ _ => rfl)))) pa_nil)))) (pss_one (ps_set (i := 4) sc_word.nd rfl (by first | exact .inl rfl | exact .inr rfl) (pe_cut (pe_or (pv 4) (pe_one (pe_and (pe_cmpR op_ne (pv 10) (pv 2) (nomark _)) (pe_one (pe_or (pe_cmpR op_eq (pv 2) (pv 3) (nomark _)) (pe_one (pe_cmpR op_eq (pv 11) (pv 2) (nomark _))))))))))))) pss_nil)))))) (pss_one (ps_ret (pe_tup (pa_cons (pv 2) (pa_cons (pv 3) (pa_cons (pv 4) pa_nil)))))))))), ?_⟩
    have lx : xs.length = ws.length := by rw [tws.length, List.length_map]
    refine ⟨.str (tabOf bs), rfl, .ref la, rfl, la, rfl, ⟨_, SqL.of hla⟩, fun D nD => ?_⟩
    refine lc_list (K := K) (a := la) (xs := xs) (fun j H' => Same H (hd1 D H') ∧ H' D = some (.lst (((ws.map (·.1)).take j).map V.int))) ⟨hd1_of (same_upd nD) nD, upd_same⟩ (fun j H' _ hP => SqL.of (hd1_le _ _ (hP.1 _ _ hla))) ?_ ?_
    · rintro j v H1 hv ⟨s1, h1⟩
      obtain ⟨x, a, hx, rfl, ha⟩ := words_at tws hv
      refine ⟨rfl, .ref a, rfl, a, _, 0, .int x.1, rfl, rfl, SqT.of (hd1_le _ _ (s1 _ _ ha)), rfl, _, h1, ?_, s1.trans hd1_upd, ?_⟩
      · rw [List.length_map, List.length_take, List.length_map]
        exact Nat.lt_of_lt_of_le (show min j ws.length < 64 by omega) (by decide)
      · rw [upd_same, List.take_add_one, List.getElem?_map, hx, List.map_append]
        rfl
    rintro H1 ⟨s1, h1⟩
    have s01 : Same H H1 := fun b o e => hd1_le _ _ (s1 _ _ e)
    rw [lx, List.take_of_length_le (by rw [List.length_map]; exact Nat.le_refl _)] at h1
    refine ⟨bs, D, _, rfl, SqL.of h1, fun u hu => ?_, by rw [List.length_map]; exact hb, by rw [List.length_map]; exact h3, ?_⟩
    · obtain ⟨x, hx, rfl⟩ := List.mem_map.mp hu
      exact (ok x hx).1
    refine ⟨.str (tabOf bs), rfl, .ref la, rfl, la, rfl, ⟨_, SqL.of (s01 _ _ hla)⟩, fun D2 nD2 => ?_⟩
    refine lc_list (K := K) (a := la) (xs := xs) (fun j H' => Same H1 (hd1 D2 H') ∧ H' D2 = some (.lst (((ws.map (·.2.1)).take j).map V.int))) ⟨hd1_of (same_upd nD2) nD2, upd_same⟩ (fun j H' _ hP => SqL.of (hd1_le _ _ (hP.1 _ _ (s01 _ _ hla)))) ?_ ?_
    · rintro j v H2 hv ⟨s2, h2⟩
      obtain ⟨x, a, hx, rfl, ha⟩ := words_at tws hv
      refine ⟨rfl, .ref a, rfl, a, _, 1, .int x.2.1, rfl, rfl, SqT.of (hd1_le _ _ (s2 _ _ (s01 _ _ ha))), rfl, _, h2, ?_, s2.trans hd1_upd, ?_⟩
      · rw [List.length_map, List.length_take, List.length_map]
        exact Nat.lt_of_lt_of_le (show min j ws.length < 64 by omega) (by decide)
      · rw [upd_same, List.take_add_one, List.getElem?_map, hx, List.map_append]
        rfl
    rintro H2 ⟨s2, h2⟩
    have s12 : Same H1 H2 := fun b o e => hd1_le _ _ (s2 _ _ e)
    rw [lx, List.take_of_length_le (by rw [List.length_map]; exact Nat.le_refl _)] at h2
    refine ⟨bs, D2, _, rfl, SqL.of h2, fun u hu => ?_, by rw [List.length_map]; exact hb, by rw [List.length_map]; exact h3, ?_⟩
    · obtain ⟨x, hx, rfl⟩ := List.mem_map.mp hu
      exact (ok x hx).2
    have sA := s01.trans s12
    have F01 := gate01 bs (ws.map (·.1))
    have L01 := gate01 bs (ws.map (·.2.1))
    revert q
    generalize gateM bs (ws.map (·.1)) = F at F01 ⊢
    generalize gateM bs (ws.map (·.2.1)) = L at L01 ⊢
    intro q
    obtain ⟨N, hN, a2⟩ : ∃ N : Nat, 4 ^ ws.length = N ∧ atI [V.int 4, V.int 16, V.int 64] ((xs.length : Int) - 1) = some (.int (N : Int)) := by
      rw [lx]
      have : ws.length = 1 ∨ ws.length = 2 ∨ ws.length = 3 := by omega
      rcases this with h | h | h <;> rw [h]
      · exact ⟨4, rfl, rfl⟩
      · exact ⟨16, rfl, rfl⟩
      · exact ⟨64, rfl, rfl⟩
    have N64 : N ≤ 64 := by
      rw [← hN]
      have : ws.length = 1 ∨ ws.length = 2 ∨ ws.length = 3 := by omega
      rcases this with h | h | h <;> rw [h] <;> decide
    refine ⟨sl3, fun p5 n5 => ?_⟩
    have s5 := same_upd (o := HO.lst [V.int 4, V.int 16, V.int 64]) n5
    refine ⟨.ref la, rfl, la, _, rfl, .inl (SqL.of (s5 _ _ (sA _ _ hla))), _, _, rfl, rfl, p5, _, _, _, rfl, rfl, SqL.of upd_same, a2, N, rfl, by omega, by omega, ?_⟩
    refine for_range (lo := 0) (n := (N : Int).toNat) (fun i σ H' => ∃ y5 y6 y7 y8 y9 y10 y11, σ = [some (.str (tabOf bs)), some (.ref la), some (.int F), some (.int L), some (.bl (froL bs ws F L i)), y5, y6, y7, y8, y9, y10, y11] ∧ Same H H')
      ⟨_, _, _, _, _, _, _, rfl, sA.trans s5⟩ ?_ ?_
    · rintro i σ H3 hi ⟨y5, y6, y7, y8, y9, y10, y11, rfl, s3⟩
      have hi' : i < N := by simpa using hi
      refine ⟨.int (0 + (i : Int)), rfl, Nat.zero_le _, fun R nR => ?_⟩
      have hla3 := s3 _ _ hla
      have e0 : V.int (0 + (i : Int)) = V.int ((i / 4 ^ 0 : Nat) : Int) := by
        congr 1
        rw [Nat.pow_zero, Nat.div_one]
        omega
      refine ⟨.ref la, rfl, la, rfl, ⟨_, SqL.of (same_upd nR _ _ hla3)⟩, ?_⟩
      refine for_list (K := K) (a := la) (xs := xs) (fun j σ H' => ∃ y8 y9, σ = [some (.str (tabOf bs)), some (.ref la), some (.int F), some (.int L), some (.bl (froL bs ws F L i)), some (.int (0 + (i : Int))), some (.int ((i / 4 ^ j : Nat) : Int)), some (.ref R), y8, y9, y10, y11] ∧ Same H3 (hd1 R H') ∧ ∃ acc, H' R = some (.lst acc) ∧ TkAll (hd1 R H') acc ((kept (ws.take j) i).map prD))
        ⟨_, _, by rw [← e0]; rfl, hd1_of (same_upd nR) nR, [], upd_same, .nil⟩ (fun j σ H' _ ⟨_, _, _, hP, _⟩ => SqL.of (hd1_le _ _ (hP _ _ hla3))) ?_ ?_
      · rintro j v σ H4 hv ⟨y8', y9', rfl, s4, acc, hR, ta⟩
        obtain ⟨x, a, hx, rfl, ha⟩ := words_at tws hv
        have s34 : Same H3 H4 := fun b o e => hd1_le _ _ (s4 _ _ e)
        have e1 : V.int (((i / 4 ^ j : Nat) : Int) % 4 / 2) = V.int (pr4 (i / 4 ^ j)).1 := by
          congr 1
        have e2 : V.int (((i / 4 ^ j : Nat) : Int) % 2) = V.int (pr4 (i / 4 ^ j)).2 := by
          congr 1
        have e3 : V.int (((i / 4 ^ j : Nat) : Int) / 4) = V.int ((i / 4 ^ (j + 1) : Nat) : Int) := by
          congr 1
          rw [Nat.pow_succ, ← Nat.div_div_eq_div_mul]
          omega
        refine ⟨.int ((i / 4 ^ j : Nat) : Int), rfl, _, _, rfl, rfl, (show (0 : Int) < 4 by decide), _, _, rfl, rfl, ⟨by decide, by decide⟩, .int ((i / 4 ^ j : Nat) : Int), rfl, _, _, rfl, rfl, (show (0 : Int) < 2 by decide), sl2, fun pa npa => ?_⟩
        show tSeq _ _ _ _ (upd H4 pa (.tup [V.int (((i / 4 ^ j : Nat) : Int) % 4 / 2), V.int (((i / 4 ^ j : Nat) : Int) % 2)]))
        rw [e1, e2]
        have s5 := same_upd (o := HO.tup [V.int (pr4 (i / 4 ^ j)).1, V.int (pr4 (i / 4 ^ j)).2]) npa
        refine ⟨.int ((i / 4 ^ j : Nat) : Int), rfl, _, _, rfl, rfl, ⟨by decide, by decide⟩, ?_⟩
        refine ⟨.ref a, rfl, .ref pa, rfl, a, pa, x, pr4 (i / 4 ^ j), rfl, s5 _ _ (s34 _ _ (s3 _ _ ha)), upd_same, fun H5 s6 => ⟨_, rfl, ?_⟩⟩
        have s46 := s5.trans s6
        have hR5 := s46 _ _ hR
        have sh : Same (hd1 R H4) (hd1 R H5) := hd1_same s46
        have nRp : pa ≠ R := (ne_of_none hR npa).symm
        have hpa5 := s6 _ _ (show (upd H4 pa (.tup [V.int (pr4 (i / 4 ^ j)).1, V.int (pr4 (i / 4 ^ j)).2])) pa = _ from upd_same)
        refine ite2 (fun z => ?_) (fun z => ?_)
        · refine ⟨.ref R, rfl, .inl ⟨rfl, _, SqL.of hR5⟩, .ref pa, rfl, R, _, _, rfl, rfl, hR5, ?_, ?_⟩
          · have := ta.length
            rw [List.length_map] at this
            have := kept_len (ws.take j) i
            rw [List.length_take] at this
            exact Nat.lt_of_lt_of_le (show acc.length < 64 by omega) (by decide)
          · refine ⟨some (.ref a), some (.ref pa), ?_, (s4.trans sh).trans hd1_upd, acc ++ [.ref pa], upd_same, ?_⟩
            · show [_, _, _, _, _, _, some (V.int (((i / 4 ^ j : Nat) : Int) / 4)), _, _, _, _, _] = _
              rw [e3]
            · rw [kept_take hx, if_pos z, List.map_append]
              refine ((ta.same sh).same hd1_upd).append (.cons (.tup (a := pa) ?_ (.cons (.int _) (.cons (.int _) .nil))) .nil)
              rw [hd1_at nRp, upd_ne nRp]
              exact hpa5
        · refine ⟨some (.ref a), some (.ref pa), ?_, s4.trans sh, acc, hR5, ?_⟩
          · show [_, _, _, _, _, _, some (V.int (((i / 4 ^ j : Nat) : Int) / 4)), _, _, _, _, _] = _
            rw [e3]
          · rw [kept_take hx, if_neg z, List.append_nil]
            exact ta.same sh
      · rintro σ H4 ⟨y8', y9', rfl, s4, acc, hR, ta⟩
        rw [lx, List.take_length] at ta
        have s34 : Same H3 H4 := fun b o e => hd1_le _ _ (s4 _ _ e)
        have la' : acc.length = (kept ws i).length := by rw [ta.length, List.length_map]
        have hla4 := s34 _ _ hla3
        refine ⟨.ref R, rfl, R, _, rfl, .inl (SqL.of hR), .ref la, rfl, la, _, rfl, .inl (SqL.of hla4), rfl, _, rfl, ite2 (fun z => ?_) (fun z => ?_)⟩
        · have hk : (kept ws i).length = ws.length := by
            have := V.int.inj (of_decide_eq_true z)
            omega
          have hm := (kept_all ws i).1.mp hk
          have hd := (kept_all ws i).2 hm
          rw [hd] at ta
          have dl : (decL ws i).length = ws.length := by rw [← hd]; exact hk
          have al : acc.length = (decL ws i).length := by rw [la', hk, dl]
          have tp : TkAll H4 acc ((decL ws i).map prD) := ta.same hd1_le
          have p01 : ∀ p ∈ decL ws i, (p.1 = 0 ∨ p.1 = 1) ∧ (p.2 = 0 ∨ p.2 = 1) := by
            have : ∀ (ws : List Wd) (c : Nat), ∀ p ∈ decL ws c, (p.1 = 0 ∨ p.1 = 1) ∧ (p.2 = 0 ∨ p.2 = 1) := by
              intro ws
              induction ws with
              | nil => intro c p hp; cases hp
              | cons x r ih =>
                intro c p hp
                rcases List.mem_cons.mp hp with rfl | hp
                · have := pr4_mem c
                  revert this
                  generalize pr4 c = p
                  intro h
                  rcases List.mem_cons.mp h with rfl | h
                  · decide
                  rcases List.mem_cons.mp h with rfl | h
                  · decide
                  rcases List.mem_cons.mp h with rfl | h
                  · decide
                  rcases List.mem_cons.mp h with rfl | h
                  · decide
                  · cases h
                · exact ih _ p hp
            exact this ws i
          refine ⟨.str (tabOf bs), rfl, .ref R, rfl, R, rfl, ⟨_, SqL.of hR⟩, fun E1 nE1 => ?_⟩
          refine lc_list (K := K) (a := R) (xs := acc) (fun j H' => Same H4 (hd1 E1 H') ∧ H' E1 = some (.lst ((((decL ws i).map (·.1)).take j).map V.int))) ⟨hd1_of (same_upd nE1) nE1, upd_same⟩ (fun j H' _ hP => SqL.of (hd1_le _ _ (hP.1 _ _ hR))) ?_ ?_
          · rintro j v H5 hv ⟨s5, h5⟩
            obtain ⟨p, a, hp, rfl, ha⟩ := pr_at tp hv
            refine ⟨rfl, .ref a, rfl, a, _, 0, .int p.1, rfl, rfl, SqT.of (hd1_le _ _ (s5 _ _ ha)), rfl, _, h5, ?_, s5.trans hd1_upd, ?_⟩
            · rw [List.length_map, List.length_take, List.length_map]
              exact Nat.lt_of_lt_of_le (show min j (decL ws i).length < 64 by omega) (by decide)
            · rw [upd_same, List.take_add_one, List.getElem?_map, hp, List.map_append]
              rfl
          rintro H5 ⟨s5, h5⟩
          have s45 : Same H4 H5 := fun b o e => hd1_le _ _ (s5 _ _ e)
          rw [al, List.take_of_length_le (by rw [List.length_map]; exact Nat.le_refl _)] at h5
          refine ⟨bs, E1, _, rfl, SqL.of h5, fun u hu => ?_, by rw [List.length_map, dl]; exact hb, by rw [List.length_map, dl]; exact h3, ?_⟩
          · obtain ⟨p, hp, rfl⟩ := List.mem_map.mp hu
            exact (p01 p hp).1
          refine ⟨.str (tabOf bs), rfl, .ref R, rfl, R, rfl, ⟨_, SqL.of (s45 _ _ hR)⟩, fun E2 nE2 => ?_⟩
          refine lc_list (K := K) (a := R) (xs := acc) (fun j H' => Same H5 (hd1 E2 H') ∧ H' E2 = some (.lst ((((decL ws i).map (·.2)).take j).map V.int))) ⟨hd1_of (same_upd nE2) nE2, upd_same⟩ (fun j H' _ hP => SqL.of (hd1_le _ _ (hP.1 _ _ (s45 _ _ hR)))) ?_ ?_
          · rintro j v H6 hv ⟨s6, h6⟩
            obtain ⟨p, a, hp, rfl, ha⟩ := pr_at tp hv
            refine ⟨rfl, .ref a, rfl, a, _, 1, .int p.2, rfl, rfl, SqT.of (hd1_le _ _ (s6 _ _ (s45 _ _ ha))), rfl, _, h6, ?_, s6.trans hd1_upd, ?_⟩
            · rw [List.length_map, List.length_take, List.length_map]
              exact Nat.lt_of_lt_of_le (show min j (decL ws i).length < 64 by omega) (by decide)
            · rw [upd_same, List.take_add_one, List.getElem?_map, hp, List.map_append]
              rfl
          rintro H6 ⟨s6, h6⟩
          have s56 : Same H5 H6 := fun b o e => hd1_le _ _ (s6 _ _ e)
          rw [al, List.take_of_length_le (by rw [List.length_map]; exact Nat.le_refl _)] at h6
          refine ⟨bs, E2, _, rfl, SqL.of h6, fun u hu => ?_, by rw [List.length_map, dl]; exact hb, by rw [List.length_map, dl]; exact h3, ?_⟩
          · obtain ⟨p, hp, rfl⟩ := List.mem_map.mp hu
            exact (p01 p hp).2
          have fs : froL bs ws F L (i + 1) = (froL bs ws F L i || testL bs F L (decL ws i)) := by
            rw [froL_succ, hm]
            rfl
          refine ⟨fun v H' => v = .bl (froL bs ws F L (i + 1)) ∧ H' = H6, ?_, ?_⟩
          · refine ⟨.bl (froL bs ws F L i), rfl, _, rfl, ite2 (fun z1 => ⟨by rw [fs, z1]; rfl, rfl⟩) (fun z1 => ?_)⟩
            have z1' : froL bs ws F L i = false := by
              cases zz : froL bs ws F L i with
              | true => exact absurd zz z1
              | false => rfl
            rw [z1', Bool.false_or] at fs
            unfold testL at fs
            refine ⟨.int _, rfl, .int F, rfl, rfl, _, rfl, ?_⟩
            rw [evI]
            revert fs
            generalize gateM bs (List.map (fun x => x.fst) (decL ws i)) = u
            generalize gateM bs (List.map (fun x => x.snd) (decL ws i)) = v
            intro fs
            refine ite2 (fun z2 => ?_) (fun z2 => ?_)
            · rw [z2, Bool.true_and] at fs
              refine ⟨.int F, rfl, .int L, rfl, rfl, _, rfl, ?_⟩
              rw [evI]
              refine ite2 (fun z3 => ⟨by rw [fs, z3]; rfl, rfl⟩) (fun z3 => ⟨.int v, rfl, .int F, rfl, rfl, ?_, rfl⟩)
              have z3' : decide (F = L) = false := by
                cases zz : decide (F = L) with
                | true => exact absurd zz z3
                | false => rfl
              rw [z3', Bool.false_or] at fs
              rw [fs, evI]
            · have z2' : (!decide (u = F)) = false := by
                cases zz : (!decide (u = F)) with
                | true => exact absurd zz z2
                | false => rfl
              rw [z2', Bool.false_and] at fs
              exact ⟨by rw [fs], rfl⟩
          · rintro v H7 ⟨rfl, rfl⟩
            exact ⟨_, _, _, _, _, _, _, rfl, ((s3.trans s34).trans s45).trans s56⟩
        · have hm : mays ws i = false := by
            cases zz : mays ws i with
            | false => rfl
            | true =>
              refine absurd ?_ z
              have := (kept_all ws i).1.mpr zz
              exact decide_eq_true (by rw [la', this, lx])
          refine ⟨some (.int (0 + (i : Int))), some (.int ((i / 4 ^ xs.length : Nat) : Int)), some (.ref R), y8', y9', y10, y11, ?_, s3.trans s34⟩
          rw [froL_succ, hm, Bool.false_and, Bool.or_false]
    · rintro σ H3 ⟨y5, y6, y7, y8, y9, y10, y11, rfl, s3⟩
      refine ⟨.int F, rfl, .int L, rfl, .bl _, rfl, sl3, fun r nr => ?_⟩
      have e : froL bs ws F L (N : Int).toNat = froM bs ws F L := by
        rw [show (N : Int).toNat = 4 ^ ws.length by omega]
        exact froL_eq ok F01 L01
      rw [e]
      exact q r _ (s3.trans (same_upd nr)) upd_same

end
end Gk

set_option Elab.async false
set_option linter.all false
set_option maxRecDepth 100000
set_option maxHeartbeats 1000000
namespace Gk
open PySem PySem.Spec PyProof.Rows L2
section
variable {P : Program} {w : World} {K : PySem.W.Frag} {mg : Str → Option Value} {base : Heap}
def sp_words (K : PySem.W.Frag) : Sp := fun vs H Q _ => ∃ (nv cv : V) (m : Int) (gs : List Gt) (a b : List Int), vs = [nv, cv] ∧ Tk H nv (netD m gs) ∧ Tk H cv (chD a b) ∧ a.length = b.length ∧ Row01 a ∧ Row01 b ∧ a.length ≤ 16 ∧ gs.length ≤ 1000 ∧ NetOk a.length gs ∧
  ∀ r H', Same H H' → Tk H' (.ref r) (.tuple ((wordsM gs (w0M a b)).map wD)) → Q (.ref r) H'
theorem ok_words (T : Tx K mg) : FnOk P w K mg base CX0 3 T.f_words T.fd_words ["_law_net", "_law_change_here"] (sp_words K) := by
  refine T.F_words.ok sc_words (fun vs H Q E h => ?_) (fun cdv A outer s H vs Q E hr h => ?_)
  · obtain ⟨nv, cv, m, gs, a, b, rfl, _⟩ := h
    rfl
  · obtain ⟨nv, cv, m, gs, a, b, rfl, tn, tc, el, ha, hb, h16, h64, ok, q⟩ := h
    refine ⟨_, (pss_cons (ps_set (i := 2) sc_words.nd rfl (by first | exact .inl rfl | exact .inr rfl) (pe_lc (own := [("_law_one", 5), ("_law_other", 6)]) (by rfl) sc_words.nd (RZ.pi_zipA (by rfl) T.m_zip (pa_cons (pe_ix ix_tup (pv 1) pe_int (fun _ _ => rfl)) (pa_cons (pe_ix ix_tup (pv 1) pe_int (fun _ _ => rfl)) pa_nil))) (blkOk_by (own := [("_law_one", 5), ("_law_other", 6)]) (N := ["_law_net", "_law_change_here", "_law_found", "_law_table_here", "_law_ins", "_law_one", "_law_other", "_law_wire"]) (sc := defScope s_words) (by decide +kernel)) (fun _ _ _ _ _ => (show PG _ _ (gTup K 2 _) from pg_tup rfl (pgs_cons (pg_name (i := 5) sc_words.nd rfl (by first | exact .inl rfl | exact .inr rfl)) (pgs_cons (pg_name (i := 6) sc_words.nd rfl (by first | exact .inl rfl | exact .inr rfl)) pgs_nil)))) (fun _ _ _ _ _ => pts_nil) (fun _ _ _ _ _ => (pe_tup (pa_cons (pv 5) (pa_cons (pv 6) (pa_cons pe_bl pa_nil))))))) (pss_cons (ps_for PassesOwn.never rfl (pi_tup (pe_ix ix_tup (pv 0) pe_int (fun _ _ => rfl))) (pg_tup rfl (pgs_cons (pg_name (i := 3) sc_words.nd rfl (by first | exact .inl rfl | exact .inr rfl)) (pgs_cons (pg_name (i := 4) sc_words.nd rfl (by first | exact .inl rfl | exact .inr rfl)) pgs_nil))) (pss_one (ps_expr (pe_bm PySem.F.plainAttrs_list PySem.F.slot_list_append PySem.F.type_list_append mt_append (pv 2) (pa_cons (pe_call (ok_word T) (hr.mono (by decide)) (by rfl) T.g_word T.F_word.kp T.b_word .nil pass0 (pa_cons (pv 3) (pa_cons (pe_lc (own := [("_law_wire", 7)]) (by rfl) sc_words.nd (pi_tup (pv 4)) (blkOk_by (own := [("_law_wire", 7)]) (N := ["_law_net", "_law_change_here", "_law_found", "_law_table_here", "_law_ins", "_law_one", "_law_other", "_law_wire"]) (sc := defScope s_words) (by decide +kernel)) (fun _ _ _ _ _ => (pg_name (i := 7) sc_words.nd rfl (by first | exact .inl rfl | exact .inr rfl))) (fun _ _ _ _ _ => pts_nil) (fun _ _ _ _ _ => (pe_ix (show IxR _ (rIxL K) from ix_list) (pv 2) (pv 7) (fun _ _ => rfl)))) pa_nil))) pa_nil))))) (pss_one (ps_ret (pe_callTy call_tuple_of (by rfl) T.m_tuple (by decide +kernel) (pa_cons (pv 2) pa_nil)))))), ?_⟩
    obtain ⟨c, ra, rb, rfl, hc, hra, hrb⟩ := tc.ch_inv
    obtain ⟨n, g, xs, rfl, hn, hg, tg⟩ := tn.net_inv
    have w0len := w0_len el
    refine ⟨.ref c, rfl, c, _, 0, .ref ra, rfl, rfl, SqT.of hc, rfl, .ref c, rfl, c, _, 1, .ref rb, rfl, rfl, SqT.of hc, rfl, ra, rb, _, _, rfl, .inr ⟨SqT.of hra, SqT.of hrb, fun D nD => ?_⟩⟩
    refine lc_zipT (K := K) (a := ra) (b := rb) (xs := a.map V.int) (ys := b.map V.int) (by rw [List.length_map, List.length_map]; exact el)
      (fun i H' => Same H (hd1 D H') ∧ ∃ acc, H' D = some (.lst acc) ∧ TkAll (hd1 D H') acc (((w0M a b).take i).map wD)) ⟨hd1_of (same_upd nD) nD, [], upd_same, .nil⟩ (fun i H' _ hP => ⟨SqT.of (hd1_le _ _ (hP.1 _ _ hra)), SqT.of (hd1_le _ _ (hP.1 _ _ hrb))⟩) ?_ ?_
    · rintro i x y Tq H1 hx hy nT ⟨gr, acc, hD, ta⟩
      obtain ⟨p1, q1, rfl, rfl, hw⟩ := w0_get hx hy
      refine ⟨Tq, _, rfl, SqT.of upd_same, rfl, _, _, rfl, _, _, rfl, rfl, rfl, ?_⟩
      refine ⟨.int p1, rfl, .int q1, rfl, sl3, fun p np => ?_⟩
      have n1 : D ≠ Tq := ne_of_none hD nT
      have hD1 : (upd H1 Tq (.tup [.int p1, .int q1])) D = some (.lst acc) := by rw [upd_ne n1]; exact hD
      have hD2 : (upd (upd H1 Tq (.tup [.int p1, .int q1])) p (.tup [.int p1, .int q1, .bl false])) D = some (.lst acc) := by
        rw [upd_ne (ne_of_none hD1 np)]
        exact hD1
      have sD : Same (hd1 D H1) (hd1 D (upd (upd (upd H1 Tq (.tup [.int p1, .int q1])) p (.tup [.int p1, .int q1, .bl false])) D (.lst (acc ++ [.ref p])))) := ((hd1_same (same_upd nT)).trans (hd1_same (same_upd np))).trans hd1_upd
      refine ⟨acc, hD2, ?_, gr.trans sD, acc ++ [.ref p], upd_same, ?_⟩
      · have := ta.length
        rw [List.length_map, List.length_take] at this
        exact Nat.lt_of_lt_of_le (show acc.length < 64 by omega) (by decide)
      · rw [List.take_add_one, hw]
        show TkAll _ _ (((w0M a b).take i ++ [(p1, q1, false)]).map _)
        rw [List.map_append]
        have pD : p ≠ D := (ne_of_none hD1 np).symm
        refine (ta.same sD).append (.cons (.tup (a := p) ?_ (.cons (.int _) (.cons (.int _) (.cons (.bl _) .nil)))) .nil)
        rw [hd1_at pD, upd_ne pD, upd_same]
    · rintro H1 ⟨gr, acc, hD, ta⟩
      rw [List.length_map, List.take_of_length_le (by omega)] at ta
      refine ⟨.ref n, rfl, n, _, 1, .ref g, rfl, rfl, SqT.of (hd1_le _ _ (gr _ _ hn)), rfl, g, rfl, ⟨_, SqT.of (hd1_le _ _ (gr _ _ hg))⟩, ?_⟩
      refine for_tup (K := K) (a := g) (xs := xs) (fun i σ H' => ∃ y3 y4, σ = [some (.ref n), some (.ref c), some (.ref D), y3, y4, none, none, none] ∧ Same H (hd1 D H') ∧ ∃ acc, H' D = some (.lst acc) ∧ TkAll (hd1 D H') acc ((wordsM (gs.take i) (w0M a b)).map wD))
        ⟨_, _, rfl, gr, acc, hD, ta⟩ (fun i σ H' _ ⟨_, _, _, hP, _⟩ => SqT.of (hd1_le _ _ (hP _ _ hg))) ?_ ?_
      · rintro i v σ H2 hv ⟨y3, y4, rfl, s2, acc2, hD2, ta2⟩
        have s02 : Same H H2 := fun b o e => hd1_le _ _ (s2 _ _ e)
        obtain ⟨gt, hgt, tgt⟩ := tg.at hv
        obtain ⟨ga, ii, rfl, hga, hii⟩ := (tgt.same s02).gt_inv
        obtain ⟨ok1, ok2, ok3, ok4⟩ := ok i gt hgt
        refine ⟨ga, _, rfl, SqT.of hga, rfl, _, _, rfl, _, _, rfl, rfl, ?_⟩
        have wlen : (wordsM (gs.take i) (w0M a b)).length = a.length + i := by
          rw [wordsM_len, w0len, List.length_take]
          have := (List.getElem?_eq_some_iff.mp hgt).1
          omega
        have alen : acc2.length = a.length + i := by
          have := ta2.length
          rw [List.length_map] at this
          omega
        have hi64 := (List.getElem?_eq_some_iff.mp hgt).1
        refine ⟨.ref D, rfl, .inl ⟨rfl, _, SqL.of hD2⟩, .str (tabOf gt.1), rfl, .ref ii, rfl, ii, rfl, ⟨_, SqT.of hii⟩, fun L nL => ?_⟩
        refine lc_tup (K := K) (a := ii) (xs := (gt.2.map Int.ofNat).map V.int) (fun j H' => Same H2 (hd1 L H') ∧ ∃ zs, H' L = some (.lst zs) ∧ TkAll (hd1 D H2) zs ((pick (wordsM (gs.take i) (w0M a b)) (gt.2.take j)).map wD)) ⟨hd1_of (same_upd nL) nL, [], upd_same, .nil⟩ (fun j H' _ hP => SqT.of (hd1_le _ _ (hP.1 _ _ hii))) ?_ ?_
        · rintro j x H3 hx ⟨s3, zs, hL, tz⟩
          rw [List.getElem?_map, List.getElem?_map] at hx
          cases hj : gt.2[j]? with
          | none => rw [hj] at hx; cases hx
          | some k =>
            rw [hj] at hx
            cases Option.some.inj hx
            have hk := ok4 k (List.mem_of_getElem? hj)
            have hwk : (wordsM (gs.take i) (w0M a b))[k]? = some ((wordsM (gs.take i) (w0M a b)).getD k (0, 0, false)) := by
              rw [List.getD_eq_getElem?_getD, List.getElem?_eq_getElem (by omega)]
              rfl
            obtain ⟨u, hu, tu⟩ := ta2.at' hwk
            have hjl := (List.getElem?_eq_some_iff.mp hj).1
            refine ⟨rfl, .ref D, rfl, .int (Int.ofNat k), rfl, D, _, Int.ofNat k, u, rfl, rfl, SqL.of (hd1_le _ _ (s3 _ _ hD2)), atI_nat hu, zs, hL, ?_, s3.trans hd1_upd, zs ++ [u], upd_same, ?_⟩
            · have := tz.length
              rw [List.length_map] at this
              unfold pick at this
              rw [List.length_map, List.length_take] at this
              exact Nat.lt_of_lt_of_le (show zs.length < 64 by omega) (by decide)
            · rw [List.take_add_one, hj]
              unfold pick
              rw [List.map_append, List.map_append]
              exact tz.append (.cons tu .nil)
        · rintro H3 ⟨s3, zs, hL, tz⟩
          rw [List.length_map, List.length_map, List.take_length] at tz
          have s23 : Same H2 H3 := fun b o e => hd1_le _ _ (s3 _ _ e)
          have pl : (pick (wordsM (gs.take i) (w0M a b)) gt.2).length = gt.2.length := by unfold pick; rw [List.length_map]
          refine ⟨gt.1, L, zs, _, rfl, hL, (tz.same hd1_le).same s23, fun x hx => ?_, by rw [pl]; exact ok1, by rw [pl]; exact ok2, by rw [pl]; exact ok3, fun r H4 s4 hr4 => ?_⟩
          · obtain ⟨k, hk, rfl⟩ := List.mem_map.mp hx
            refine wordsM_ok (gs.take i) (w0M a b) (w0_ok ha hb) _ ?_
            rw [List.getD_eq_getElem?_getD, List.getElem?_eq_getElem (by rw [wlen]; exact ok4 k hk)]
            exact List.getElem_mem _
          · have s24 := s23.trans s4
            have hD4 : H4 D = some (.lst acc2) := s24 _ _ hD2
            refine ⟨D, acc2, _, rfl, rfl, hD4, Nat.lt_of_lt_of_le (show acc2.length < 2000 by omega) (by decide), ?_⟩
            have sD := (hd1_same (p := D) s24).trans (hd1_upd (o := HO.lst (acc2 ++ [V.ref r])))
            refine ⟨_, _, rfl, s2.trans sD, _, upd_same, ?_⟩
            rw [wordsM_take hgt]
            unfold stepW
            rw [List.map_append]
            have rD : r ≠ D := (ne_of hD4 hr4 (by intro z; cases z)).symm
            refine (ta2.same sD).append (.cons (.tup (a := r) ?_ (.cons (.int _) (.cons (.int _) (.cons (.bl _) .nil)))) .nil)
            rw [hd1_at rD, upd_ne rD]
            exact hr4
      · rintro σ H2 ⟨y3, y4, rfl, s2, acc2, hD2, ta2⟩
        have xl : xs.length = gs.length := by rw [tg.length, List.length_map]
        rw [xl, List.take_length] at ta2
        refine ⟨.ref D, rfl, D, acc2, rfl, .inl ⟨SqL.of hD2, fun l nl => ?_⟩⟩
        exact q l _ (Same.trans (fun b o e => hd1_le _ _ (s2 _ _ e)) (same_upd nl)) (.tup upd_same ((ta2.same hd1_le).same (same_upd nl)))

end
end Gk

set_option Elab.async false
set_option linter.all false
set_option maxRecDepth 100000
set_option maxHeartbeats 1000000
set_option pp.maxSteps 900
/-! ### for (..), v in d.items(), d's keys tuples -/
namespace ItT
open PySem PySem.Spec PyProof.Rows L2
section
variable {X : Cx} {pins : List (Addr × Obj)} {σ : L2.St} {H : Hp} {s : Shared} {d : Addr} {o : Obj}
theorem frzT2 {kvs : List (List Key × V)} (I : Inv X pins σ H s) (h : H d = some (.frz o (.dT kvs))) :
    (d == sysModules) = false ∧ s.heap.get? d = some o ∧ o.ExactDict ∧ ∃ (es : Array DictEntry) (ep : Nat), o.data = .dict es ep ∧ es.size = kvs.length ∧
      ∀ (i : Nat) (k : List Key) (v : V), kvs[i]? = some (k, v) → ∃ (en : DictEntry) (q : Addr), es[i]? = some en ∧ en.key = .ref q ∧ H q = some (.tup (k.map kV)) ∧ RelV v en.val := by
  obtain ⟨hd, z, hs, xs, pr, o', es, ep, ho, hx, hdt, he, _⟩ := I.hok d _ h
  rw [hd] at ho
  cases ho
  refine ⟨hs, hd, hx, es, ep, hdt, ?_, fun i k v e => ?_⟩
  · have l1 : es.size = xs.length := size_of_entries he
    have l2 : kvs.length = xs.length := Paired.length pr
    omega
  · obtain ⟨b, hb, e1, e2, e3⟩ := paired_get pr e
    have q := entry_at he i
    rw [hb] at q
    exact ⟨_, b.2.1, q, rfl, e2, e3⟩
end
/-- the pairs of the locked dict at d, each a new tuple -/
def ItiT (d : Addr) (o : Obj) (kvs : List (List Key × V)) : It :=
  ⟨fun i H => H d = some (.frz o (.dT kvs)) ∧ i < kvs.length, fun i H x H' => ∃ T k v q, kvs[i]? = some (k, v) ∧ x = .ref T ∧ H T = none ∧ H' = upd H T (.tup [.ref q, v]) ∧ H q = some (.tup (k.map kV)), fun i H => H d = some (.frz o (.dT kvs)) ∧ kvs.length ≤ i⟩
section
variable {P : Program} {w : World} {K : PySem.W.Frag} {d : Addr} {o : Obj} {es : Array DictEntry} {ep : Nat}
theorem turn_itemsT {kvs : List (List Key × V)} {elts : List Expr} {kk : Nat} {tpos : Pos} (it : Addr) (hod : o.data = .dict es ep) :
    Turn P w K (.Tuple elts kk tpos) (ItiT d o kvs) [it] it (fun i h => ∃ ok ov, IsItemIter h it d i kvs.length ep ok ov) where
  mem := by simp
  obj := fun i h st b hb => by
    have e : b = it := by simpa using hb
    subst e
    obtain ⟨ok, ov, e⟩ := st
    exact ⟨_, e, fun v z => nomatch z⟩
  keep := fun i h h' st k => let ⟨ok, ov, e⟩ := st; ⟨ok, ov, k it (by simp) _ e⟩
  item := by
    intro X hP hw hK hc i pins s σ H E I hf st hg
    subst hP hw hK
    obtain ⟨hd, hi⟩ := hg
    obtain ⟨hs, hgd, hx, es', ep', hdt, hsz, ent⟩ := frzT2 I hd
    obtain ⟨rfl, rfl⟩ := dict_ep hod hdt
    obtain ⟨⟨k, v⟩, hkv⟩ : ∃ p, kvs[i]? = some p := ⟨kvs[i], List.getElem?_eq_getElem hi⟩
    obtain ⟨en, q, hen, hkey, hq, rv⟩ := ent i k v hkv
    obtain ⟨ok, ov, he⟩ := st
    rw [← hsz] at he
    have hlt : it < s.heap.objs.size := Heap.lt_size he
    have hie : i < es'.size := by omega
    have een : es'[i] = en := by
      rw [Array.getElem?_eq_getElem hie] at hen
      exact Option.some.inj hen
    refine DT.nextI he ⟨o, hgd, hx, hdt⟩ hie fun h' ho hT hz hk => ?_
    rw [een] at ho hT
    refine ⟨_, rfl, wpAny_letOwnedTupleGo_items (s := { s with heap := h' }) ho fun h'' he' sb => ?_⟩
    have hT2 : h''.get? s.heap.objs.size = some { cls := .type "tuple", data := .seq #[en.key, en.val] } := (sb.2 _ (Nat.ne_of_gt hlt)).trans hT
    have new : ObjOk X.prog X.w (upd H s.heap.objs.size (.tup [.ref q, v])) h'' s.heap.objs.size (.tup [.ref q, v]) :=
      ⟨by show 2 ≤ sizeLine; decide, [en.key, en.val], .cons hkey (.cons rv .nil), ⟨_, hT2, rfl, _, rfl⟩⟩
    have I1 : Inv X pins σ (upd H s.heap.objs.size (.tup [.ref q, v])) { s with heap := h'' } :=
      I.turnedNew (t' := s.toks) (ch := [it]) (fun b ob hb e => (sb.2 b (by simpa using hb)).trans (hk b ob (by simpa using hb) e)) hf (Nat.le_refl _) new
    refine ⟨.ref s.heap.objs.size, _, I1, rfl, ⟨_, k, v, q, hkv, rfl, I.hok.fresh (Nat.le_refl _), rfl, hq⟩, ⟨en.key, en.val, ?_⟩, fun b hb => ?_⟩
    · rw [← hsz]; exact he'
    · have e : b = it := by simpa using hb
      rw [e, upd_ne (Nat.ne_of_lt hlt)]
      exact (hf it (by simp)).1
  done := by
    intro X hP hw hK hc i pins s σ H E I hf st hg
    subst hP hw hK
    obtain ⟨hd, hi⟩ := hg
    obtain ⟨f0, f1, f2, f3, f4, f5⟩ := hf it (by simp)
    obtain ⟨hs, hgd, hx, es', ep', hdt, hsz, ent⟩ := frzT2 I hd
    obtain ⟨rfl, rfl⟩ := dict_ep hod hdt
    obtain ⟨ok, ov, he⟩ := st
    rw [← hsz] at he
    exact DT.endI (I.ok.hd hc) he ⟨o, hgd, hx, hdt⟩ (by omega) fun h' eb => ⟨rfl, I.turned (t' := s.toks) (fun b o hb e => eb b o hb e) f0 f1 f3 f4 f5⟩
  self := fun A i s Q E st h => let ⟨_, _, e⟩ := st; PySem.W.kcp_self e h
end
/-- the dict is locked from here on -/
def iItemsT (td : TE) : TI := fun σ H R => td σ H fun x H1 => ∃ d kvs, x = .ref d ∧ H1 d = some (.dT kvs) ∧ ∀ o, R (ItiT d o kvs) (upd H1 d (.frz o (.dT kvs)))
theorem pi_itemsT {X : Cx} {e : Expr} {td : TE} {apos cpos : Pos} {elts : List Expr} {kk : Nat} {tpos : Pos} (he : PE X e td) (hbase : attributeBase e "items" X.env (eval e X.env) = eval e X.env := by rfl) (hline : (apos.endLine == cpos.line) = true := by rfl) :
    PI X (.Tuple elts kk tpos) (.Call (.Attribute e "items" apos) [] [] cpos) (iItemsT td) := by
  refine ⟨fun pins s σ H R I h => ?_⟩
  refine wpAny_Call_method (T := "dict") (id := "dict.items") hbase rfl hline F.plainAttrs_dict F.slot_dict_items F.type_dict_items (thn (he.run pins s σ H _ I h) fun u s1 ⟨x, H1, I0, rx, d, kvs, ex, hd0, q0⟩ => ?_)
  subst ex
  obtain rfl : u = Value.ref d := rx
  obtain ⟨o, I1⟩ := I0.lock hd0 trivial
  have q := q0 o
  have hd : upd H1 d (.frz o (.dT kvs)) d = some (.frz o (.dT kvs)) := upd_same
  obtain ⟨hs, hgd, hx, es, ep, hdt, hsz, ent⟩ := frzT2 I1 hd
  have raw : DT.Raw s1.heap d es ep := ⟨o, hgd, hx, hdt⟩
  refine ⟨raw.typeIs, ?_, ?_⟩
  · intro b e
    cases e
    exact ⟨o, hgd, hx.2.1⟩
  have I2 : Inv X pins σ (upd H1 d (.frz o (.dT kvs))) { s1 with heap := s1.heap.push { cls := .type "dict_items", data := .fields #[.ref d] } } := I1.kept (t' := s1.toks) fun b ob q => Heap.get?_push_of_some _ q
  have fin : wpAny (model X.prog X.w) X.A (pyIter (.ref s1.heap.objs.size)) (PIE X pins σ (.Tuple elts kk tpos) R) X.xe { s1 with heap := s1.heap.push { cls := .type "dict_items", data := .fields #[.ref d] } } := by
    refine DT.iterI (d := d) (es := es) (ep := ep) ⟨_, Heap.get?_push_size _ rfl, rfl, rfl⟩ (raw.push _) (pi_one (tk := s1.toks) I2 _ (turn_itemsT _ hdt) ⟨.none, .none, ?_⟩ q)
    rw [← hsz]
    exact Heap.get?_push_size _ rfl
  show wpAny _ _ (callWith cpos (.builtin "dict.items") [.ref d] [] []) _ X.xe s1
  exact method_meetsIn F.slot_dict_items F.entry_dict_items rfl (PySem.evalArgs_none ⟨rfl, raw.typeIs, F.args_dict_items_1 _, _, DT.meetsItems hs, raw, fin⟩)
theorem for_itemsT {d : Addr} {o : Obj} {kvs : List (List Key × V)} {g : TG} {tb : TS} {D : Ends} {σ : L2.St} {H : Hp} (Pv : Nat → L2.St → Hp → Prop) (h0 : Pv 0 σ H) (hl : ∀ i σ H, i ≤ kvs.length → Pv i σ H → H d = some (.frz o (.dT kvs)))
    (hs : ∀ (i : Nat) (k : List Key) (v : V) (q T : Addr) (σ : L2.St) (H : Hp), kvs[i]? = some (k, v) → H T = none → H q = some (.tup (k.map kV)) → Pv i σ H → g (.ref T) σ (upd H T (.tup [.ref q, v])) fun σ2 H2 => tb { D with nx := Pv (i + 1), ct := Pv (i + 1), bk := D.nx } σ2 H2) (hd : ∀ σ H, Pv kvs.length σ H → D.nx σ H) :
    ∃ W : Nat → Nat → L2.St → Hp → Prop, (∃ m, W 0 m σ H) ∧ ∀ i m σ H, W i m σ H →
      ((ItiT d o kvs).stop i H ∧ D.nx σ H) ∨ ((ItiT d o kvs).go i H ∧ ∃ N : L2.St → Hp → Prop, (∀ σ' H', N σ' H' → ∃ m', m' < m ∧ W (i + 1) m' σ' H') ∧ ∀ x H', (ItiT d o kvs).yld i H x H' → g x σ H' fun σ2 H2 => tb { D with nx := N, ct := N, bk := D.nx } σ2 H2) := by
  refine ⟨fun i m σ H => m = kvs.length - i ∧ i ≤ kvs.length ∧ Pv i σ H, ⟨kvs.length, rfl, Nat.zero_le _, h0⟩, ?_⟩
  rintro i m σ H ⟨rfl, hi, p⟩
  have q := hl i σ H hi p
  by_cases hlt : i < kvs.length
  · refine .inr ⟨⟨q, hlt⟩, Pv (i + 1), fun σ' H' p' => ⟨kvs.length - (i + 1), by omega, rfl, hlt, p'⟩, fun x H' y => ?_⟩
    obtain ⟨T, k, v, b, hkv, rfl, nT, rfl, hb⟩ := y
    exact hs i k v b T σ H hkv nT hb p
  · have e : i = kvs.length := by omega
    subst e
    exact .inl ⟨⟨q, Nat.le_refl _⟩, hd σ H p⟩
end ItT


set_option Elab.async false
set_option linter.all false
set_option maxRecDepth 100000
set_option maxHeartbeats 1000000
set_option pp.maxSteps 1200
set_option pp.deepTerms false
namespace Gk
open PySem PySem.Spec PyProof.Rows L2
section
variable {P : Program} {w : World} {K : PySem.W.Frag} {mg : Str → Option Value} {base : Heap}
/-! ### the first pairs that give what is wanted -/
theorem eqv_pr (p q : Int × Int) : PyData.eqv (prD p) (prD q) = decide (p = q) := by
  show ((p.1 == q.1) && ((p.2 == q.2) && true)) = _
  rw [Bool.and_true, Bool.eq_iff_iff, Bool.and_eq_true, decide_eq_true_iff, beq_iff_eq, beq_iff_eq]
  exact ⟨fun h => Prod.ext h.1 h.2, fun h => by rw [h]; exact ⟨rfl, rfl⟩⟩
theorem sh_pr (p : Int × Int) : SeqAt.shaped (prD p) = true := by
  unfold SeqAt.shaped prD
  rw [Bool.and_eq_true]
  refine ⟨?_, decide_eq_true ?_⟩
  · simp only [PyData.canLay0, PyData.canLayAll0, Bool.and_true]
  · simp only [PyData.depth, PyData.depthAll]
    decide
def prM (bs : List Bool) (c : List (Int × Int)) : Int × Int := (gateM bs (c.map (·.1)), gateM bs (c.map (·.2)))
def findM (bs : List Bool) (ws : List Wd) (p : Int × Int) : Option (List (Int × Int)) := (chs (ws.map pw)).find? fun c => decide (prM bs c = p)
def OptAt (H : Hp) (la : Addr) (ws : List Wd) : Prop := ∃ xs, H la = some (.lst xs) ∧ TkAll H xs (ws.map fun x => PyData.tuple ((pw x).map prD))
theorem OptAt.same {H H' : Hp} {la : Addr} {ws : List Wd} (h : OptAt H la ws) (s : Same H H') : OptAt H' la ws := by
  obtain ⟨xs, h1, h2⟩ := h
  exact ⟨xs, s _ _ h1, h2.same s⟩
theorem find_at {α : Type} {l : List α} {f : α → Bool} {c : α} {i : Nat} {x : α} (h : l.find? f = some c) (no : ∀ j y, j < i → l[j]? = some y → f y = false) (hx : l[i]? = some x) (e : f x = true) : x = c := by
  obtain ⟨h1, as, bs, h2, h3⟩ := List.find?_eq_some_iff_append.mp h
  subst h2
  rcases Nat.lt_trichotomy i as.length with z | z | z
  · rw [List.getElem?_append_left z] at hx
    have := h3 x (List.mem_of_getElem? hx)
    rw [e] at this
    cases this
  · subst z
    rw [List.getElem?_append_right (Nat.le_refl _), Nat.sub_self] at hx
    exact (Option.some.inj hx).symm
  · have := no as.length c z (by rw [List.getElem?_append_right (Nat.le_refl _), Nat.sub_self]; rfl)
    rw [this] at h1
    cases h1
def sp_pairs_for (K : PySem.W.Frag) : Sp := fun vs H Q _ => ∃ (bs : List Bool) (la wa : Addr) (ws : List Wd) (p : Int × Int) (c : List (Int × Int)), vs = [.str (tabOf bs), .ref la, .ref wa] ∧ OptAt H la ws ∧ H wa = some (.tup [.int p.1, .int p.2]) ∧ (∀ x ∈ ws, Wok x) ∧ bs.length = 2 ^ ws.length ∧ ws.length ≤ 3 ∧ findM bs ws p = some c ∧ ∀ r H', Same H H' → Tk H' (.ref r) (.tuple (c.map prD)) → Q (.ref r) H'
theorem ok_pairs_for (T : Tx K mg) : FnOk P w K mg base CX0 3 T.f_pairs_for T.fd_pairs_for ["table", "options", "wanted"] (sp_pairs_for K) := by
  refine T.F_pairs_for.ok sc_pairs_for (fun vs H Q E h => ?_) (fun cdv A outer s H vs Q E hr h => ?_)
  · obtain ⟨bs, la, wa, ws, p, c, rfl, _⟩ := h
    rfl
  · obtain ⟨bs, la, wa, ws, p, c0, rfl, ⟨acc, hla, ta⟩, hwa, ok, hb, h3, hf, q⟩ := h
    refine ⟨_, (pss_cons (ps_for PassesOwn.never rfl (pi_tup (pe_call (ok_choices_of T) (hr.mono (by decide)) (by rfl) T.g_choices_of T.F_choices_of.kp T.b_choices_of .nil pass0 (pa_cons (pv 1) pa_nil))) (pg_name (i := 3) sc_pairs_for.nd rfl (by first | exact .inl rfl | exact .inr rfl)) (pss_one (ps_if (pt_cmpR (op_eqD hr.units) (pe_call (ok_pair_by T) (hr.mono (by decide)) (by rfl) T.g_pair_by T.F_pair_by.kp T.b_pair_by .nil pass0 (pa_cons (pv 0) (pa_cons (pv 3) pa_nil))) (pv 2) (nomark _)) (pss_one (ps_ret (pv 3))) pss_nil))) (pss_one (ps_ret pe_non))), ?_⟩
    have ta' : TkAll H acc ((ws.map fun x => (pw x).map prD).map PyData.tuple) := by
      rw [List.map_map]
      exact ta
    refine ⟨.ref la, rfl, la, acc, _, rfl, hla, ta', .inl (by rw [List.length_map]; exact h3), fun o ho => ?_, fun r H2 s2 tr => ?_⟩
    · obtain ⟨x, _, rfl⟩ := List.mem_map.mp ho
      rw [List.length_map]
      have := pairs4 x
      omega
    have eC : chs (ws.map fun x => (pw x).map prD) = (chs (ws.map pw)).map (List.map prD) := by
      rw [← chs_map prD _ _ rfl, List.map_map]
      rfl
    rw [eC] at tr
    obtain ⟨r', cs, e, hr2, tcs⟩ := tr.tup_inv
    cases e
    have lcs : cs.length = (chs (ws.map pw)).length := by rw [tcs.length, List.length_map, List.length_map]
    refine ⟨r, rfl, ⟨_, SqT.of hr2⟩, for_tup (K := K) (a := r) (xs := cs) (fun i σ H' => ∃ y3, σ = [some (.str (tabOf bs)), some (.ref la), some (.ref wa), y3] ∧ Same H2 H' ∧ ∀ j c, j < i → (chs (ws.map pw))[j]? = some c → decide (prM bs c = p) = false) ⟨_, rfl, Same.refl _, fun j c hj => absurd hj (Nat.not_lt_zero _)⟩ (fun i σ H' _ ⟨_, _, z, _⟩ => SqT.of (z _ _ hr2)) ?_ ?_⟩
    · rintro i v σ H3 hv ⟨y3, rfl, s3, none_⟩
      obtain ⟨dx, hdx, tx⟩ := tcs.get hv
      obtain ⟨c, hc, rfl⟩ : ∃ c, (chs (ws.map pw))[i]? = some c ∧ dx = .tuple (c.map prD) := by
        rw [List.getElem?_map, List.getElem?_map] at hdx
        cases hz : (chs (ws.map pw))[i]? with
        | none => rw [hz] at hdx; cases hdx
        | some c => rw [hz] at hdx; exact ⟨c, rfl, (Option.some.inj hdx).symm⟩
      have hcm := List.mem_of_getElem? hc
      have c01 : ∀ p ∈ c, (p.1 = 0 ∨ p.1 = 1) ∧ (p.2 = 0 ∨ p.2 = 1) := fun p hp => by
        obtain ⟨l, hl, hpl⟩ := chs_mem _ c hcm p hp
        obtain ⟨x, hx, rfl⟩ := List.mem_map.mp hl
        exact pairs01 (ok x hx) p hpl
      have lc : c.length = ws.length := by rw [chs_width _ c hcm, List.length_map]
      obtain ⟨pa, zs, rfl, _⟩ := tx.tup_inv
      refine ⟨.str (tabOf bs), rfl, .ref pa, rfl, bs, pa, c, rfl, tx.same s3, c01, by rw [lc]; exact hb, by rw [lc]; exact h3, fun r5 H5 s35 h5 => ?_⟩
      have s25 := s3.trans s35
      refine ⟨.ref wa, rfl, prD (prM bs c), prD p, .tup (SqT.of h5) (.cons (.int _) (.cons (.int _) .nil)), .tup (SqT.of (s25 _ _ (s2 _ _ hwa))) (.cons (.int _) (.cons (.int _) .nil)), sh_pr _, sh_pr _, _, rfl, ?_⟩
      rw [eqv_pr]
      refine ite2 (fun e => ?_) (fun e => ?_)
      · have := find_at hf (fun j y hj hy => none_ j y hj hy) hc e
        subst this
        exact ⟨.ref pa, rfl, q pa H5 (s2.trans s25) (tx.same s25)⟩
      · refine ⟨_, rfl, s25, fun j c' hj hc' => ?_⟩
        by_cases hji : j < i
        · exact none_ j c' hji hc'
        · have : j = i := by omega
          subst this
          cases Option.some.inj (hc.symm.trans hc')
          exact Bool.eq_false_iff.mpr e
    · rintro σ H3 ⟨y3, rfl, s3, none_⟩
      exfalso
      obtain ⟨j, hj⟩ := List.getElem?_of_mem (List.mem_of_find?_eq_some hf)
      have hjl : j < cs.length := by rw [lcs]; exact (List.getElem?_eq_some_iff.mp hj).1
      have := none_ j c0 hjl hj
      rw [List.find?_some hf] at this
      cases this

end
end Gk


set_option Elab.async false
set_option linter.all false
set_option maxRecDepth 100000
set_option maxHeartbeats 1000000
set_option pp.maxSteps 1200
set_option pp.deepTerms false
namespace Gk
open PySem PySem.Spec PyProof.Rows L2
section
variable {P : Program} {w : World} {K : PySem.W.Frag} {mg : Str → Option Value} {base : Heap}
/-! ### what each place is to read -/
abbrev Wf := Nat → Option (Int × Int)
abbrev Ls := List ((Nat × Nat) × (Int × Int))
def putWf (f : Wf) (k : Nat) (p : Int × Int) : Wf := fun x => if x = k then some p else f x
def placeS (m g : Nat) (st : Wf × Ls) (e : Nat × Nat × (Int × Int)) : Wf × Ls := if e.2.1 < m then (st.1, st.2 ++ [((g, e.1), e.2.2)]) else (putWf st.1 e.2.1 e.2.2, st.2)
def zipE (ins : List Nat) (c : List (Int × Int)) : List (Nat × Nat × (Int × Int)) := (List.range ins.length).zip (ins.zip c)
def placesS (m g : Nat) (st : Wf × Ls) (ins : List Nat) (c : List (Int × Int)) (j : Nat) : Wf × Ls := ((zipE ins c).take j).foldl (placeS m g) st
theorem placesS_succ {m g : Nat} {st : Wf × Ls} {ins : List Nat} {c : List (Int × Int)} {j r : Nat} {p : Int × Int} (hr : ins[j]? = some r) (hp : c[j]? = some p) : placesS m g st ins c (j + 1) = placeS m g (placesS m g st ins c j) (j, r, p) := by
  unfold placesS
  have hj : j < ins.length := (List.getElem?_eq_some_iff.mp hr).1
  have : (zipE ins c)[j]? = some (j, r, p) := by
    unfold zipE
    rw [List.getElem?_zip_eq_some]
    refine ⟨by rw [List.getElem?_range hj], ?_⟩
    rw [List.getElem?_zip_eq_some]
    exact ⟨hr, hp⟩
  rw [List.take_add_one, this, List.foldl_append]
  rfl
def gateS (m : Nat) (gs : List Gt) (words : List Wd) (g : Nat) (st : Wf × Ls) : Option (Wf × Ls) :=
  match st.1 (m + g) with
  | none => some st
  | some p => match gs[g]? with
    | none => none
    | some gt => (findM gt.1 (pick words gt.2) p).map fun c => placesS m g st gt.2 c gt.2.length
/-- i gates looked at, from k downwards -/
def readN (m : Nat) (gs : List Gt) (words : List Wd) (k : Nat) (p : Int × Int) : Nat → Option (Wf × Ls)
  | 0 => some (fun x => if x = m + k then some p else none, [])
  | i + 1 => (readN m gs words k p i).bind (gateS m gs words (k - i))
theorem readN_pre {m : Nat} {gs : List Gt} {words : List Wd} {k : Nat} {p : Int × Int} : ∀ {n i : Nat}, i ≤ n → (readN m gs words k p n).isSome = true → (readN m gs words k p i).isSome = true := by
  intro n
  induction n with
  | zero =>
    intro i hi h
    have : i = 0 := by omega
    subst this
    exact h
  | succ n ih =>
    intro i hi h
    by_cases z : i = n + 1
    · subst z; exact h
    · refine ih (by omega) ?_
      unfold readN at h
      cases e : readN m gs words k p n with
      | none => rw [e] at h; cases h
      | some st => rfl
def OptsAt (H : Hp) (oa : Addr) (words : List Wd) (gs : List Gt) : Prop := ∃ os : List Addr, H oa = some (.lst (os.map V.ref)) ∧ os.length = gs.length ∧ ∀ (g : Nat) (o : Addr) (gt : Gt), os[g]? = some o → gs[g]? = some gt → OptAt H o (pick words gt.2)
theorem OptsAt.same {H H' : Hp} {oa : Addr} {words : List Wd} {gs : List Gt} (h : OptsAt H oa words gs) (s : Same H H') : OptsAt H' oa words gs := by
  obtain ⟨os, h1, h2, h3⟩ := h
  exact ⟨os, s _ _ h1, h2, fun g o gt e1 e2 => (h3 g o gt e1 e2).same s⟩
def PrAt (H : Hp) (v : V) (p : Int × Int) : Prop := ∃ a, v = .ref a ∧ H a = some (.tup [.int p.1, .int p.2])
theorem PrAt.keep {H H' : Hp} {v : V} {p : Int × Int} (h : PrAt H v p) (s : ∀ a xs, H a = some (.tup xs) → H' a = some (.tup xs)) : PrAt H' v p := by
  obtain ⟨a, e, h⟩ := h
  exact ⟨a, e, s _ _ h⟩
def kN (k : Nat) : Key := .inl (k : Int)
def kNN (g j : Nat) : List Key := [.inl (g : Int), .inl (j : Int)]
theorem kN_inj {a b : Nat} (h : kN a = kN b) : a = b := by
  have := Sum.inl.inj h
  omega
theorem kNN_inj {a b c d : Nat} (h : kNN a b = kNN c d) : a = c ∧ b = d := by
  unfold kNN at h
  simp only [List.cons.injEq, Sum.inl.injEq, and_true] at h
  omega
def WantAt (H : Hp) (M : Addr) (f : Wf) (n : Nat) : Prop := ∃ kvs : List (Key × V), H M = some (.dK kvs) ∧ kvs.length ≤ n ∧ ∀ k : Nat, match f k with
  | none => valV kvs (kN k) = none
  | some p => ∃ v, valV kvs (kN k) = some v ∧ PrAt H v p
def FoundAt (H : Hp) (F : Addr) (L : Ls) : Prop := ∃ kvs : List (List Key × V), H F = some (.dT kvs) ∧ Paired (fun (kv : List Key × V) (x : (Nat × Nat) × (Int × Int)) => kv.1 = kNN x.1.1 x.1.2 ∧ PrAt H kv.2 x.2) kvs L
theorem paired_app {α β : Type} {F : α → β → Prop} : ∀ {l₁ : List α} {l₂ : List β} {a : α} {b : β}, Paired F l₁ l₂ → F a b → Paired F (l₁ ++ [a]) (l₂ ++ [b])
  | _, _, _, _, .nil, h => .cons h .nil
  | _, _, _, _, .cons x t, h => .cons x (paired_app t h)
theorem found_new {H : Hp} {kvs : List (List Key × V)} {L : Ls} (h : Paired (fun (kv : List Key × V) (x : (Nat × Nat) × (Int × Int)) => kv.1 = kNN x.1.1 x.1.2 ∧ PrAt H kv.2 x.2) kvs L) {g j : Nat} (no : ∀ x ∈ L, x.1 ≠ (g, j)) : valV kvs (kNN g j) = none := by
  induction h with
  | nil => rfl
  | cons x t ih =>
    rename_i a b l1 l2
    rw [valV_neg]
    · exact ih fun y hy => no y (List.mem_cons_of_mem _ hy)
    · rw [x.1]
      intro e
      obtain ⟨e1, e2⟩ := kNN_inj e
      exact no b List.mem_cons_self (Prod.ext e1 e2)
theorem paired_keep {H H' : Hp} {kvs : List (List Key × V)} {L : Ls} (s : ∀ a xs, H a = some (.tup xs) → H' a = some (.tup xs)) (h : Paired (fun (kv : List Key × V) (x : (Nat × Nat) × (Int × Int)) => kv.1 = kNN x.1.1 x.1.2 ∧ PrAt H kv.2 x.2) kvs L) : Paired (fun (kv : List Key × V) (x : (Nat × Nat) × (Int × Int)) => kv.1 = kNN x.1.1 x.1.2 ∧ PrAt H' kv.2 x.2) kvs L := L2.Paired.mapP h fun _ _ z => ⟨z.1, z.2.keep s⟩
theorem WantAt.keep {H H' : Hp} {M : Addr} {f : Wf} {n : Nat} (h : WantAt H M f n) (hM : ∀ o, H M = some o → H' M = some o) (s : ∀ a xs, H a = some (.tup xs) → H' a = some (.tup xs)) : WantAt H' M f n := by
  obtain ⟨kvs, h1, h2, h3⟩ := h
  refine ⟨kvs, hM _ h1, h2, fun k => ?_⟩
  have := h3 k
  revert this
  cases f k with
  | none => exact id
  | some p => exact fun ⟨v, e, z⟩ => ⟨v, e, z.keep s⟩
theorem WantAt.mono {H : Hp} {M : Addr} {f : Wf} {n k : Nat} (h : WantAt H M f n) (le : n ≤ k) : WantAt H M f k := by
  obtain ⟨kvs, h1, h2, h3⟩ := h
  exact ⟨kvs, h1, Nat.le_trans h2 le, h3⟩
theorem FoundAt.keep {H H' : Hp} {F : Addr} {L : Ls} (h : FoundAt H F L) (hF : ∀ o, H F = some o → H' F = some o) (s : ∀ a xs, H a = some (.tup xs) → H' a = some (.tup xs)) : FoundAt H' F L := by
  obtain ⟨kvs, h1, h2⟩ := h
  exact ⟨kvs, hF _ h1, paired_keep s h2⟩
theorem WantAt.dget {H : Hp} {M : Addr} {f : Wf} {n : Nat} (h : WantAt H M f n) (k : Nat) : ∃ o, DGet H M (.int (k : Int)) o ∧ (match f k with
    | none => o = none
    | some p => ∃ v, o = some v ∧ PrAt H v p) := by
  obtain ⟨kvs, h1, h2, h3⟩ := h
  refine ⟨_, DGet.k (k := kN k) h1, ?_⟩
  have := h3 k
  revert this
  cases f k with
  | none => exact id
  | some p => exact id
theorem WantAt.put {H : Hp} {M : Addr} {f : Wf} {n : Nat} (h : WantAt H M f n) (nb : n < 10000) (k : Nat) {v : V} {p : Int × Int} (hv : PrAt H v p) : ∃ H', DPut H M (.int (k : Int)) v H' ∧ WantAt H' M (putWf f k p) (n + 1) ∧ ∃ o, H' = upd H M o ∧ ∃ kvs, o = .dK kvs := by
  obtain ⟨kvs, h1, h2, h3⟩ := h
  have ts : ∀ (kvs' : List (Key × V)) (a : Addr) (xs : List V), H a = some (.tup xs) → upd H M (.dK kvs') a = some (.tup xs) := fun kvs' a xs e => by
    rw [upd_ne (fun z => by rw [z, h1] at e; cases e)]
    exact e
  refine ⟨_, DPut.k (k := kN k) h1 (Nat.lt_of_lt_of_le (show _ < 10000 by omega) (by decide)), ⟨_, upd_same, Nat.le_trans (length_putK ..) (by omega), fun x => ?_⟩, _, rfl, _, rfl⟩
  rw [valV_put]
  unfold putWf
  by_cases z : x = k
  · subst z
    rw [if_pos rfl, if_pos rfl]
    exact ⟨v, rfl, hv.keep (ts _)⟩
  · rw [if_neg z, if_neg (fun e => z (kN_inj e))]
    have := h3 x
    revert this
    cases f x with
    | none => exact id
    | some p => exact fun ⟨v, e, y⟩ => ⟨v, e, y.keep (ts _)⟩
theorem FoundAt.put {H : Hp} {F : Addr} {L : Ls} (h : FoundAt H F L) (nb : L.length < 10000) {g j : Nat} (no : ∀ x ∈ L, x.1 ≠ (g, j)) {b : Addr} (hb : H b = some (.tup [.int (g : Nat), .int (j : Nat)])) {v : V} {p : Int × Int} (hv : PrAt H v p) : ∃ H', DPut H F (.ref b) v H' ∧ FoundAt H' F (L ++ [((g, j), p)]) ∧ ∃ o, H' = upd H F o ∧ ∃ kvs, o = .dT kvs := by
  obtain ⟨kvs, h1, h2⟩ := h
  have ts : ∀ (kvs' : List (List Key × V)) (a : Addr) (xs : List V), H a = some (.tup xs) → upd H F (.dT kvs') a = some (.tup xs) := fun kvs' a xs e => by
    rw [upd_ne (fun z => by rw [z, h1] at e; cases e)]
    exact e
  have len : kvs.length = L.length := Paired.length h2
  have new := found_new h2 no
  refine ⟨_, DPut.t (k := kNN g j) h1 hb (Nat.lt_of_lt_of_le (show _ < 10000 by omega) (by decide)), ⟨_, upd_same, ?_⟩, _, rfl, _, rfl⟩
  rw [putK_new v new]
  exact paired_app (paired_keep (ts _) h2) ⟨rfl, hv.keep (ts _)⟩
theorem placesS_all (m g : Nat) (st : Wf × Ls) (ins : List Nat) (c : List (Int × Int)) : placesS m g st ins c 0 = st := rfl
theorem for_rangeC {lo c : Int} {n : Nat} {g : TG} {tb : TS} {D : Ends} {σ : L2.St} {H : Hp} (Pv : Nat → L2.St → Hp → Prop) (h0 : Pv 0 σ H)
    (hs : ∀ (i : Nat) σ H, i < n → Pv i σ H → g (.int (lo + (i : Nat) * c)) σ H fun σ2 H2 => tb { D with nx := Pv (i + 1), ct := Pv (i + 1), bk := D.nx } σ2 H2) (hd : ∀ σ H, Pv n σ H → D.nx σ H) :
    ∃ W : Nat → Nat → L2.St → Hp → Prop, (∃ m, W 0 m σ H) ∧ ∀ i m σ H, W i m σ H →
      ((Itc lo c n).stop i H ∧ D.nx σ H) ∨ ((Itc lo c n).go i H ∧ ∃ N : L2.St → Hp → Prop, (∀ σ' H', N σ' H' → ∃ m', m' < m ∧ W (i + 1) m' σ' H') ∧ ∀ x H', (Itc lo c n).yld i H x H' → g x σ H' fun σ2 H2 => tb { D with nx := N, ct := N, bk := D.nx } σ2 H2) := by
  refine ⟨fun i m σ H => m = n - i ∧ i ≤ n ∧ Pv i σ H, ⟨n, by simp, Nat.zero_le _, h0⟩, ?_⟩
  rintro i m σ H ⟨rfl, hi, p⟩
  by_cases hlt : i < n
  · refine .inr ⟨hlt, Pv (i + 1), fun σ' H' p' => ⟨n - (i + 1), by omega, rfl, hlt, p'⟩, fun x H' y => ?_⟩
    obtain ⟨rfl, rfl⟩ := y
    exact hs i σ _ hlt p
  · have e : i = n := by omega
    subst e
    exact .inl ⟨Nat.le_refl _, hd σ H p⟩
theorem for_enumT {K : PySem.W.Frag} {a : Addr} {xs : List V} {g : TG} {tb : TS} {D : Ends} {σ : L2.St} {H : Hp} (Pv : Nat → L2.St → Hp → Prop) (h0 : Pv 0 σ H) (hl : ∀ i σ H, i ≤ xs.length → Pv i σ H → SqT K H a xs)
    (hs : ∀ (i : Nat) (x : V) (T : Addr) (σ : L2.St) (H : Hp), xs[i]? = some x → H T = none → Pv i σ H → g (.ref T) σ (upd H T (.tup [.int (i : Nat), x])) fun σ2 H2 => tb { D with nx := Pv (i + 1), ct := Pv (i + 1), bk := D.nx } σ2 H2) (hd : ∀ σ H, Pv xs.length σ H → D.nx σ H) :
    ∃ W : Nat → Nat → L2.St → Hp → Prop, (∃ m, W 0 m σ H) ∧ ∀ i m σ H, W i m σ H →
      ((IteT K a).stop i H ∧ D.nx σ H) ∨ ((IteT K a).go i H ∧ ∃ N : L2.St → Hp → Prop, (∀ σ' H', N σ' H' → ∃ m', m' < m ∧ W (i + 1) m' σ' H') ∧ ∀ x H', (IteT K a).yld i H x H' → g x σ H' fun σ2 H2 => tb { D with nx := N, ct := N, bk := D.nx } σ2 H2) := by
  refine ⟨fun i m σ H => m = xs.length - i ∧ i ≤ xs.length ∧ Pv i σ H, ⟨xs.length, rfl, Nat.zero_le _, h0⟩, ?_⟩
  rintro i m σ H ⟨rfl, hi, p⟩
  have q := hl i σ H hi p
  by_cases hlt : i < xs.length
  · have hx : xs[i]? = some xs[i] := List.getElem?_eq_getElem hlt
    refine .inr ⟨⟨xs, xs[i], q, hx⟩, Pv (i + 1), fun σ' H' p' => ⟨xs.length - (i + 1), by omega, rfl, hlt, p'⟩, fun x H' y => ?_⟩
    obtain ⟨T, x1, rfl, nT, rfl, e1⟩ := y
    exact hs i x1 T σ H (e1 xs q) nT p
  · have e : i = xs.length := by omega
    subst e
    exact .inl ⟨⟨xs, q, rfl⟩, hd σ H p⟩

def LsLow (L : Ls) (g j : Nat) : Prop := ∀ x ∈ L, g < x.1.1 ∨ (x.1.1 = g ∧ x.1.2 < j)
theorem LsLow.no {L : Ls} {g j : Nat} (h : LsLow L g j) : ∀ x ∈ L, x.1 ≠ (g, j) := fun x hx e => by
  rcases h x hx with z | ⟨_, z⟩ <;> rw [e] at z <;> exact absurd z (Nat.lt_irrefl _)
def sp_pairs_read (K : PySem.W.Frag) : Sp := fun vs H Q _ => ∃ (nv : V) (oa wa : Addr) (m k : Nat) (gs : List Gt) (words : List Wd) (p : Int × Int) (st : Wf × Ls), vs = [nv, .ref oa, .int (m + k : Nat), .ref wa] ∧ Tk H nv (netD m gs) ∧ NetOk m gs ∧ k < gs.length ∧ gs.length ≤ 64 ∧ OptsAt H oa words gs ∧ (∀ x ∈ words, Wok x) ∧ words.length = m + gs.length ∧ m ≤ 6 ∧ H wa = some (.tup [.int p.1, .int p.2]) ∧ readN m gs words k p (k + 1) = some st ∧
  ∀ F H', H F = none → Same H H' → FoundAt H' F st.2 → Q (.ref F) H'
theorem pick_len (words : List Wd) (ins : List Nat) : (pick words ins).length = ins.length := by unfold pick; rw [List.length_map]
theorem pick_ok {words : List Wd} (h : ∀ x ∈ words, Wok x) (ins : List Nat) : ∀ x ∈ pick words ins, Wok x := fun x hx => by
  unfold pick at hx
  obtain ⟨i, _, rfl⟩ := List.mem_map.mp hx
  rw [List.getD_eq_getElem?_getD]
  cases e : words[i]? with
  | none => exact ⟨.inl rfl, .inl rfl⟩
  | some y => exact h y (List.mem_of_getElem? e)
theorem ok_pairs_read (T : Tx K mg) : FnOk P w K mg base CX0 4 T.f_pairs_read T.fd_pairs_read ["net", "options", "wire", "wanted"] (sp_pairs_read K) := by
  refine T.F_pairs_read.ok sc_pairs_read (fun vs H Q E h => ?_) (fun cdv A outer s H vs Q E hr h => ?_)
  · obtain ⟨nv, oa, wa, m, k, gs, words, p, st, rfl, _⟩ := h
    rfl
  · obtain ⟨nv, oa, wa, m, k, gs, words, p, st, rfl, tn, okn, hk, g64, opts, wok, wlen, m6, hwa, hst, q⟩ := h
    refine ⟨_, (pss_cons (ps_asg (pv 0) (pg_tup rfl (pgs_cons (pg_name (i := 4) sc_pairs_read.nd rfl (by first | exact .inl rfl | exact .inr rfl)) (pgs_cons (pg_name (i := 5) sc_pairs_read.nd rfl (by first | exact .inl rfl | exact .inr rfl)) pgs_nil)))) (pss_cons (ps_set (i := 6) sc_pairs_read.nd rfl (by first | exact .inl rfl | exact .inr rfl) (pe_disp (pps_cons (pv 2) (pv 3) pps_nil) (by rfl) (by rfl) (fun z => by cases z) (by decide))) (pss_cons (ps_set (i := 7) sc_pairs_read.nd rfl (by first | exact .inl rfl | exact .inr rfl) pe_dnewT) (pss_cons (ps_for PassesOwn.never rfl (pi_range3 (by rfl) T.m_range (pa_cons (pe_op op_sub (pv 2) (pv 4)) (pa_cons (pe_un un_neg pe_int) (pa_cons (pe_un un_neg pe_int) pa_nil)))) (pg_name (i := 8) sc_pairs_read.nd rfl (by first | exact .inl rfl | exact .inr rfl)) (pss_cons (ps_if (pt_cmp (pc_dnotin (hu_of hr) (pe_op op_add (pv 4) (pv 8)) (pv 6))) (pss_one ps_continue) pss_nil) (pss_cons (ps_asg (pe_ix ix_tup (pv 5) (pv 8) (fun _ _ => rfl)) (pg_tup rfl (pgs_cons (pg_name (i := 9) sc_pairs_read.nd rfl (by first | exact .inl rfl | exact .inr rfl)) (pgs_cons (pg_name (i := 10) sc_pairs_read.nd rfl (by first | exact .inl rfl | exact .inr rfl)) pgs_nil)))) (pss_cons (ps_set (i := 11) sc_pairs_read.nd rfl (by first | exact .inl rfl | exact .inr rfl) (pe_call (ok_pairs_for T) (hr.mono (by decide)) (by rfl) T.g_pairs_for T.F_pairs_for.kp T.b_pairs_for .nil pass0 (pa_cons (pv 9) (pa_cons (pe_ix ix_list (pv 1) (pv 8) (fun _ _ => rfl)) (pa_cons (pe_dget (hu_of hr) (pv 6) (pe_op op_add (pv 4) (pv 8)) (fun _ _ => rfl)) pa_nil))))) (pss_one (ps_for PassesOwn.never rfl (pi_enumT (by rfl) T.m_enumerate (pa_cons (pv 10) pa_nil)) (pg_tup rfl (pgs_cons (pg_name (i := 12) sc_pairs_read.nd rfl (by first | exact .inl rfl | exact .inr rfl)) (pgs_cons (pg_name (i := 13) sc_pairs_read.nd rfl (by first | exact .inl rfl | exact .inr rfl)) pgs_nil))) (pss_one (ps_if (pt_cmpR op_lt (pv 13) (pv 4) (nomark _)) (pss_one (ps_dput (hu_of hr) (pv 7) (pe_tup (pa_cons (pv 8) (pa_cons (pv 12) pa_nil))) (pe_ix ix_tup (pv 11) (pv 12) (fun _ _ => rfl)) rfl)) (pss_one (ps_dput (hu_of hr) (pv 6) (pv 13) (pe_ix ix_tup (pv 11) (pv 12) (fun _ _ => rfl)) rfl)))))))))) (pss_one (ps_ret (pv 7))))))), ?_⟩
    have pre : ∀ i, i ≤ k + 1 → ∃ st, readN m gs words k p i = some st := fun i hi => Option.isSome_iff_exists.mp (readN_pre hi (by rw [hst]; rfl))
    obtain ⟨na, ga, xs, rfl, hna, hga, tg⟩ := tn.net_inv
    have lx : xs.length = gs.length := by rw [tg.length, List.length_map]
    refine ⟨.ref na, rfl, na, _, rfl, SqT.of hna, rfl, _, _, rfl, _, _, rfl, rfl, ?_⟩
    -- {wire: wanted}
    refine fun M nM => ⟨.int (m + k : Nat), rfl, .ref wa, rfl, upd_same, [(kN (m + k), .ref wa)], rfl, (by show 1 ≤ 15; decide), ?_⟩
    have sM : Same H (hd1 M (upd (upd H M (.dK [])) M (.dK (mergeK [] [(kN (m + k), V.ref wa)])))) := (hd1_of (same_upd nM) nM).trans hd1_upd
    have wM : WantAt (upd (upd H M (.dK [])) M (.dK (mergeK [] [(kN (m + k), V.ref wa)]))) M (fun x => if x = m + k then some p else none) 1 := by
      refine ⟨[(kN (m + k), .ref wa)], upd_same, Nat.le_refl _, fun x => ?_⟩
      by_cases z : x = m + k
      · subst z
        dsimp only
        rw [if_pos rfl]
        exact ⟨_, valV_pos rfl, wa, rfl, hd1_le _ _ (sM _ _ hwa)⟩
      · dsimp only
        rw [if_neg z]
        exact valV_neg fun e => z (kN_inj e).symm
    revert sM wM
    generalize upd (upd H M (.dK [])) M _ = H1
    intro sM wM
    -- {}
    refine fun F nF => ?_
    have nFM : F ≠ M := fun z => by
      obtain ⟨kvs, e, _⟩ := wM
      rw [← z, nF] at e
      cases e
    have nF0 : H F = none := by
      cases z : H F with
      | none => rfl
      | some o =>
        have := hd1_le _ _ (sM _ _ z)
        rw [nF] at this
        cases this
    have hM1 : ∀ o, H1 M = some o → upd H1 F (.dT []) M = some o := fun o e => by rw [upd_ne (Ne.symm nFM)]; exact e
    have wM2 := wM.keep hM1 (fun a xs e => same_upd nF _ _ e)
    have fF : FoundAt (upd H1 F (.dT [])) F [] := ⟨[], upd_same, .nil⟩
    -- all but M and F stay
    have sMF : Same H (hd1 F (hd1 M (upd H1 F (.dT [])))) := fun b o e => by
      have h1 := sM _ _ e
      have nb : b ≠ M := fun z => by rw [z, nM] at e; cases e
      rw [hd1_at nb] at h1
      have nbF : b ≠ F := fun z => by rw [z, nF] at h1; cases h1
      rw [hd1_at nbF, hd1_at nb, upd_ne nbF]
      exact h1
    revert sMF wM2 fF
    generalize upd H1 F _ = H2
    intro wM2 fF sMF
    have rg := RgC.neg (i := ((m + k : Nat) : Int) - (m : Int)) (j := -1) (by omega) (by omega) (by omega) (by omega)
    have en : (((m + k : Nat) : Int) - (m : Int) - (-1)).toNat = k + 1 := by omega
    rw [en] at rg
    refine ⟨.int (m + k : Nat), rfl, .int m, rfl, _, _, rfl, rfl, _, rfl, _, rfl, _, _, _, _, rfl, rg, ?_⟩
    refine for_rangeC (lo := ((m + k : Nat) : Int) - (m : Int)) (c := -1) (n := k + 1) (fun i σ H' => ∃ y8 y9 y10 y11 y12 y13, ∃ st' : Wf × Ls, σ = [some (.ref na), some (.ref oa), some (.int (m + k : Nat)), some (.ref wa), some (.int m), some (.ref ga), some (.ref M), some (.ref F), y8, y9, y10, y11, y12, y13] ∧ readN m gs words k p i = some st' ∧ Same H (hd1 F (hd1 M H')) ∧ WantAt H' M st'.1 (1 + 3 * i) ∧ FoundAt H' F st'.2 ∧ st'.2.length ≤ 3 * i ∧ ∀ x ∈ st'.2, k < x.1.1 + i)
      ⟨_, _, _, _, _, _, (fun x => if x = m + k then some p else none, []), rfl, rfl, sMF, wM2, fF, Nat.zero_le _, fun x hx => by cases hx⟩ ?_ ?_
    · rintro i σ H3 hi ⟨y8, y9, y10, y11, y12, y13, st', rfl, hrd, s3, wM3, fF3, ll3, low3⟩
      obtain ⟨st2, hst2⟩ := pre (i + 1) hi
      have hstep : gateS m gs words (k - i) st' = some st2 := by
        unfold readN at hst2
        rw [hrd] at hst2
        exact hst2
      obtain ⟨g, hg⟩ : ∃ g, k - i = g := ⟨_, rfl⟩
      rw [hg] at hstep
      have eg : ((m + k : Nat) : Int) - (m : Int) + (i : Nat) * (-1) = ((g : Nat) : Int) := by omega
      rw [eg]
      have hgk : g < gs.length := by omega
      have s3' : Same H H3 := fun b o e => hd1_le _ _ (hd1_le _ _ (s3 _ _ e))
      obtain ⟨o, dg, hv⟩ := wM3.dget (m + g)
      refine ⟨.int m, rfl, .int (g : Nat), rfl, _, _, rfl, rfl, .ref M, rfl, M, o, rfl, dg, _, rfl, ?_⟩
      cases hw : st'.1 (m + g) with
      | none =>
        rw [hw] at hv
        have hv : o = none := hv
        subst hv
        refine iteT ?_
        have e2 : st2 = st' := by
          unfold gateS at hstep
          rw [hw] at hstep
          exact (Option.some.inj hstep).symm
        subst e2
        exact ⟨_, _, _, _, _, _, st2, rfl, hst2, s3, wM3.mono (by omega), fF3, by omega, fun x hx => by have := low3 x hx; omega⟩
      | some p' =>
        rw [hw] at hv
        obtain ⟨v, rfl, pa, rfl, hpa⟩ : ∃ v, o = some v ∧ PrAt H3 v p' := hv
        refine iteF ?_
        obtain ⟨gt, hgt⟩ : ∃ gt, gs[g]? = some gt := ⟨_, List.getElem?_eq_getElem hgk⟩
        obtain ⟨gv, hgv, tgv⟩ := tg.at' hgt
        obtain ⟨at_, ia, rfl, hat, hia⟩ := tgv.gt_inv
        have okg := okn g gt hgt
        have g3 := okg.2.2.1
        have ef : ∃ c, findM gt.1 (pick words gt.2) p' = some c ∧ st2 = placesS m g st' gt.2 c gt.2.length := by
          unfold gateS at hstep
          rw [hw] at hstep
          dsimp only at hstep
          rw [hgt] at hstep
          obtain ⟨c, h1, h2⟩ := Option.map_eq_some_iff.mp hstep
          exact ⟨c, h1, h2.symm⟩
        obtain ⟨c, hf, rfl⟩ := ef
        have lc : c.length = gt.2.length := by
          have := chs_width _ c (List.mem_of_find?_eq_some hf)
          rw [this, List.length_map, pick_len]
        obtain ⟨os, hoa, los, hos⟩ := opts.same s3'
        obtain ⟨oo, hoo⟩ : ∃ oo, os[g]? = some oo := ⟨_, List.getElem?_eq_getElem (by omega)⟩
        have opt := hos g oo gt hoo hgt
        refine ⟨.ref ga, rfl, .int (g : Nat), rfl, ga, _, _, .ref at_, rfl, rfl, SqT.of (s3' _ _ hga), atI_nat hgv, at_, _, rfl, SqT.of (s3' _ _ hat), rfl, _, _, rfl, _, _, rfl, rfl, ?_⟩
        refine ⟨.str (tabOf gt.1), rfl, .ref oa, rfl, .int (g : Nat), rfl, oa, _, _, .ref oo, rfl, rfl, SqL.of hoa, atI_nat (by rw [List.getElem?_map, hoo]; rfl), .ref M, rfl, .int m, rfl, .int (g : Nat), rfl, _, _, rfl, rfl, M, .ref pa, rfl, dg, gt.1, oo, pa, pick words gt.2, p', c, rfl, opt, hpa, pick_ok wok _, by rw [pick_len]; exact okg.1, by rw [pick_len]; exact okg.2.2.1, hf, fun r H4 s4 tr => ?_⟩
        obtain ⟨r', zs, e, hr4, tz⟩ := tr.tup_inv
        cases e
        have lz : zs.length = c.length := by rw [tz.length, List.length_map]
        have k4 : ∀ a xs, H3 a = some (.tup xs) → H4 a = some (.tup xs) := fun a xs e => s4 _ _ e
        have wM4 := wM3.keep (fun o e => s4 _ _ e) k4
        have fF4 := fF3.keep (fun o e => s4 _ _ e) k4
        have s34 : Same H (hd1 F (hd1 M H4)) := s3.trans (hd1_same (p := F) (hd1_same (p := M) s4))
        have hia4 := s4 _ _ (s3' _ _ hia)
        have mF4 : ∃ kvs, H4 F = some (.dT kvs) := let ⟨kvs, e, _⟩ := fF4; ⟨kvs, e⟩
        have low4 : LsLow st'.2 g 0 := fun x hx => .inl (by have := low3 x hx; omega)
        refine ⟨.ref ia, rfl, ia, _, rfl, SqT.of hia4, for_enumT (K := K) (a := ia) (xs := (gt.2.map Int.ofNat).map V.int) (fun j σ H' => ∃ y12 y13, σ = [some (.ref na), some (.ref oa), some (.int (m + k : Nat)), some (.ref wa), some (.int m), some (.ref ga), some (.ref M), some (.ref F), some (.int (g : Nat)), some (.str (tabOf gt.1)), some (.ref ia), some (.ref r), y12, y13] ∧ Same H (hd1 F (hd1 M H')) ∧ (∀ a xs, H4 a = some (.tup xs) → H' a = some (.tup xs)) ∧ WantAt H' M (placesS m g st' gt.2 c j).1 (1 + 3 * i + j) ∧ FoundAt H' F (placesS m g st' gt.2 c j).2 ∧ (placesS m g st' gt.2 c j).2.length ≤ 3 * i + j ∧ LsLow (placesS m g st' gt.2 c j).2 g j)
          ⟨_, _, rfl, s34, fun _ _ e => e, wM4, fF4, ll3, low4⟩ (fun j σ H' _ ⟨_, _, _, _, z, _⟩ => SqT.of (z _ _ hia4)) ?_ ?_⟩
        · rintro j x T5 σ H5 hx nT5 ⟨y12, y13, rfl, s5, k5, wM5, fF5, ll5, low5⟩
          obtain ⟨rd, hrd2, rfl⟩ : ∃ rd : Nat, gt.2[j]? = some rd ∧ x = V.int (rd : Nat) := by
            rw [List.getElem?_map, List.getElem?_map] at hx
            cases hz : gt.2[j]? with
            | none => rw [hz] at hx; cases hx
            | some u => rw [hz] at hx; exact ⟨u, rfl, (Option.some.inj hx).symm⟩
          have hj : j < gt.2.length := (List.getElem?_eq_some_iff.mp hrd2).1
          obtain ⟨cp, hcp⟩ : ∃ cp, c[j]? = some cp := ⟨_, List.getElem?_eq_getElem (by omega)⟩
          obtain ⟨vz, hvz, tvz⟩ := tz.at' hcp
          obtain ⟨za, rfl, hza⟩ := pr_inv tvz
          have es := placesS_succ (m := m) (g := g) (st := st') hrd2 hcp
          have suT := same_upd (o := HO.tup [V.int (j : Nat), V.int (rd : Nat)]) nT5
          have s6 : Same H (hd1 F (hd1 M (upd H5 T5 (.tup [V.int (j : Nat), V.int (rd : Nat)])))) := s5.trans (hd1_same (p := F) (hd1_same (p := M) suT))
          have wM6 := wM5.keep (fun o e => suT _ _ e) (fun a xs e => suT _ _ e)
          have fF6 := fF5.keep (fun o e => suT _ _ e) (fun a xs e => suT _ _ e)
          have k6 : ∀ a xs, H4 a = some (.tup xs) → upd H5 T5 (.tup [V.int (j : Nat), V.int (rd : Nat)]) a = some (.tup xs) := fun a xs e => suT _ _ (k5 _ _ e)
          refine ⟨T5, _, rfl, SqT.of upd_same, rfl, _, _, rfl, _, _, rfl, rfl, ?_⟩
          revert s6 wM6 fF6 k6
          clear suT
          generalize upd H5 T5 _ = H6
          intro s6 wM6 fF6 k6
          have prz : PrAt H6 (.ref za) cp := ⟨za, rfl, k6 _ _ hza⟩
          refine ⟨.int (rd : Nat), rfl, .int m, rfl, _, _, rfl, rfl, _, rfl, ?_⟩
          refine ite2 (fun el => ?_) (fun el => ?_)
          · have el : ((rd : Nat) : Int) < (m : Int) := of_decide_eq_true el
            have elN : rd < m := by omega
            have e7 : placesS m g st' gt.2 c (j + 1) = ((placesS m g st' gt.2 c j).1, (placesS m g st' gt.2 c j).2 ++ [((g, j), cp)]) := by
              rw [es]
              exact if_pos elN
            refine ⟨.ref r, rfl, .int (j : Nat), rfl, r, _, _, .ref za, rfl, rfl, SqT.of (k6 _ _ hr4), atI_nat hvz, .ref F, rfl, .int (g : Nat), rfl, .int (j : Nat), rfl, sl2, fun t nt => ?_⟩
            have sut := same_upd (o := HO.tup [V.int (g : Nat), V.int (j : Nat)]) nt
            have s7 : Same H (hd1 F (hd1 M (upd H6 t (.tup [V.int (g : Nat), V.int (j : Nat)])))) := s6.trans (hd1_same (p := F) (hd1_same (p := M) sut))
            have wM7 := wM6.keep (fun o e => sut _ _ e) (fun a xs e => sut _ _ e)
            have fF7 := fF6.keep (fun o e => sut _ _ e) (fun a xs e => sut _ _ e)
            obtain ⟨H8, dp, fF8, oo8, rfl, kvs8, rfl⟩ := fF7.put (by omega) low5.no upd_same (prz.keep fun a xs e => sut _ _ e)
            refine ⟨F, _, rfl, dp, _, _, rfl, ?_, ?_, ?_, ?_, ?_, ?_⟩
            · intro b o2 e
              have h7 := s7 _ _ e
              have nb : b ≠ F := fun z => by rw [z] at h7; unfold hd1 at h7; simp at h7
              have nb2 : b ≠ M := fun z => by rw [hd1_at nb, z] at h7; unfold hd1 at h7; simp at h7
              rw [hd1_at nb, hd1_at nb2] at h7 ⊢
              rw [upd_ne nb]
              exact h7
            · intro a xs e
              have h7 := sut _ _ (k6 _ _ e)
              obtain ⟨kv7, e7', _⟩ := fF7
              rw [upd_ne (fun z => by rw [z, e7'] at h7; cases h7)]
              exact h7
            · rw [e7]
              have nMF : M ≠ F := Ne.symm nFM
              obtain ⟨kv7, e7', _⟩ := fF7
              refine (wM7.keep (fun o2 e => by rw [upd_ne nMF]; exact e) (fun a xs e => by rw [upd_ne (fun z => by rw [z, e7'] at e; cases e)]; exact e)).mono (by omega)
            · rw [e7]
              exact fF8
            · rw [e7, List.length_append]
              show _ + 1 ≤ _
              omega
            · rw [e7]
              intro x hx
              rcases List.mem_append.mp hx with z | z
              · rcases low5 x z with y | ⟨y1, y2⟩
                · exact .inl y
                · exact .inr ⟨y1, by omega⟩
              · rw [List.mem_singleton.mp z]
                exact .inr ⟨rfl, Nat.lt_succ_self _⟩
          · have el : ¬ ((rd : Nat) : Int) < (m : Int) := fun z => el (decide_eq_true z)
            have elN : ¬ rd < m := by omega
            have e7 : placesS m g st' gt.2 c (j + 1) = (putWf (placesS m g st' gt.2 c j).1 rd cp, (placesS m g st' gt.2 c j).2) := by
              rw [es]
              exact if_neg elN
            obtain ⟨H8, dp, wM8, oo8, rfl, kvs8, rfl⟩ := wM6.put (by omega) rd prz
            refine ⟨.ref r, rfl, .int (j : Nat), rfl, r, _, _, .ref za, rfl, rfl, SqT.of (k6 _ _ hr4), atI_nat hvz, .ref M, rfl, .int (rd : Nat), rfl, M, _, rfl, dp, _, _, rfl, ?_, ?_, ?_, ?_, ?_, ?_⟩
            · intro b o2 e
              have h7 := s6 _ _ e
              have nb : b ≠ F := fun z => by rw [z] at h7; unfold hd1 at h7; simp at h7
              have nb2 : b ≠ M := fun z => by rw [hd1_at nb, z] at h7; unfold hd1 at h7; simp at h7
              rw [hd1_at nb, hd1_at nb2] at h7 ⊢
              rw [upd_ne nb2]
              exact h7
            · intro a xs e
              have h7 := k6 _ _ e
              obtain ⟨kv7, e7', _⟩ := wM6
              rw [upd_ne (fun z => by rw [z, e7'] at h7; cases h7)]
              exact h7
            · rw [e7]
              exact wM8.mono (by omega)
            · rw [e7]
              obtain ⟨kv7, e7', _⟩ := wM6
              exact fF6.keep (fun o2 e => by rw [upd_ne nFM]; exact e) (fun a xs e => by rw [upd_ne (fun z => by rw [z, e7'] at e; cases e)]; exact e)
            · rw [e7]
              dsimp only
              omega
            · rw [e7]
              intro x hx
              rcases low5 x hx with y | ⟨y1, y2⟩
              · exact .inl y
              · exact .inr ⟨y1, by omega⟩
        · rintro σ H5 ⟨y12, y13, rfl, s5, k5, wM5, fF5, ll5, low5⟩
          have el : ((gt.2.map Int.ofNat).map V.int).length = gt.2.length := by rw [List.length_map, List.length_map]
          rw [el] at wM5 fF5 ll5 low5
          have := okg.2.2.1
          exact ⟨_, _, _, _, _, _, _, rfl, hst2, s5, wM5.mono (by omega), fF5, by omega, fun x hx => by
            rcases low5 x hx with y | ⟨y1, y2⟩ <;> omega⟩
    · rintro σ H3 ⟨y8, y9, y10, y11, y12, y13, st', rfl, hrd, s3, wM3, fF3, ll3, low3⟩
      rw [hst] at hrd
      cases Option.some.inj hrd
      exact ⟨.ref F, rfl, q F H3 nF0 (fun b o e => hd1_le _ _ (hd1_le _ _ (s3 _ _ e))) fF3⟩

end
end Gk

set_option Elab.async false
set_option linter.all false
set_option maxRecDepth 100000
set_option maxHeartbeats 1000000
set_option pp.maxSteps 1200
set_option pp.deepTerms false
namespace Gk
open PySem PySem.Spec PyProof.Rows L2
/-- tuple * int, the int from 1 on: by 1 it is the tuple itself -/
theorem tuple_mul1 (l : Addr) (items : Array Value) (n : Nat) (dd : Option Addr) (sl : Array (Option Value)) (u : Tok) :
    Meets (Builtin.«tuple.__mul__» ⟨[.ref l, .int 1 u], []⟩) (fun _ R s => s.heap.get? l = some { cls := .type "tuple", dict := dd, data := .seq items n, slots := sl } ∧ R (.ok (.ret (Value.ref l))) s) :=
  .of_wp fun prog w A R s h => by
    obtain ⟨hp, g, d, tk, os⟩ := s
    obtain ⟨hl, h⟩ := h
    have f1 := AutoSeq1.idx_int
    have c1 : (items.isEmpty || (1 : Int) == 1) = true := by simp
    wp_walk using wpAny_loadPart' hl
    repeat (first
      | (refine wpAny_ite_false (decide_eq_false (by decide)) ?_; wp_walk using wpAny_loadPart' hl)
      | (refine wpAny_ite_true (decide_eq_true c1) ?_; wp_walk using wpAny_loadPart' hl))
    exact ⟨_, rfl, h⟩
def rRepT1 (K : PySem.W.Frag) : R2 := fun x y H Q => ∃ l k xs, x = .ref l ∧ y = .int k ∧ SqT K H l xs ∧ xs ≠ [] ∧ 1 ≤ k ∧ k ≤ 1000 ∧ xs.length ≤ 1000 ∧ (k = 1 → Q (.ref l) H) ∧ (2 ≤ k → ∀ p, H p = none → Q (.ref p) (upd H p (.tup (List.replicate k.toNat xs).flatten)))
theorem op_repT1 {X : Cx} : OpR X (binaryOp .Mult) (rRepT1 X.K) := by
  intro pins s σ H x y v u Q I rx ry h
  obtain ⟨l, k, xs, ex, ey, hT, full, one, most, few, q1, q2⟩ := h
  by_cases hk : k = 1
  · subst hk
    subst ex ey
    cases rx
    obtain ⟨tk, rfl⟩ := ry
    obtain ⟨its, r, ⟨ob, hob, hcl, c, hdt⟩, _⟩ := I.tuple hT
    obtain ⟨cls, dd, data, sl⟩ := ob
    cases (show cls = Value.type "tuple" from hcl)
    cases (show data = Data.seq its.toArray c from hdt)
    exact wpAny_binaryOp_repeat_ref (T := "tuple") (U := "int") (by decide) ⟨_, hob, rfl⟩ (fun z => typeIs_int z 1 tk) noFill_tuple_mul F.fills_int_mul F.slot_int_rmul repeat_tuple F.slot_int_index.lookup
      (call_meets F.slot_int_rmul (typeIs_int s 1 tk) F.entry_int_rmul (F.args_int_rmul_2 _ _) (int_rmul_tuple 1 tk l its.toArray c dd sl) ⟨hob, rfl, ⟨_, hob, rfl⟩,
        call_meets F.slot_tuple_mul ⟨_, hob, rfl⟩ F.entry_tuple_mul (F.args_tuple_mul_2 _ _) (tuple_mul1 l its.toArray c dd sl tk) ⟨hob, ⟨.ref l, H, I, rfl, q1 rfl⟩⟩⟩)
  · exact op_repT pins s σ H x y v u Q I rx ry ⟨l, k, xs, ex, ey, hT, full, by omega, most, few, q2 (by omega)⟩
theorem repA {K : PySem.W.Frag} {l : Addr} {xs : List V} {k : Int} {H : Hp} {Q : VK} (h : H l = some (.tup xs)) (ne : xs ≠ []) (k1 : 1 ≤ k) (k2 : k ≤ 1000) (hl : xs.length ≤ 1000) (q : ∀ p H', Same H H' → H' p = some (.tup (List.replicate k.toNat xs).flatten) → Q (.ref p) H') : rRepT1 K (.ref l) (.int k) H Q :=
  ⟨l, k, xs, rfl, rfl, SqT.of h, ne, k1, k2, hl, fun e => q l H (fun _ _ z => z) (by rw [h, e]; show _ = some (HO.tup (List.replicate 1 xs).flatten); simp), fun _ p np => q p _ (same_upd np) upd_same⟩

/-! ### sum(elt for tg in iter ..), of ints -/
namespace GxS
open PySem PySem.Spec PyProof.Rows L2
section
variable {X : Cx} {A A' : Around} {s_0 : Shared} {H_0 : Hp} {cenv : Env} {fp : List Addr} {tn : Nat → Heap → Prop} {ga S : Addr} {gn n : Nat} {go : Obj}
def ACs (ga : Addr) (go : Obj) (S : Addr) (a : Int) (cp : List (Addr × Obj)) : Prop := ∃ (t : Tok) (c : Nat), cp = [(ga, go), (S, lstObj #[.int a t] c)]
def YdS (a : Int) (y : V) (H : Hp) (Nx : Int → Hp → Prop) : Prop := ∃ i : Int, y = .int i ∧ InLong i ∧ InLong (a + i) ∧ Nx (a + i) H
theorem lst_one {a a' : Int} {t t' : Tok} {c c' : Nat} (h : some (lstObj #[Value.int a t] c) = some (lstObj #[Value.int a' t'] c')) : a' = a := by
  have h1 := congrArg Obj.data (Option.some.inj h)
  have h2 : #[Value.int a t] = #[Value.int a' t'] := by
    have h1 : (lstObj #[Value.int a t] c).data = (lstObj #[Value.int a' t'] c').data := h1
    unfold lstObj at h1
    injection h1
  have h3 : [Value.int a t] = [Value.int a' t'] := congrArg Array.toList h2
  have h4 := (List.cons.inj h3).1
  injection h4 with h5 _
  exact h5.symm
theorem sum_gx {R : Result → Shared → Prop} {End : Int → Hp → Prop} (hh : A.handled = none) (hroom : A.depth < recursionLimit) (hG : GenObj go gn) (hSa : S ≠ ga) (far : (gblk X A' s_0 H_0 cenv fp).s_0.heap.objs.size ≤ S) (hSc : ∀ x c, cenv.cells.lookup x = some c → c ≠ S)
    (keep : ∀ i h h', tn i h → (∀ b ∈ fp, ∀ o, h.get? b = some o → h'.get? b = some o) → tn i h') (hSf : ∀ b ∈ fp, b ≠ S)
    (yes : ∀ (σ : L2.St) (H : Hp) (a : Int) (t : Tok) (cp : List (Addr × Obj)) (s1 : Shared), Inv (gblk X A' s_0 H_0 cenv fp) cp σ H s1 → End a H → R (.ok (.ret (.int a t))) s1) :
    ∀ (n : Nat) (s : Shared) (a : Int) (t : Tok) (c : Nat), s.heap.NoLimit → s.heap.get? ga = some go → s.heap.get? S = some (lstObj #[.int a t] c) → (∃ gs, s.gens[gn]? = some gs ∧ gs.Goes (model X.prog X.w) A.in1.in1 (RG (gblk X A' s_0 H_0 cenv fp) (ACs ga go S) End)
      (YG (gblk X A' s_0 H_0 cenv fp) fp tn (ACs ga go S) YdS) n (.send .none) (s.setGen gn .running)) →
      codeAny (model X.prog X.w) A (.builtin "sum.loop" ⟨[.ref ga, .ref S, rawInt 0, rawInt 0], []⟩) R s := by
  intro n
  induction n using Nat.strongRecOn with
  | ind n ih =>
    rintro s a t c hl e hS ⟨gs, hgs, hgo⟩
    refine codeAny_builtin F.entry_sum_loop ?_
    rw [Around.under_plainId F.plain_sum_loop _]
    show wpAny _ A.in1 (seqItems? (.ref S) >>= _) _ _ s
    refine wpAny_bind (wpAny_seqItems hS rfl ?_)
    show wpAny _ A.in1 (tryCatch (pyNext (.ref ga)) _ >>= _) _ _ s
    refine wpAny_bind (wpAny_tryCatch (next_gx2 (A := A.in1) hh hroom hl hG e hgs hgo (fun a' x σ H i cp Nx v s1 gs' r hac tie I st hy at_ kap => ?_) fun a' σ H cp s1 hac tie I q => ?_))
    · obtain ⟨t', c', rfl⟩ := hac
      have e1 := tie (S, lstObj #[.int a' t'] c') (List.mem_cons_of_mem _ List.mem_cons_self)
      rw [hS] at e1
      obtain rfl := lst_one e1
      obtain ⟨j, rfl, ⟨f1, f2⟩, ⟨f3, f4⟩, nx⟩ := hy
      obtain ⟨tk, rfl⟩ := (show ∃ t, v = Value.int j t from r)
      have pS := I.pin (S, lstObj #[.int a' t'] c') (List.mem_append_right _ (List.mem_cons_of_mem _ List.mem_cons_self))
      have I0 : Inv (gblk X A' s_0 H_0 cenv fp) [(ga, go)] σ H s1 := I.pins_of fun p hp => I.pin p (List.mem_append_right _ (by rw [List.mem_singleton.mp hp]; exact List.mem_cons_self))
      have I1 := I0.turned (t' := s1.toks + 1) (h' := s1.heap.update S (Obj.mapSeq (fun _ => #[Value.int (a' + j) s1.toks]))) (it := S) (fun b o hb q => (Heap.get?_update_other _ _ (Ne.symm hb)).trans q) pS.2.1 pS.2.2.1 (.inr far) hSc (fun p hp => by rw [List.mem_singleton.mp (show p ∈ [(ga, go)] by simpa using hp)]; exact Ne.symm hSa)
      have e2 := Heap.get?_update_self (Obj.mapSeq (fun _ => #[Value.int (a' + j) s1.toks])) pS.1 rfl
      have pG := I1.pin (ga, go) (List.mem_append_right _ List.mem_cons_self)
      have hc : ((decide (-(2 ^ 63) ≤ j) && decide (j < 2 ^ 63)) && (decide (-(2 ^ 63) ≤ a' + j) && decide (a' + j < 2 ^ 63))) = true := by
        simp only [Bool.and_eq_true, decide_eq_true_eq]
        exact ⟨⟨f1, f2⟩, f3, f4⟩
      show wpAny _ A.in1 (if (_ : Bool) = true then (mkInt (a' + j) >>= _) else _) _ _ _
      split
      · refine wpAny_bind (wpAny_mkInt ?_)
        show wpAny _ A.in1 (updateSeq S (fun _ => #[Value.int (a' + j) s1.toks]) >>= _) _ _ _
        refine wpAny_bind ?_
        obtain ⟨m, hm, z⟩ := kap (a' + j) [(ga, go), (S, _)] (({ s1 with toks := s1.toks + 1, heap := s1.heap.update S (Obj.mapSeq (fun _ => #[Value.int (a' + j) s1.toks])) } : Shared).setGen gn .running) nx ⟨_, _, rfl⟩ (inv_moved (I1.pins_of fun p hp => by
          rcases List.mem_cons.mp hp with z | z
          · rw [z]; exact pG
          · rw [List.mem_singleton.mp z]; exact ⟨e2, pS.2.1, pS.2.2.1, pS.2.2.2.1, fun v q => by cases q⟩) rfl (allBare_setGen (s := { s1 with toks := s1.toks + 1, heap := s1.heap.update S (Obj.mapSeq (fun _ => #[Value.int (a' + j) s1.toks])) }) I1.bare rfl) fun _ _ q => q) (keep _ _ _ st fun b hb o q => (Heap.get?_update_other _ _ (Ne.symm (hSf b hb))).trans q)
        refine wpAny_updateSeq pS.1 rfl (wpAny_pure ⟨plainId_quiet F.plain_sum_loop _, ih m (by omega) _ (a' + j) s1.toks _ I1.nolimit pG.1 e2 ⟨gs', at_, z⟩⟩)
      · rename_i hneg
        exact absurd hc hneg
    · obtain ⟨t', c', rfl⟩ := hac
      have e1 := tie (S, lstObj #[.int a' t'] c') (List.mem_cons_of_mem _ List.mem_cons_self)
      rw [hS] at e1
      obtain rfl := lst_one e1
      exact wpAny_pure (yes σ H a' t _ s1 I q)
end
section
variable {X : Cx}
def tSumX (P : Addr) (wi : TI) (g : TG) (tt : TT) (te : TE) (vs : List Nat) : TE := fun σ H Q => wi σ H fun J H1 => GxR.TabG H1 P ∧ ∀ H2, GxR.Tabbed P H1 H2 → ∃ W : Nat → Nat → Int → Hp → Prop, (∃ m, W 0 m 0 H2) ∧
  tGx J g tt te (wipe σ vs) vs (fun a H => Q (.int a) H) YdS W
theorem pe_sumX {c P : Addr} {elt tg iter : Expr} {ifs : List Expr} {p pos gpos : Pos} {scope : Scope} {own : List (Str × Nat)} {wi : TI} {g : TG} {tt : TT} {te : TE} {k : Nat}
    (hr : Room (k + 1) X.A) (hc : X.calm = true) (hN : X.N.Nodup) (hgl : Gl X "sum") (hm : X.mg "sum" = none) (hb : bootBuiltins "sum" = some (.builtin "sum")) (TB : GxR.TabB X.base X.mg c P) (hcode : X.env.code = .ref c)
    (hco : scope.isCoroutine = false) (hdot : scope.names.lookup (".0" : Str) = some NameKind.local) (nocell : ∀ y ∈ scope.names, y.2 ≠ .cell) (ok : BlkOk X.N X.env.scope scope own) (hi : PI X tg iter wi)
    (hg : ∀ (A' : Around) (s : Shared) (H : Hp) (C : Addr) (cl : List (Str × Addr)) (code : Value) (fp : List Addr), Room k A' → A'.guards = X.A.guards → PG (gblk X A' s H (genEnv scope cl C code builtinsNs X.env) fp) tg g)
    (ht : ∀ (A' : Around) (s : Shared) (H : Hp) (C : Addr) (cl : List (Str × Addr)) (code : Value) (fp : List Addr), Room k A' → A'.guards = X.A.guards → PTs (gblk X A' s H (genEnv scope cl C code builtinsNs X.env) fp) ifs tt)
    (he : ∀ (A' : Around) (s : Shared) (H : Hp) (C : Addr) (cl : List (Str × Addr)) (code : Value) (fp : List Addr), Room k A' → A'.guards = X.A.guards → PE (gblk X A' s H (genEnv scope cl C code builtinsNs X.env) fp) elt te)
    (hs : ∀ v, genFold iter X.env v = pure v)
    (hst : starEach [.GeneratorExp elt [⟨tg, iter, ifs, 0⟩] scope gpos] X.env = (false, eval (.GeneratorExp elt [⟨tg, iter, ifs, 0⟩] scope gpos) X.env) :: starEach [] X.env := by rfl) :
    PE X (.Call (.Name "sum" p) [.GeneratorExp elt [⟨tg, iter, ifs, 0⟩] scope gpos] [] pos) (tSumX P wi g tt te (own.map (·.2))) := by
  refine ⟨fun pins s σ H Q I h => ?_⟩
  refine wpAny_Call_Name_kw (ld_blt I hgl hm hb ?_)
  refine PyProof.Rows.callWith_builtin1 ?_ hst (by rfl)
  rw [hst]
  show wpAny _ _ (spliced ((false, eval (.GeneratorExp elt [⟨tg, iter, ifs, 0⟩] scope gpos) X.env) :: backTo pos (starEach [] X.env))) _ _ s
  refine Calls.spliced_cons (gx_make (A := X.A.in1.in1) hr ⟨rfl, rfl, rfl, rfl, (by show X.A.units + 1 + 1 ≤ _; omega)⟩ hc hN TB hcode hco hdot nocell ok hi hg ht he hs I h fun J H1 H2 u s5 hR hT hG => ?_)
  obtain ⟨A', s_0, H_0, cenv, fp, ga, gn, go, tn, gs, rfl, hGO, hgs, hbare, I5, st5, nf, hlt, keep, back, goes⟩ := hG
  obtain ⟨W, ⟨m, w0⟩, turn⟩ := hR H2 hT
  refine Calls.spliced_nil ?_
  have pin5 := (I5.pin (ga, go) (List.mem_append_right _ List.mem_cons_self)).1
  have glt : ga < s5.heap.objs.size := Heap.lt_size pin5
  have hSI : s5.heap.objs.size ≠ ga := Nat.ne_of_gt glt
  refine call_function_tree F.kind_sum F.plain_sum F.entry_sum (F.args_sum1 _) ?_
  unfold Builtin.«sum»
  simp only [List.length_cons, List.length_nil]
  rw [if_neg (by decide)]
  refine wpAny_bind (wpAny_of_eq (show Builtin.Builtins.bindParams "sum" ["start"] 0 { } = pure [none] from rfl) ?_)
  refine wpAny_bind (wpAny_pyIter_gen (hGO.isGen pin5) ?_)
  refine wpAny_bind (wpAny_mkInt ?_)
  refine wpAny_bind (wpAny_pure ?_)
  simp only [List.forIn_cons, List.forIn_nil]
  refine wpAny_bind (wpAny_bind (wpAny_bind (wpAny_isInstance (T := "int") (b := false) (typeIs_int _ _ _) PySem.sub_int_str ?_)))
  simp only [Bool.false_eq_true, if_false]
  refine wpAny_pure (wpAny_bind (wpAny_bind (wpAny_isInstance (T := "int") (b := false) (typeIs_int _ _ _) PySem.sub_int_bytes ?_)))
  simp only [Bool.false_eq_true, if_false]
  refine wpAny_pure (wpAny_bind (wpAny_bind (wpAny_isInstance (T := "int") (b := false) (typeIs_int _ _ _) PySem.sub_int_bytearray ?_)))
  simp only [Bool.false_eq_true, if_false]
  refine wpAny_pure (wpAny_pure ?_)
  refine wpAny_bind (wpAny_newObj_type ?_)
  have k1 : ∀ b o, s5.heap.get? b = some o → (s5.heap.push { cls := .type "list", data := .seq [Value.int 0 s5.toks].toArray }).get? b = some o := fun b o e => Heap.get?_push_of_some _ e
  have hS₁ : (s5.heap.push { cls := .type "list", data := .seq [Value.int 0 s5.toks].toArray }).get? s5.heap.objs.size = some (lstObj #[.int 0 s5.toks] 0) := Heap.get?_push_size _ rfl
  have fS : FpOk (gblk X A' s_0 H_0 cenv fp) [(ga, go)] H2 s5.heap.objs.size := I5.fpOk (Nat.le_refl _) (I5.hok.fresh (Nat.le_refl _))
  have hfS : ∀ b ∈ fp, b ≠ s5.heap.objs.size := fun b hb => Nat.ne_of_lt (Nat.lt_trans (hlt b hb) glt)
  have I6 := inv_moved (s' := { s5 with toks := s5.toks + 1, heap := s5.heap.push { cls := .type "list", data := .seq [Value.int 0 s5.toks].toArray } }) I5 rfl I5.bare k1
  refine wpAny_pure ⟨plainId_quiet F.plain_sum_loop _, sum_gx (A' := A') (s_0 := s_0) (H_0 := H_0) (cenv := cenv) (fp := fp) (tn := tn) (go := go) (gn := gn) (End := fun a H => Q (.int a) H) hr.hd hr.depth hGO hSI (Nat.le_trans I5.sz (Nat.le_refl _)) fS.2.2.2.2.1 keep hfS
    (fun σ' H' a t cp s1 I1 q => ⟨.int a, H', back _ _ _ _ I1, ⟨t, rfl⟩, q⟩) (m + 1) _ 0 s5.toks 0 I6.nolimit (k1 _ _ pin5) hS₁ ⟨gs, hgs, ?_⟩⟩
  refine goes Int (ACs ga go s5.heap.objs.size) _ YdS W m (m + 1) 0 [(ga, go), (s5.heap.objs.size, lstObj #[.int 0 s5.toks] 0)] _ turn w0 (Nat.lt_succ_self _) (fun a cp hac p hp b hb z => ?_) ⟨_, _, rfl⟩
    (inv_moved (I6.pins_of fun p hp => ?_) rfl (allBare_setGen (s := { s5 with toks := s5.toks + 1, heap := _ }) I5.bare rfl) fun _ _ q => q) (keep _ _ _ st5 fun b hb o q => k1 b o q)
  · obtain ⟨t, c, rfl⟩ := hac
    rcases List.mem_cons.mp hp with e | e
    · rw [e] at z
      exact absurd (hlt b hb) (by rw [← z]; exact Nat.lt_irrefl _)
    · rw [List.mem_singleton.mp e] at z
      exact hfS b hb z.symm
  · rcases List.mem_cons.mp hp with e | e
    · rw [e]
      exact I6.pin (ga, go) (List.mem_append_right _ List.mem_cons_self)
    · rw [List.mem_singleton.mp e]
      exact ⟨hS₁, fS.1, fS.2.1, fS.2.2.1, fun v q => by cases q⟩
end
end GxS

/-! ### heaps without some places -/
def hid (as : List Addr) (H : Hp) : Hp := fun b => if b ∈ as then none else H b
theorem hid_at {as : List Addr} {H : Hp} {b : Addr} (h : b ∉ as) : hid as H b = H b := if_neg h
theorem hid_in {as : List Addr} {H : Hp} {b : Addr} (h : b ∈ as) : hid as H b = none := if_pos h
theorem hid_le {as : List Addr} {H : Hp} : Same (hid as H) H := fun b o e => by
  by_cases h : b ∈ as
  · rw [hid_in h] at e; cases e
  · rw [hid_at h] at e; exact e
theorem hid_sub {as bs : List Addr} {H : Hp} (h : ∀ b ∈ bs, b ∈ as) : Same (hid as H) (hid bs H) := fun b o e => by
  by_cases ha : b ∈ as
  · rw [hid_in ha] at e; cases e
  · rw [hid_at ha] at e
    rw [hid_at (fun z => ha (h b z))]
    exact e
theorem hid_same {as : List Addr} {H H' : Hp} (s : Same H H') : Same (hid as H) (hid as H') := fun b o e => by
  by_cases ha : b ∈ as
  · rw [hid_in ha] at e; cases e
  · rw [hid_at ha] at e ⊢
    exact s _ _ e
theorem hid_set {as : List Addr} {H : Hp} {r : Addr} {o : HO} (h : r ∈ as) : Same (hid as H) (hid as (upd H r o)) := fun b x e => by
  by_cases ha : b ∈ as
  · rw [hid_in ha] at e; cases e
  · rw [hid_at ha] at e ⊢
    rw [upd_ne (fun z => ha (by rw [z]; exact h))]
    exact e
theorem hid_gr {as : List Addr} {H H' : Hp} (g : Gr H H') : Gr (hid as H) (hid as H') := by
  refine ⟨fun b o n e => ?_, fun b t => ?_⟩
  · by_cases ha : b ∈ as
    · rw [hid_in ha] at e; cases e
    · rw [hid_at ha] at e ⊢
      exact g.1 b o n e
  · obtain ⟨ps, e, t⟩ := t
    by_cases ha : b ∈ as
    · rw [hid_in ha] at e; cases e
    · rw [hid_at ha] at e
      obtain ⟨ps', e', t'⟩ := g.2 b ⟨ps, e, t⟩
      exact ⟨ps', by rw [hid_at ha]; exact e', t'⟩

/-! ### a generator expression over a list -/
theorem gx_list {α : Type} {K : PySem.W.Frag} {a : Addr} {xs : List V} {g : TG} {tt : TT} {te : TE} {vs : List Nat} {σ0 : L2.St} {End : α → Hp → Prop} {Yd : α → V → Hp → (α → Hp → Prop) → Prop} {a0 : α} {H0 : Hp} (Pv : Nat → α → Hp → Prop) (h0 : Pv 0 a0 H0)
    (hl : ∀ i c H, i ≤ xs.length → Pv i c H → SqL K H a xs)
    (hs : ∀ i x c H, xs[i]? = some x → Pv i c H → g x σ0 H fun σ2 H2 => wipe σ2 vs = σ0 ∧ tt σ2 H2 fun b H3 => if b = true then te σ2 H3 fun y H4 => Yd c y H4 (Pv (i + 1)) else Pv (i + 1) c H3) (hd : ∀ c H, Pv xs.length c H → End c H) :
    ∃ W : Nat → Nat → α → Hp → Prop, (∃ m, W 0 m a0 H0) ∧ tGx (Itl K a) g tt te σ0 vs End Yd W := by
  refine ⟨fun i m c H => m = xs.length - i ∧ i ≤ xs.length ∧ Pv i c H, ⟨xs.length, rfl, Nat.zero_le _, h0⟩, ?_⟩
  rintro i m c H ⟨rfl, hi, p⟩
  by_cases hlt : i < xs.length
  · have hx : xs[i]? = some xs[i] := List.getElem?_eq_getElem hlt
    refine .inr ⟨⟨xs, xs[i], hl i c H hi p, hx⟩, Pv (i + 1), fun c' H' p' => ⟨xs.length - (i + 1), by omega, rfl, hlt, p'⟩, fun x H' y => ?_⟩
    obtain ⟨rfl, y⟩ := y
    exact hs i x c _ (y xs (hl i c _ hi p)) p
  · have e : i = xs.length := by omega
    subst e
    exact .inl ⟨⟨xs, hl _ c H hi p, Nat.le_refl _⟩, hd c H p⟩

section
variable {P : Program} {w : World} {K : PySem.W.Frag} {mg : Str → Option Value} {base : Heap}
/-! ### the delays that show a pair -/
def nodD (gs : List Gt) : List (List Int) := gs.map fun gt => List.replicate gt.2.length 0
def delsD (D : List (List Int)) : PyData := .tuple (D.map rowD)
theorem row_new {H : Hp} {a : Addr} {r : List Int} (h : H a = some (.tup (r.map V.int))) : Tk H (.ref a) (rowD r) := .tup h (TkAll.ints r)
theorem rep_int (n : Nat) : (List.replicate ((n : Int)).toNat [V.int 0]).flatten = (List.replicate n (0 : Int)).map V.int := by
  rw [Int.toNat_natCast]
  induction n with
  | zero => rfl
  | succ n ih =>
    rw [List.replicate_succ, List.flatten_cons, ih, List.replicate_succ]
    rfl
def sp_no_delays (T : Tx K mg) : Sp := fun vs H Q _ => ∃ (nv : V) (m : Nat) (gs : List Gt), vs = [nv] ∧ Tk H nv (netD m gs) ∧ NetOk m gs ∧ gs.length ≤ 64 ∧ GxR.TabG H T.P_no_delays ∧ ∀ r H', Gr H H' → Tk H' (.ref r) (delsD (nodD gs)) → Q (.ref r) H'
theorem ok_no_delays (T : Tx K mg) (B : Tb base T) : FnOk P w K mg base CX0 2 T.f_no_delays T.fd_no_delays ["net"] (sp_no_delays T) := by
  refine okC T.F_no_delays sc_no_delays (fun vs H Q E h => ?_) (fun A outer s H vs Q E hr h => ?_)
  · obtain ⟨nv, m, gs, rfl, _⟩ := h
    rfl
  · obtain ⟨nv, m, gs, rfl, tn, okn, g64, tab, q⟩ := h
    refine ⟨_, (pss_one (ps_ret (pe_tupX (own := [("table", 1), ("ins", 2)]) (k := 0) (hr.mono (by decide)) rfl sc_no_delays.nd (by rfl) T.m_tuple (by decide +kernel) B.TB_no_delays T.cd_no_delays rfl rfl (by decide +kernel) (blkOk_by (own := [("table", 1), ("ins", 2)]) (N := ["net", "table", "ins"]) (sc := defScope s_no_delays) (by decide +kernel)) (pi_tup (pe_ix ix_tup (pv 0) pe_int (fun _ _ => rfl))) (fun _ _ _ _ _ _ _ hr gd => (show PG _ _ (gTup K 2 _) from pg_tup rfl (pgs_cons (pg_name (i := 1) sc_no_delays.nd rfl (by first | exact .inl rfl | exact .inr rfl)) (pgs_cons (pg_name (i := 2) sc_no_delays.nd rfl (by first | exact .inl rfl | exact .inr rfl)) pgs_nil)))) (fun _ _ _ _ _ _ _ hr gd => pts_nil) (fun _ _ _ _ _ _ _ hr gd => (pe_op (op_repT1 : OpR _ _ (rRepT1 K)) (pe_tup (pa_cons pe_int pa_nil)) (pe_callB (show CallR _ _ (rLenK K) from call_len_seq) (by rfl) T.m_len PySem.boot_len (pa_cons (pv 2) pa_nil)))) (fun _ => rfl)))), ?_⟩
    obtain ⟨n, g, xs, rfl, hn, hg, tg⟩ := tn.net_inv
    have lx : xs.length = gs.length := by rw [tg.length, List.length_map]
    refine ⟨.ref n, rfl, n, _, 1, .ref g, rfl, rfl, SqT.of hn, rfl, g, rfl, ⟨_, SqT.of hg⟩, tab, fun H2 tb2 => ?_⟩
    have g2 := Gr.tab tab tb2
    refine gx_tup (K := K) (a := g) (xs := xs) (fun i ys H' => Gr H H' ∧ TkAll H' ys ((gs.take i).map fun gt => rowD (List.replicate gt.2.length 0))) ⟨g2, .nil⟩ (fun i _ H' _ z => SqT.of (z.1.tup hg)) ?_ ?_
    · rintro i v ys H' hv ⟨gr, ta⟩
      obtain ⟨gt, hgt, tgt⟩ := tg.at hv
      obtain ⟨ga, ii, rfl, hga, hii⟩ := (tgt.gr gr).gt_inv
      obtain ⟨ok1, ok2, ok3, ok4⟩ := okn i gt hgt
      have hi := (List.getElem?_eq_some_iff.mp hgt).1
      refine ⟨ga, _, rfl, SqT.of hga, rfl, _, _, rfl, _, _, rfl, rfl, rfl, ?_⟩
      refine ⟨sl1, fun t nt => ?_⟩
      have s1 := same_upd (o := HO.tup [V.int 0]) nt
      refine ⟨.ref ii, rfl, ii, _, rfl, .inr (SqT.of (s1 _ _ hii)), ?_⟩
      rw [List.length_map, List.length_map]
      refine repA (k := ((gt.2.length : Nat) : Int)) upd_same (fun z => by cases z) (by omega) (by omega) (by decide) fun p H3 s3 hp => ?_
      rw [rep_int] at hp
      have sA := s1.trans s3
      refine ⟨?_, gr.trans (Gr.of sA), ?_⟩
      · have := ta.length
        rw [List.length_map, List.length_take] at this
        exact Nat.lt_of_lt_of_le (show ys.length < 100 by omega) (by decide)
      · rw [List.take_add_one, hgt]
        show TkAll _ _ ((gs.take i ++ [gt]).map _)
        rw [List.map_append]
        exact (ta.same sA).append (.cons (row_new hp) .nil)
    · rintro ys H' ⟨gr, ta⟩
      rw [lx, List.take_length] at ta
      have ly : ys.length = gs.length := by rw [ta.length, List.length_map]
      refine ⟨Nat.le_trans (show ys.length ≤ 64 by omega) (by decide), fun p np => ?_⟩
      refine q p _ (gr.trans (Gr.none np)) (.tup upd_same ?_)
      unfold nodD
      rw [List.map_map]
      exact ta.same (same_upd np)
def inDel (w : Wd) (p : Int × Int) : Int := (if p.1 ≠ w.2.1 then 1 else 0) + (if p.2 ≠ w.2.1 then 1 else 0)
def sp_input_delay (T : Tx K mg) : Sp := fun vs H Q _ => ∃ (wa pa : Addr) (x : Wd) (p : Int × Int), vs = [.ref wa, .ref pa] ∧ H wa = some (.tup [.int x.1, .int x.2.1, .bl x.2.2]) ∧ H pa = some (.tup [.int p.1, .int p.2]) ∧ GxR.TabG H T.P_input_delay ∧ ∀ H', Gr H H' → Q (.int (inDel x p)) H'
theorem ok_input_delay (T : Tx K mg) (B : Tb base T) : FnOk P w K mg base CX0 2 T.f_input_delay T.fd_input_delay ["word", "pair"] (sp_input_delay T) := by
  refine okC T.F_input_delay sc_input_delay (fun vs H Q E h => ?_) (fun A outer s H vs Q E hr h => ?_)
  · obtain ⟨wa, pa, x, p, rfl, _⟩ := h
    rfl
  · obtain ⟨wa, pa, x, p, rfl, hwa, hpa, tab, q⟩ := h
    refine ⟨_, (pss_one (ps_ret (GxS.pe_sumX (own := [("worth", 2)]) (k := 0) (hr.mono (by decide)) rfl sc_input_delay.nd (by rfl) T.m_sum (by decide +kernel) B.TB_input_delay T.cd_input_delay rfl rfl (by decide +kernel) (blkOk_by (own := [("worth", 2)]) (N := ["word", "pair", "worth"]) (sc := defScope s_input_delay) (by decide +kernel)) (pi_tup (pv 1)) (fun _ _ _ _ _ _ _ hr gd => (pg_name (i := 2) sc_input_delay.nd rfl (by first | exact .inl rfl | exact .inr rfl))) (fun _ _ _ _ _ _ _ hr gd => (pts_one (pt_cmpR op_ne (pv 2) (pe_ix (show IxR _ (rIxT K) from ix_tup) (pv 0) pe_int (fun _ _ => rfl)) (nomark _)))) (fun _ _ _ _ _ _ _ hr gd => pe_int) (fun _ => rfl)))), ?_⟩
    refine ⟨.ref pa, rfl, pa, rfl, ⟨_, SqT.of hpa⟩, tab, fun H2 tb2 => ?_⟩
    have g2 := Gr.tab tab tb2
    refine gx_tup (K := K) (a := pa) (xs := [p.1, p.2].map V.int) (fun i acc H' => Gr H H' ∧ acc = ((([p.1, p.2].take i).filter fun y => decide (y ≠ x.2.1)).length : Nat)) ⟨g2, rfl⟩ (fun i _ H' _ z => SqT.of (z.1.tup hpa)) ?_ ?_
    · rintro i v acc H3 hv ⟨g3, rfl⟩
      rw [List.getElem?_map] at hv
      obtain ⟨y, hy, rfl⟩ := Option.map_eq_some_iff.mp hv
      have hi : i < 2 := (List.getElem?_eq_some_iff.mp hy).1
      have lf : (([p.1, p.2].take i).filter fun y => decide (y ≠ x.2.1)).length ≤ i := Nat.le_trans (List.length_filter_le ..) (by rw [List.length_take]; omega)
      have ef : ([p.1, p.2].take (i + 1)).filter (fun y => decide (y ≠ x.2.1)) = ([p.1, p.2].take i).filter (fun y => decide (y ≠ x.2.1)) ++ (if decide (y ≠ x.2.1) = true then [y] else []) := by
        rw [List.take_add_one, hy, List.filter_append]
        congr 1
        show List.filter _ [y] = _
        rw [List.filter_cons, List.filter_nil]
      refine ⟨rfl, .int y, rfl, .ref wa, rfl, wa, _, 1, .int x.2.1, rfl, rfl, SqT.of (g3.tup hwa), rfl, rfl, _, rfl, ite2 (fun e => ?_) (fun e => ⟨g3, ?_⟩)⟩
      · rw [evI] at e
        have e' : y ≠ x.2.1 := by simpa using e
        refine ⟨1, rfl, ⟨by decide, by decide⟩, ⟨by omega, by omega⟩, g3, ?_⟩
        rw [ef, if_pos (decide_eq_true e'), List.length_append]
        push_cast
        rfl
      · rw [evI] at e
        have e' : ¬ y ≠ x.2.1 := by simpa using e
        rw [ef, if_neg (fun z => e' (of_decide_eq_true z)), List.append_nil]
    · rintro acc H3 ⟨g3, rfl⟩
      have z := q H3 g3
      have : inDel x p = ((([p.1, p.2].take ([p.1, p.2].map V.int).length).filter fun y => decide (y ≠ x.2.1)).length : Nat) := by
        unfold inDel
        by_cases h1 : p.1 = x.2.1 <;> by_cases h2 : p.2 = x.2.1 <;> simp [h1, h2]
      rw [this] at z
      exact z
def setD (D : List (List Int)) (g j : Nat) (v : Int) : List (List Int) := D.set g ((D.getD g []).set j v)
def wordAt (gs : List Gt) (words : List Wd) (g j : Nat) : Wd := words.getD (((gs.map (·.2)).getD g []).getD j 0) (0, 0, false)
def stepD (gs : List Gt) (words : List Wd) (D : List (List Int)) (x : (Nat × Nat) × (Int × Int)) : List (List Int) := setD D x.1.1 x.1.2 (inDel (wordAt gs words x.1.1 x.1.2) x.2)
def delM (gs : List Gt) (words : List Wd) (L : Ls) : List (List Int) := L.foldl (stepD gs words) (nodD gs)
def LOk (gs : List Gt) (L : Ls) : Prop := ∀ x ∈ L, ∃ (gt : Gt) (r : Nat), gs[x.1.1]? = some gt ∧ gt.2[x.1.2]? = some r
structure LsAt (H : Hp) (ls : List Addr) (ds : List (List Int)) : Prop where
  len : ls.length = ds.length
  nd : ls.Nodup
  at_ : ∀ (i : Nat) (r : Addr) (d : List Int), ls[i]? = some r → ds[i]? = some d → H r = some (.lst (d.map V.int))
theorem LsAt.same {H H' : Hp} {ls : List Addr} {ds : List (List Int)} (h : LsAt H ls ds) (s : Same H H') : LsAt H' ls ds := ⟨h.len, h.nd, fun i r d e1 e2 => s _ _ (h.at_ i r d e1 e2)⟩
theorem LsAt.gr {H H' : Hp} {ls : List Addr} {ds : List (List Int)} (h : LsAt H ls ds) (s : Gr H H') : LsAt H' ls ds := ⟨h.len, h.nd, fun i r d e1 e2 => s.lst (h.at_ i r d e1 e2)⟩
theorem LsAt.get {H : Hp} {ls : List Addr} {ds : List (List Int)} (h : LsAt H ls ds) {i : Nat} {r : Addr} (hr : ls[i]? = some r) : ∃ d, ds[i]? = some d ∧ H r = some (.lst (d.map V.int)) := by
  have hi : i < ds.length := by rw [← h.len]; exact (List.getElem?_eq_some_iff.mp hr).1
  exact ⟨ds[i], List.getElem?_eq_getElem hi, h.at_ i r _ hr (List.getElem?_eq_getElem hi)⟩
theorem LsAt.snoc {H : Hp} {ls : List Addr} {ds : List (List Int)} {r : Addr} {d : List Int} (h : LsAt H ls ds) (hr : H r = some (.lst (d.map V.int))) (new : r ∉ ls) : LsAt H (ls ++ [r]) (ds ++ [d]) := by
  refine ⟨by rw [List.length_append, List.length_append, h.len]; rfl, ?_, fun i r' d' e1 e2 => ?_⟩
  · rw [List.nodup_append]
    exact ⟨h.nd, List.nodup_cons.mpr ⟨by simp, List.nodup_nil⟩, fun x hx y hy e => new (by rw [List.mem_singleton.mp hy] at e; exact e ▸ hx)⟩
  by_cases z : i < ls.length
  · rw [List.getElem?_append_left z] at e1
    rw [List.getElem?_append_left (by rw [← h.len]; exact z)] at e2
    exact h.at_ i r' d' e1 e2
  · rw [List.getElem?_append_right (by omega)] at e1
    rw [List.getElem?_append_right (by rw [← h.len]; omega), ← h.len] at e2
    obtain ⟨k, hk⟩ : ∃ k, i - ls.length = k := ⟨_, rfl⟩
    rw [hk] at e1 e2
    cases k with
    | zero =>
      cases Option.some.inj e1
      cases Option.some.inj e2
      exact hr
    | succ k => cases e1
theorem LsAt.set {H : Hp} {ls : List Addr} {ds : List (List Int)} (h : LsAt H ls ds) {g : Nat} {r : Addr} (hr : ls[g]? = some r) (d : List Int) : LsAt (upd H r (.lst (d.map V.int))) ls (ds.set g d) := by
  have hg : g < ls.length := (List.getElem?_eq_some_iff.mp hr).1
  refine ⟨by rw [List.length_set]; exact h.len, h.nd, fun i r' d' e1 e2 => ?_⟩
  by_cases z : i = g
  · subst z
    cases Option.some.inj (e1.symm.trans hr)
    rw [List.getElem?_set_self (by rw [← h.len]; exact hg)] at e2
    cases Option.some.inj e2
    exact upd_same
  · rw [List.getElem?_set_ne (fun e => z e.symm)] at e2
    have ne : r' ≠ r := fun e => by
      subst e
      obtain ⟨h1, e1'⟩ := List.getElem?_eq_some_iff.mp e1
      obtain ⟨h2, e2'⟩ := List.getElem?_eq_some_iff.mp hr
      rcases Nat.lt_or_gt_of_ne z with lt | gt
      · exact List.pairwise_iff_getElem.mp h.nd i g h1 h2 lt (e1'.trans e2'.symm)
      · exact List.pairwise_iff_getElem.mp h.nd g i h2 h1 gt (e2'.trans e1'.symm)
    rw [upd_ne ne]
    exact h.at_ i r' d' e1 e2
def Shape (gs : List Gt) (D : List (List Int)) : Prop := D.length = gs.length ∧ ∀ (g : Nat) (gt : Gt) (d : List Int), gs[g]? = some gt → D[g]? = some d → d.length = gt.2.length
theorem shape_nod (gs : List Gt) : Shape gs (nodD gs) := by
  unfold nodD
  refine ⟨List.length_map _, fun g gt d h1 h2 => ?_⟩
  rw [List.getElem?_map, h1] at h2
  cases Option.some.inj h2
  exact List.length_replicate
theorem shape_set {gs : List Gt} {D : List (List Int)} (h : Shape gs D) (g j : Nat) (v : Int) : Shape gs (setD D g j v) := by
  unfold setD
  refine ⟨by rw [List.length_set]; exact h.1, fun i gt d h1 h2 => ?_⟩
  by_cases z : i = g
  · subst z
    by_cases hi : i < D.length
    · rw [List.getElem?_set_self hi] at h2
      cases Option.some.inj h2
      rw [List.length_set]
      exact h.2 i gt _ h1 (by rw [List.getD_eq_getElem?_getD, List.getElem?_eq_getElem hi]; rfl)
    · rw [List.getElem?_eq_none (by rw [List.length_set]; omega)] at h2
      cases h2
  · rw [List.getElem?_set_ne (fun e => z e.symm)] at h2
    exact h.2 i gt d h1 h2
theorem shape_del {gs : List Gt} {words : List Wd} : ∀ {L : Ls} {D : List (List Int)}, Shape gs D → Shape gs (L.foldl (stepD gs words) D)
  | [], _, h => h
  | x :: L, _, h => shape_del (L := L) (shape_set h _ _ _)
def sp_delays_by (T : Tx K mg) : Sp := fun vs H Q _ => ∃ (nv : V) (wv wa : Addr) (m k : Nat) (gs : List Gt) (words : List Wd) (p : Int × Int) (st : Wf × Ls), vs = [nv, .ref wv, .int (m + k : Nat), .ref wa] ∧ Tk H nv (netD m gs) ∧ Tk H (.ref wv) (.tuple (words.map wD)) ∧ NetOk m gs ∧ k < gs.length ∧ gs.length ≤ 64 ∧ (∀ x ∈ words, Wok x) ∧ words.length = m + gs.length ∧ m ≤ 6 ∧ H wa = some (.tup [.int p.1, .int p.2]) ∧ readN m gs words k p (k + 1) = some st ∧ LOk gs st.2 ∧ Tabs H T.tabs ∧
  ∀ r H', Gr H H' → Tk H' (.ref r) (delsD (delM gs words st.2)) → Q (.ref r) H'
theorem word_at {H : Hp} {wv : Addr} {ws : List V} {words : List Wd} (hw : H wv = some (.tup ws)) (tw : TkAll H ws (words.map wD)) {r : Nat} (hr : r < words.length) : ∃ a, atI ws ((r : Nat) : Int) = some (.ref a) ∧ H a = some (.tup [.int (words.getD r (0, 0, false)).1, .int (words.getD r (0, 0, false)).2.1, .bl (words.getD r (0, 0, false)).2.2]) := by
  have e : words[r]? = some (words.getD r (0, 0, false)) := by rw [List.getD_eq_getElem?_getD, List.getElem?_eq_getElem hr]; rfl
  obtain ⟨v, hv, tv⟩ := tw.at' e
  obtain ⟨a, rfl, ha⟩ := wd_inv tv
  exact ⟨a, atI_nat hv, ha⟩
theorem ok_delays_by (T : Tx K mg) (B : Tb base T) : FnOk P w K mg base CX0 5 T.f_delays_by T.fd_delays_by ["net", "words", "wire", "pair"] (sp_delays_by T) := by
  refine okC T.F_delays_by sc_delays_by (fun vs H Q E h => ?_) (fun A outer s H vs Q E hr h => ?_)
  · obtain ⟨nv, wv, wa, m, k, gs, words, p, st, rfl, _⟩ := h
    rfl
  · obtain ⟨nv, wv, wa, m, k, gs, words, p, st, rfl, tn, tw, okn, hk, g64, wok, wlen, m6, hwa, hst, lok, tabs, q⟩ := h
    refine ⟨_, (pss_cons (ps_set (i := 4) sc_delays_by.nd rfl (by first | exact .inl rfl | exact .inr rfl) (pe_ix ix_tup (pv 0) pe_int (fun _ _ => rfl))) (pss_cons (ps_setLc (i := 5) (own := [("table", 10), ("ins", 11)]) (by rfl) sc_delays_by.nd rfl rfl (sw_true rfl rfl rfl (by decide +kernel)) (pi_tup (pv 4)) (blkOk_by (own := [("table", 10), ("ins", 11)]) (N := ["net", "words", "wire", "pair", "gates", "options", "delays", "gate", "place", "read_pair", "table", "ins", "part", "read"]) (sc := defScope s_delays_by) (by decide +kernel)) (fun _ _ _ _ _ => (show PG _ _ (gTup K 2 _) from pg_tup rfl (pgs_cons (pg_name (i := 10) sc_delays_by.nd rfl (by first | exact .inl rfl | exact .inr rfl)) (pgs_cons (pg_name (i := 11) sc_delays_by.nd rfl (by first | exact .inl rfl | exact .inr rfl)) pgs_nil)))) (fun _ _ _ _ _ => pts_nil) (fun _ _ _ _ _ => (pe_lc (own := [("read", 13)]) (by rfl) sc_delays_by.nd (show PI _ _ _ (iTup K _) from pi_tup (pv 11)) (blkOk_by (own := [("read", 13)]) (N := ["net", "words", "wire", "pair", "gates", "options", "delays", "gate", "place", "read_pair", "table", "ins", "part", "read"]) (sc := { kind := PySem.ScopeKind.function, names := [ (PySem.Str.ofString ".0", PySem.NameKind.local), (PySem.Str.ofString "table", PySem.NameKind.local), (PySem.Str.ofString "ins", PySem.NameKind.local), (PySem.Str.ofString "words", PySem.NameKind.cell)], isGenerator := false, isCoroutine := false, more := [] : PySem.Scope }) (by decide +kernel)) (fun _ _ _ _ _ => (pg_name (i := 13) sc_delays_by.nd rfl (by first | exact .inl rfl | exact .inr rfl))) (fun _ _ _ _ _ => pts_nil) (fun _ _ _ _ _ => (pe_call (ok_pairs_of T) (hr.mono (by decide)) (by rfl) T.g_pairs_of T.F_pairs_of.kp T.b_pairs_of .nil pass0 (pa_cons (pe_ix (show IxR _ (rIxT K) from ix_tup) (pv 1) (pv 13) (fun _ _ => rfl)) pa_nil)))))) (pss_cons (ps_setLc (i := 6) (own := [("part", 12)]) (by rfl) sc_delays_by.nd rfl rfl (sw_true rfl rfl rfl (by decide +kernel)) (pi_tup (pe_call (ok_no_delays T B) (hr.mono (by decide)) (by rfl) T.g_no_delays T.F_no_delays.kp T.b_no_delays .nil pass0 (pa_cons (pv 0) pa_nil))) (blkOk_by (own := [("part", 12)]) (N := ["net", "words", "wire", "pair", "gates", "options", "delays", "gate", "place", "read_pair", "table", "ins", "part", "read"]) (sc := defScope s_delays_by) (by decide +kernel)) (fun _ _ _ _ _ => (pg_name (i := 12) sc_delays_by.nd rfl (by first | exact .inl rfl | exact .inr rfl))) (fun _ _ _ _ _ => pts_nil) (fun _ _ _ _ _ => (pe_callTy (show CallR _ _ (rLstK K) from call_list_of) (by rfl) T.m_list (by decide +kernel) (pa_cons (pv 12) pa_nil)))) (pss_cons (ps_for PassesOwn.never rfl (ItT.pi_itemsT (pe_call (ok_pairs_read T) (hr.mono (by decide)) (by rfl) T.g_pairs_read T.F_pairs_read.kp T.b_pairs_read .nil pass0 (pa_cons (pv 0) (pa_cons (pv 5) (pa_cons (pv 2) (pa_cons (pv 3) pa_nil)))))) (pg_tup rfl (pgs_cons (pg_tup rfl (pgs_cons (pg_name (i := 7) sc_delays_by.nd rfl (by first | exact .inl rfl | exact .inr rfl)) (pgs_cons (pg_name (i := 8) sc_delays_by.nd rfl (by first | exact .inl rfl | exact .inr rfl)) pgs_nil))) (pgs_cons (pg_name (i := 9) sc_delays_by.nd rfl (by first | exact .inl rfl | exact .inr rfl)) pgs_nil))) (pss_one (ps_asg (pe_call (ok_input_delay T B) (hr.mono (by decide)) (by rfl) T.g_input_delay T.F_input_delay.kp T.b_input_delay .nil pass0 (pa_cons (pe_ix ix_tup (pv 1) (pe_ix ix_tup (pe_ix ix_tup (pe_ix ix_tup (pv 4) (pv 7) (fun _ _ => rfl)) pe_int (fun _ _ => rfl)) (pv 8) (fun _ _ => rfl)) (fun _ _ => rfl)) (pa_cons (pv 9) pa_nil))) (pg_sub (pe_ix ix_list (pv 6) (pv 7) (fun _ _ => rfl)) (pv 8) set_list)))) (pss_one (ps_ret (pe_tupX (own := [("part", 12)]) (k := 0) (hr.mono (by decide)) rfl sc_delays_by.nd (by rfl) T.m_tuple (by decide +kernel) B.TB_delays_by T.cd_delays_by rfl rfl (by decide +kernel) (blkOk_by (own := [("part", 12)]) (N := ["net", "words", "wire", "pair", "gates", "options", "delays", "gate", "place", "read_pair", "table", "ins", "part", "read"]) (sc := defScope s_delays_by) (by decide +kernel)) (pi_list (pv 6)) (fun _ _ _ _ _ _ _ hr gd => (pg_name (i := 12) sc_delays_by.nd rfl (by first | exact .inl rfl | exact .inr rfl))) (fun _ _ _ _ _ _ _ hr gd => pts_nil) (fun _ _ _ _ _ _ _ hr gd => (pe_callTy (show CallR _ _ (rTupK K) from call_tuple_of) (by rfl) T.m_tuple (by decide +kernel) (pa_cons (pv 12) pa_nil))) (fun _ => rfl)))))))), ?_⟩
    obtain ⟨n, g, xs, rfl, hn, hg, tg⟩ := id tn.net_inv
    have lx : xs.length = gs.length := by rw [tg.length, List.length_map]
    obtain ⟨wv', ws, e, hwv, tws⟩ := tw.tup_inv
    cases e
    refine ⟨.ref n, rfl, n, _, 1, .ref g, rfl, rfl, SqT.of hn, rfl, ?_⟩
    -- what each place may read
    refine ⟨.ref g, rfl, g, rfl, ⟨_, SqT.of hg⟩, fun D nD => ?_⟩
    refine lc_tup (K := K) (a := g) (xs := xs) (fun i H' => Same H (hd1 D H') ∧ ∃ os : List Addr, H' D = some (.lst (os.map V.ref)) ∧ os.length = i ∧ ∀ (j : Nat) (o : Addr) (gt : Gt), os[j]? = some o → gs[j]? = some gt → OptAt (hd1 D H') o (pick words gt.2)) ⟨hd1_of (same_upd nD) nD, [], upd_same, rfl, fun j o gt e => by simp at e⟩ (fun i H' _ z => SqT.of (hd1_le _ _ (z.1 _ _ hg))) ?_ ?_
    · rintro i v H1 hv ⟨s1, os, hD, los, hos⟩
      obtain ⟨gt, hgt, tgt⟩ := tg.at hv
      obtain ⟨ga, ii, rfl, hga, hii⟩ := tgt.gt_inv
      obtain ⟨ok1, ok2, ok3, ok4⟩ := okn i gt hgt
      have hi := (List.getElem?_eq_some_iff.mp hgt).1
      have s1' : Same H H1 := fun b o e => hd1_le _ _ (s1 _ _ e)
      refine ⟨ga, _, rfl, SqT.of (s1' _ _ hga), rfl, _, _, rfl, _, _, rfl, rfl, rfl, ?_⟩
      refine ⟨.ref ii, rfl, ii, rfl, ⟨_, SqT.of (s1' _ _ hii)⟩, fun I nI => ?_⟩
      refine lc_tup (K := K) (a := ii) (xs := (gt.2.map Int.ofNat).map V.int) (fun j H' => Same H1 (hd1 I H') ∧ ∃ acc, H' I = some (.lst acc) ∧ TkAll (hd1 I H') acc ((pick words (gt.2.take j)).map fun x => PyData.tuple ((pw x).map prD))) ⟨hd1_of (same_upd nI) nI, [], upd_same, .nil⟩ (fun j H' _ z => SqT.of (hd1_le _ _ (z.1 _ _ (s1' _ _ hii)))) ?_ ?_
      · rintro j u H2 hu ⟨s2, acc, hI, ta⟩
        rw [List.getElem?_map, List.getElem?_map] at hu
        obtain ⟨rd, hrd, rfl⟩ : ∃ rd : Nat, gt.2[j]? = some rd ∧ u = V.int (rd : Nat) := by
          cases hz : gt.2[j]? with
          | none => rw [hz] at hu; cases hu
          | some y => rw [hz] at hu; exact ⟨y, rfl, (Option.some.inj hu).symm⟩
        have hrw : rd < words.length := by have := ok4 rd (List.mem_of_getElem? hrd); omega
        have s2' : Same H H2 := fun b o e => hd1_le _ _ (s2 _ _ (s1' _ _ e))
        obtain ⟨a2, hat2, ha2⟩ := word_at hwv tws hrw
        have okx := pick_ok wok [rd] (words.getD rd (0, 0, false)) (by unfold pick; simp)
        refine ⟨rfl, ?_⟩
        refine ⟨.ref wv, rfl, .int (rd : Nat), rfl, wv, _, _, .ref a2, rfl, rfl, SqT.of (s2' _ _ hwv), hat2, a2, _, _, _, rfl, s2' _ _ ha2, okx.1, okx.2, fun r H3 s3 p3 => ?_⟩
        have hI3 := s3 _ _ hI
        have sI := hd1_same (p := I) s3
        refine ⟨acc, hI3, ?_, (s2.trans sI).trans hd1_upd, acc ++ [.ref r], upd_same, ?_⟩
        · have := ta.length
          rw [List.length_map, pick_len, List.length_take] at this
          exact Nat.lt_of_lt_of_le (show acc.length < 64 by omega) (by decide)
        · have ep : pick words (gt.2.take (j + 1)) = pick words (gt.2.take j) ++ [words.getD rd (0, 0, false)] := by
            unfold pick
            rw [List.take_add_one, hrd, List.map_append]
            rfl
          rw [ep, List.map_append]
          exact ((ta.same sI).same hd1_upd).append (.cons ((p3.tk hI3).same hd1_upd) .nil)
      · rintro H2 ⟨s2, acc, hI, ta⟩
        rw [List.length_map, List.length_map, List.take_length] at ta
        have s12 : Same H1 H2 := fun b o e => hd1_le _ _ (s2 _ _ e)
        have hD2 := s12 _ _ hD
        have nID : I ≠ D := (ne_of_none hD nI).symm
        have sD := (hd1_same (p := D) s12).trans (hd1_upd (p := D) (H := H2) (o := .lst (os.map V.ref ++ [.ref I])))
        refine ⟨os.map V.ref, hD2, ?_, s1.trans sD, os ++ [I], by rw [upd_same, List.map_append]; rfl, by rw [List.length_append, los]; rfl, fun j o gt' e1 e2 => ?_⟩
        · rw [List.length_map]
          exact Nat.lt_of_lt_of_le (show os.length < 100 by omega) (by decide)
        · by_cases z : j < os.length
          · rw [List.getElem?_append_left z] at e1
            exact (hos j o gt' e1 e2).same sD
          · rw [List.getElem?_append_right (by omega)] at e1
            have ej : j = os.length := by
              have := (List.getElem?_eq_some_iff.mp e1).1
              simp at this
              omega
            subst ej
            rw [Nat.sub_self] at e1
            cases Option.some.inj e1
            rw [los] at e2
            cases Option.some.inj (e2.symm.trans hgt)
            refine ⟨acc, by rw [hd1_at nID, upd_ne nID]; exact hI, ta.ts (fun b ys e => ?_) (noLs_map (fun x => ?_) _)⟩
            · have e' := hd1_le _ _ e
              have nb : b ≠ D := fun z => by rw [z, hD2] at e'; cases e'
              rw [hd1_at nb, upd_ne nb]
              exact e'
            · show noLs ((pw x).map prD) = true
              exact noLs_map (fun _ => rfl) _
    · rintro H1 ⟨s1, os, hD, los, hos⟩
      have lis : os.length = gs.length := by rw [los, lx]
      have s1' : Same H H1 := fun b o e => hd1_le _ _ (s1 _ _ e)
      have opts1 : OptsAt H1 D words gs := ⟨os, hD, lis, fun j o gt e1 e2 => (hos j o gt e1 e2).same hd1_le⟩
      have t1 := (Gr.of s1').tabs tabs
      -- all delays nought
      refine ⟨.ref n, rfl, .ref n, m, gs, rfl, tn.same s1', okn, g64, t1 _ (by simp [Tx.tabs]), fun rn H2 g2 tr => ?_⟩
      obtain ⟨rn', zs, e, hrn, tz⟩ := tr.tup_inv
      cases e
      have lz : zs.length = gs.length := by rw [tz.length, List.length_map]; unfold nodD; rw [List.length_map]
      have g02 := (Gr.of s1').trans g2
      refine ⟨rn, rfl, ⟨_, SqT.of hrn⟩, fun D2 nD2 => ?_⟩
      refine lc_tup (K := K) (a := rn) (xs := zs) (fun i H' => Same H2 (hd1 D2 H') ∧ ∃ ls : List Addr, H' D2 = some (.lst (ls.map V.ref)) ∧ LsAt (hd1 D2 H') ls ((nodD gs).take i) ∧ ∀ r ∈ ls, H2 r = none ∧ r ≠ D2) ⟨hd1_of (same_upd nD2) nD2, [], upd_same, ⟨rfl, List.nodup_nil, fun i r d e => by simp at e⟩, fun r hr => by cases hr⟩ (fun i H' _ z => SqT.of (hd1_le _ _ (z.1 _ _ hrn))) ?_ ?_
      · rintro i v H3 hv ⟨s3, ls, hD2, lsa, new⟩
        obtain ⟨dr, hdr, tdr⟩ := tz.at hv
        obtain ⟨pa, rfl, hpa⟩ := tdr.row_inv
        refine ⟨rfl, .ref pa, rfl, pa, _, rfl, .inr (SqT.of (hd1_le _ _ (s3 _ _ hpa))), fun l nl => ?_⟩
        have nlD : l ≠ D2 := (ne_of_none hD2 nl).symm
        have s5 := hd1_same (p := D2) (same_upd (o := HO.lst (dr.map V.int)) nl)
        have l2 : H2 l = none := by
          cases z : H2 l with
          | none => rfl
          | some o =>
            have := hd1_le _ _ (s3 _ _ z)
            rw [nl] at this
            cases this
        have nls : l ∉ ls := fun z => by
          obtain ⟨j, hj⟩ := List.getElem?_of_mem z
          obtain ⟨d', _, hd'⟩ := lsa.get hj
          have := hd1_le _ _ hd'
          rw [nl] at this
          cases this
        refine ⟨ls.map V.ref, by rw [upd_ne nlD.symm]; exact hD2, ?_, (s3.trans s5).trans hd1_upd, ls ++ [l], by rw [upd_same, List.map_append]; rfl, ?_, fun r hr => ?_⟩
        · have := lsa.len
          rw [List.length_take] at this
          have hi := (List.getElem?_eq_some_iff.mp hv).1
          rw [List.length_map]
          exact Nat.lt_of_lt_of_le (show ls.length < 100 by omega) (by decide)
        · rw [List.take_add_one, hdr]
          refine ((lsa.same s5).same hd1_upd).snoc (r := l) ?_ nls
          rw [hd1_at nlD, upd_ne nlD, upd_same]
        · rcases List.mem_append.mp hr with z | z
          · exact new r z
          · rw [List.mem_singleton.mp z]
            exact ⟨l2, nlD⟩
      · rintro H3 ⟨s3, ls, hD2, lsa, new⟩
        have lnod : (nodD gs).length = gs.length := by unfold nodD; rw [List.length_map]
        rw [lz, ← lnod, List.take_length] at lsa
        have s23 : Same H2 H3 := fun b o e => hd1_le _ _ (s3 _ _ e)
        have g03 := g02.trans (Gr.of s23)
        have lsa3 := lsa.same (hd1_le (p := D2) (H := H3))
        refine ⟨.ref n, rfl, .ref D, rfl, .int (m + k : Nat), rfl, .ref wa, rfl, .ref n, D, wa, m, k, gs, words, p, st, rfl, tn.gr g03, okn, hk, g64, ?_, wok, wlen, m6, g03.tup hwa, hst, fun F H4 nF s4 fF => ?_⟩
        · obtain ⟨os', h1, h2, h3⟩ := opts1
          have gA := g2.trans (Gr.of s23)
          exact ⟨os', gA.lst h1, h2, fun j o gt e1 e2 => by
            obtain ⟨ys, y1, y2⟩ := h3 j o gt e1 e2
            exact ⟨ys, gA.lst y1, y2.gr gA⟩⟩
        obtain ⟨kvs, hF, pr⟩ := fF
        have lkv : kvs.length = st.2.length := Paired.length pr
        refine ⟨F, kvs, rfl, hF, fun o => ?_⟩
        have hF3 : ∀ b u, H3 b = some u → b ≠ F := fun b u e z => by rw [z, nF] at e; cases e
        have hF2 : H2 F = none := by
          cases z : H2 F with
          | none => rfl
          | some u => have := s23 _ _ z; rw [nF] at this; cases this
        have k46 : ∀ a ys, H4 a = some (.tup ys) → upd H4 F (.frz o (.dT kvs)) a = some (.tup ys) := fun a ys e => by
          rw [upd_ne (fun z => by rw [z, hF] at e; cases e)]
          exact e
        have k36 : ∀ b u, H3 b = some u → upd H4 F (.frz o (.dT kvs)) b = some u := fun b u e => by
          rw [upd_ne (hF3 b u e)]
          exact s4 _ _ e
        have hF6 : upd H4 F (.frz o (.dT kvs)) F = some (.frz o (.dT kvs)) := upd_same
        have pr6 := paired_keep k46 pr
        have g26 : Gr H2 (hid ls (upd H4 F (.frz o (.dT kvs)))) := Gr.of fun b u e => by
          have nb : b ∉ ls := fun z => by rw [(new b z).1] at e; cases e
          rw [hid_at nb]
          exact k36 _ _ (s23 _ _ e)
        have g06 := g02.trans g26
        have lsa6 : LsAt (upd H4 F (.frz o (.dT kvs))) ls (nodD gs) := ⟨lsa3.len, lsa3.nd, fun i r d e1 e2 => k36 _ _ (lsa3.at_ i r d e1 e2)⟩
        have hD26 := k36 _ _ hD2
        revert hF6 pr6 g06 lsa6 hD26
        clear k46 k36 g26
        generalize upd H4 F _ = H6
        intro hF6 pr6 g06 lsa6 hD26
        refine ItT.for_itemsT (fun i σ H' => ∃ y7 y8 y9, σ = [some (.ref n), some (.ref wv), some (.int (m + k : Nat)), some (.ref wa), some (.ref g), some (.ref D), some (.ref D2), y7, y8, y9, none, none, none, none] ∧ Gr H (hid ls H') ∧ H' F = some (.frz o (.dT kvs)) ∧ H' D2 = some (.lst (ls.map V.ref)) ∧ LsAt H' ls ((st.2.take i).foldl (stepD gs words) (nodD gs)) ∧ ∀ a ys, H6 a = some (.tup ys) → H' a = some (.tup ys))
          ⟨_, _, _, rfl, g06, hF6, hD26, lsa6, fun _ _ e => e⟩ (fun i σ H' _ ⟨_, _, _, _, _, z, _⟩ => z) ?_ ?_
        · rintro i kk v qk T7 σ H7 hkv nT hqk ⟨y7, y8, y9, rfl, g7, hF7, hD7, lsa7, k7⟩
          obtain ⟨x, hx, ekk, za, rfl, hza⟩ := paired_get pr6 hkv
          obtain ⟨⟨gi, j⟩, p'⟩ := x
          obtain rfl : kk = kNN gi j := ekk
          obtain ⟨gt, rd, hgt, hrd⟩ := lok _ (List.mem_of_getElem? hx)
          have hgt : gs[gi]? = some gt := hgt
          have hrd : gt.2[j]? = some rd := hrd
          obtain ⟨ok1, ok2, ok3, ok4⟩ := okn gi gt hgt
          have hgi := (List.getElem?_eq_some_iff.mp hgt).1
          have hj := (List.getElem?_eq_some_iff.mp hrd).1
          have hrw : rd < words.length := by have := ok4 rd (List.mem_of_getElem? hrd); omega
          have g7' : Gr H H7 := g7.trans (Gr.of hid_le)
          have suT := same_upd (o := HO.tup [V.ref qk, V.ref za]) nT
          obtain ⟨gv, hgv, tgv⟩ := tg.at' hgt
          obtain ⟨ga, ii, rfl, hga, hii⟩ := tgv.gt_inv
          obtain ⟨a2, hat2, ha2⟩ := word_at hwv tws hrw
          have kp : ∀ a ys, H a = some (.tup ys) → upd H7 T7 (.tup [V.ref qk, V.ref za]) a = some (.tup ys) := fun a ys e => suT _ _ (g7'.tup e)
          refine ⟨T7, _, rfl, SqT.of upd_same, rfl, _, _, rfl, qk, _, rfl, SqT.of (suT _ _ hqk), rfl, _, _, rfl, _, _, rfl, rfl, _, _, rfl, rfl, ?_⟩
          have hza8 := suT _ _ (k7 _ _ hza)
          have hF8 := suT _ _ hF7
          have hD8 := suT _ _ hD7
          have lsa8 := lsa7.same suT
          have g8 := g7.trans (Gr.of (hid_same (as := ls) suT))
          have k8 : ∀ a ys, H6 a = some (.tup ys) → upd H7 T7 (.tup [V.ref qk, V.ref za]) a = some (.tup ys) := fun a ys e => suT _ _ (k7 _ _ e)
          revert kp hza8 hF8 hD8 lsa8 g8 k8
          clear suT
          generalize upd H7 T7 _ = H8
          intro kp hza8 hF8 hD8 lsa8 g8 k8
          have g8' : Gr H H8 := g8.trans (Gr.of hid_le)
          have t8 := g8'.tabs tabs
          have atg : atI xs ((gi : Nat) : Int) = some (.ref ga) := atI_nat hgv
          have atj : atI ((gt.2.map Int.ofNat).map V.int) ((j : Nat) : Int) = some (.int (rd : Nat)) := atI_nat (by rw [List.getElem?_map, List.getElem?_map, hrd]; rfl)
          refine ⟨.ref wv, rfl, .ref g, rfl, .int (gi : Nat), rfl, g, _, _, .ref ga, rfl, rfl, SqT.of (kp _ _ hg), atg, ga, _, 1, .ref ii, rfl, rfl, SqT.of (kp _ _ hga), rfl, .int (j : Nat), rfl, ii, _, _, .int (rd : Nat), rfl, rfl, SqT.of (kp _ _ hii), atj, wv, _, _, .ref a2, rfl, rfl, SqT.of (kp _ _ hwv), hat2, .ref za, rfl, a2, za, words.getD rd (0, 0, false), p', rfl, kp _ _ ha2, hza8, t8 _ (by simp [Tx.tabs]), fun H9 g9 => ?_⟩
          obtain ⟨l, hl⟩ : ∃ l, ls[gi]? = some l := ⟨_, List.getElem?_eq_getElem (by rw [lsa3.len, lnod]; exact hgi)⟩
          have lsa9 := lsa8.gr g9
          obtain ⟨d9, hd9, hl9⟩ := lsa9.get hl
          have ld9 : d9.length = gt.2.length := (shape_del (L := st.2.take i) (words := words) (shape_nod gs)).2 gi gt d9 hgt hd9
          have hD9 := g9.lst hD8
          refine ⟨.ref D2, rfl, .int (gi : Nat), rfl, D2, _, _, .ref l, rfl, rfl, SqL.of hD9, atI_nat (by rw [List.getElem?_map, hl]; rfl), .int (j : Nat), rfl, l, _, _, j, rfl, rfl, hl9, ?_, ?_⟩
          · unfold ixN
            rw [List.length_map, if_pos (by omega), if_pos (by omega)]
            simp
          have nlD : l ≠ D2 := (new l (List.mem_of_getElem? hl)).2
          have hF9 : H9 F = some (.frz o (.dT kvs)) := g9.1 _ _ (fun _ z => by cases z) hF8
          have nlF : l ≠ F := fun z => by rw [z, hF9] at hl9; cases hl9
          have est : (st.2.take (i + 1)).foldl (stepD gs words) (nodD gs) = ((st.2.take i).foldl (stepD gs words) (nodD gs)).set gi (d9.set j (inDel (words.getD rd (0, 0, false)) p')) := by
            rw [List.take_add_one, hx, List.foldl_append]
            show stepD gs words (List.foldl (stepD gs words) (nodD gs) (st.2.take i)) ((gi, j), p') = _
            revert hd9
            generalize List.foldl (stepD gs words) (nodD gs) (st.2.take i) = Di
            intro hd9
            unfold stepD setD wordAt
            have e1 : ((gs.map (·.2)).getD gi []) = gt.2 := by rw [List.getD_eq_getElem?_getD, List.getElem?_map, hgt]; rfl
            have e2 : gt.2.getD j 0 = rd := by rw [List.getD_eq_getElem?_getD, hrd]; rfl
            dsimp only
            rw [e1, e2, List.getD_eq_getElem?_getD, hd9]
            rfl
          have emap : ((d9.map V.int).set j (V.int (inDel (words.getD rd (0, 0, false)) p'))) = (d9.set j (inDel (words.getD rd (0, 0, false)) p')).map V.int := by rw [List.map_set]
          refine ⟨_, _, _, rfl, (g8.trans (hid_gr g9)).trans (Gr.of (hid_set (List.mem_of_getElem? hl))), by rw [upd_ne nlF.symm]; exact hF9, by rw [upd_ne nlD.symm]; exact hD9, ?_, fun a ys e => ?_⟩
          · rw [est, emap]
            exact lsa9.set hl _
          · have e' := g9.tup (k8 _ _ e)
            rw [upd_ne (fun z => by rw [z, hl9] at e'; cases e')]
            exact e'
        · rintro σ H7 ⟨y7, y8, y9, rfl, g7, hF7, hD7, lsa7, k7⟩
          rw [lkv, List.take_length] at lsa7
          have g7' : Gr H H7 := g7.trans (Gr.of hid_le)
          have t7 := g7'.tabs tabs
          have tab : GxR.TabG H7 T.P_delays_by := t7 _ (by simp [Tx.tabs])
          have lD : (delM gs words st.2).length = gs.length := (shape_del (L := st.2) (words := words) (shape_nod gs)).1
          have lsa7 : LsAt H7 ls (delM gs words st.2) := lsa7
          refine ⟨.ref D2, rfl, D2, rfl, ⟨_, SqL.of hD7⟩, tab, fun H8 tb8 => ?_⟩
          have g8 := Gr.tab tab tb8
          refine gx_list (K := K) (a := D2) (xs := ls.map V.ref) (fun i ys H' => Gr H7 H' ∧ TkAll H' ys (((delM gs words st.2).take i).map rowD)) ⟨g8, .nil⟩ (fun i _ H' _ z => SqL.of (z.1.lst hD7)) ?_ ?_
          · rintro i v ys H9 hv ⟨g9, ta⟩
            rw [List.getElem?_map] at hv
            obtain ⟨r, hr', rfl⟩ := Option.map_eq_some_iff.mp hv
            obtain ⟨d, hd, hrd⟩ := (lsa7.gr g9).get hr'
            refine ⟨rfl, .ref r, rfl, r, _, rfl, .inl ⟨SqL.of hrd, fun t nt => ⟨?_, g9.trans (Gr.none nt), ?_⟩⟩⟩
            · have := ta.length
              rw [List.length_map, List.length_take] at this
              exact Nat.lt_of_lt_of_le (show ys.length < 100 by omega) (by decide)
            · rw [List.take_add_one, hd]
              show TkAll _ _ (((delM gs words st.2).take i ++ [d]).map _)
              rw [List.map_append]
              exact (ta.same (same_upd nt)).append (.cons (row_new upd_same) .nil)
          · rintro ys H9 ⟨g9, ta⟩
            rw [List.length_map, lsa7.len, List.take_length] at ta
            have ly : ys.length = gs.length := by rw [ta.length, List.length_map, lD]
            refine ⟨Nat.le_trans (show ys.length ≤ 64 by omega) (by decide), fun p np => ?_⟩
            exact q p _ ((g7'.trans g9).trans (Gr.none np)) (.tup upd_same (ta.same (same_upd np)))

end
end Gk

set_option Elab.async false
set_option linter.all false
set_option maxRecDepth 100000
set_option maxHeartbeats 1000000
set_option pp.maxSteps 1200
set_option pp.deepTerms false
namespace Gk
open PySem PySem.Spec PyProof.Rows L2
/-- a def that raises (the plain layer), its code object known -/
theorem okL {P : Program} {w : World} {K : PySem.W.Frag} {mg : Str → Option Value} {base : Heap} {x qual : Str} {st : Stmt} {f : Addr} {fd : FuncData} {N ps : List Str} {k : Nat} {sp : Sp} (F : Fun K x qual st f fd) (S : FnScope N ps (defScope st)) (len : ∀ vs H Q E, sp vs H Q E → vs.length = ps.length)
    (walk : ∀ (A : Around) (outer : List Env) (s : Shared) (H : Hp) (vs : List V) (Q : VK) (E : XK), Room k (A.deeper (envOfC qual (defScope st) s.heap.objs.size f fd.code)) → sp vs H Q E →
      ∃ t, PSs (cxOf (L2.CX P w) P w K mg base N qual (defScope st) f fd.code A outer s H E) (defBody st) t ∧ t { nx := fun _ H' => Q .non H', rt := Q } (start N vs) H) : FnOk P w K mg base (L2.CX P w) (k + 1) f fd ps sp := by
  obtain ⟨oc, od, kV, doc, pm, an, cdv, ct, osl, rfl, lk, hcd⟩ := F.ex
  exact fn_of lk hcd S len walk

section
variable {P : Program} {w : World} {K : PySem.W.Frag} {mg : Str → Option Value} {base : Heap}
/-! ### delays shown, or none, or a refusal -/
def froAt (words : List Wd) (w : Nat) : Bool := (words.getD w (0, 0, false)).2.2
def fstAt (words : List Wd) (w : Nat) : Int := (words.getD w (0, 0, false)).1
inductive ShP {K : PySem.W.Frag} {mg : Str → Option Value} (T : Tx K mg) (vs : List V) (H : Hp) (Q : VK) (E : XK) : Prop where
  | mk (h : ∃ (nv cv : V) (m w : Nat) (gs : List Gt) (a b : List Int), vs = [nv, cv, .int (w : Nat)] ∧ Tk H nv (netD m gs) ∧ Tk H cv (chD a b) ∧ a.length = m ∧ b.length = m ∧ Row01 a ∧ Row01 b ∧ 1 ≤ m ∧ m ≤ 6 ∧ 1 ≤ gs.length ∧ gs.length ≤ 64 ∧ NetOk m gs ∧ w < m + gs.length ∧ Tabs H T.tabs ∧
  (formB m gs = true → (froAt (wordsM gs (w0M a b)) w = false → ∀ H', Gr H H' → Q .non H') ∧
  (froAt (wordsM gs (w0M a b)) w = true → ∃ k st, w = m + k ∧ readN m gs (wordsM gs (w0M a b)) k (1 - fstAt (wordsM gs (w0M a b)) w, fstAt (wordsM gs (w0M a b)) w) (k + 1) = some st ∧ LOk gs st.2 ∧ ∀ r H', Gr H H' → Tk H' (.ref r) (delsD (delM gs (wordsM gs (w0M a b)) st.2)) → Q (.ref r) H')) ∧
  (formB m gs = false → ∀ H', Gr H H' → E (.ref T.C_NotFormula) none H')) : ShP T vs H Q E
def sp_shown (T : Tx K mg) : Sp := fun vs H Q E => ShP T vs H Q E
theorem ok_shown (T : Tx K mg) (B : Tb base T) : FnOk P w K mg base (L2.CX P w) 7 T.f_shown T.fd_shown ["net", "change", "wire"] (sp_shown T) := by
  refine okL T.F_shown sc_shown (fun vs H Q E h => ?_) (fun A outer s H vs Q E hr h => ?_)
  · obtain ⟨nv, cv, m, w, gs, a, b, rfl, _⟩ := h
    rfl
  · obtain ⟨nv, cv, m, w, gs, a, b, rfl, tn, tc, la, lb, ha, hb, m1, m6, g1, g64, okn, hw, tabs, told, no⟩ := h
    refine ⟨_, (pss_cons (ps_if (pt_not (pt_val (pe_call (ok_is_formula T B) (hr.mono (by decide)) (by rfl) T.g_is_formula T.F_is_formula.kp T.b_is_formula .nil pass0 (pa_cons (pv 0) pa_nil)))) (pss_one (L2.ps_raise rfl (L2.takes_of rfl rfl rfl rfl) (L2.pmk_own PySem.F.excBase_ValueError T.q_NotFormula T.gC_NotFormula T.kC_NotFormula (raises_own T.su_NotFormula T.ty_NotFormula) (by rfl)))) pss_nil) (pss_cons (ps_set (i := 3) sc_shown.nd rfl (by first | exact .inl rfl | exact .inr rfl) (pe_call (ok_words_of T B) (hr.mono (by decide)) (by rfl) T.g_words_of T.F_words_of.kp T.b_words_of .nil pass0 (pa_cons (pv 0) (pa_cons (pv 1) pa_nil)))) (pss_cons (ps_asg (pe_ix ix_tup (pv 3) (pv 2) (fun _ _ => rfl)) (pg_tup rfl (pgs_cons (pg_name (i := 4) sc_shown.nd rfl (by first | exact .inl rfl | exact .inr rfl)) (pgs_cons (pg_name (i := 5) sc_shown.nd rfl (by first | exact .inl rfl | exact .inr rfl)) (pgs_cons (pg_name (i := 6) sc_shown.nd rfl (by first | exact .inl rfl | exact .inr rfl)) pgs_nil))))) (pss_cons (ps_if (pt_not (pt_val (pv 6))) (pss_one (ps_ret pe_non)) pss_nil) (pss_one (ps_ret (pe_call (ok_delays_by T B) (hr.mono (by decide)) (by rfl) T.g_delays_by T.F_delays_by.kp T.b_delays_by .nil pass0 (pa_cons (pv 0) (pa_cons (pv 3) (pa_cons (pv 2) (pa_cons (pe_tup (pa_cons (pe_op op_sub pe_int (pv 4)) (pa_cons (pv 4) pa_nil))) pa_nil))))))))))), ?_⟩
    have tabs2 : Tabs2 T H := ⟨tabs _ (by simp [Tx.tabs]), tabs _ (by simp [Tx.tabs]), tabs _ (by simp [Tx.tabs])⟩
    refine ⟨nv, rfl, nv, m, gs, rfl, tn, m1, m6, g1, g64, okn, tabs2, fun H1 gr1 => ?_⟩
    cases hf : formB m gs with
    | false => exact ⟨_, rfl, iteT (no hf H1 gr1)⟩
    | true =>
      obtain ⟨q0, q1⟩ := told hf
      refine ⟨_, rfl, iteF ?_⟩
      have t1 := gr1.tabs tabs
      refine ⟨nv, rfl, cv, rfl, nv, cv, m, gs, a, b, rfl, tn.gr gr1, tc.gr gr1, by rw [la, lb], ha, hb, by omega, by omega, by rw [la]; exact okn, t1 _ (by simp [Tx.tabs]), fun r H2 g2 tw => ?_⟩
      have g02 := gr1.trans g2
      have wlen : (wordsM gs (w0M a b)).length = m + gs.length := by rw [wordsM_len, w0_len (by rw [la, lb]), la]
      have wok := wordsM_ok gs (w0M a b) (w0_ok ha hb)
      revert q0 q1 tw wlen wok
      generalize wordsM gs (w0M a b) = words
      intro q0 q1 tw wlen wok
      obtain ⟨r', ws, e, hr2, tws⟩ := id tw.tup_inv
      cases e
      obtain ⟨a2, hat2, ha2⟩ := word_at hr2 tws (r := w) (by omega)
      refine ⟨.ref r, rfl, .int (w : Nat), rfl, r, _, _, .ref a2, rfl, rfl, SqT.of hr2, hat2, a2, _, rfl, SqT.of ha2, rfl, _, _, rfl, _, _, rfl, _, _, rfl, rfl, ?_⟩
      refine ⟨.bl (froAt words w), rfl, _, rfl, ?_⟩
      cases hfro : froAt words w with
      | false => exact iteT (q0 hfro H2 g02)
      | true =>
        obtain ⟨k, st, rfl, hst, lok, q⟩ := q1 hfro
        refine iteF ?_
        refine ⟨nv, rfl, .ref r, rfl, .int (m + k : Nat), rfl, .int (fstAt words (m + k)), rfl, _, _, rfl, rfl, .int (fstAt words (m + k)), rfl, sl2, fun t nt => ?_⟩
        have st3 := same_upd (o := HO.tup [V.int (1 - fstAt words (m + k)), V.int (fstAt words (m + k))]) nt
        have g3 := g02.trans (Gr.of st3)
        exact ⟨nv, r, t, m, k, gs, words, (1 - fstAt words (m + k), fstAt words (m + k)), st, rfl, tn.gr g3, tw.same st3, okn, by omega, g64, wok, wlen, m6, upd_same, hst, lok, g3.tabs tabs, fun rr H4 g4 tt => q rr H4 (g3.trans g4) tt⟩

end
end Gk

set_option Elab.async false
set_option linter.all false
set_option maxRecDepth 100000
set_option maxHeartbeats 1000000
set_option pp.maxSteps 900
namespace Gk
open PySem PySem.Spec PyProof.Rows L2
/-! ### what is wanted can be had -/
def InsL {α : Type} (c : List α) (ls : List (List α)) : Prop := c.length = ls.length ∧ ∀ (i : Nat) (x : α) (l : List α), c[i]? = some x → ls[i]? = some l → x ∈ l
theorem ins_chs {α : Type} : ∀ (n : Nat) (ls : List (List α)) (c : List α), ls.length = n → InsL c ls → c ∈ chs ls := by
  intro n
  induction n with
  | zero =>
    intro ls c h hc
    cases List.eq_nil_of_length_eq_zero h
    have : c = [] := List.eq_nil_of_length_eq_zero (by rw [hc.1]; rfl)
    subst this
    exact List.mem_singleton.mpr rfl
  | succ n ih =>
    intro ls c h hc
    have hne : ls ≠ [] := fun z => by rw [z] at h; cases h
    obtain ⟨r, x, rfl⟩ : ∃ r x, ls = r ++ [x] := ⟨ls.dropLast, ls.getLast hne, (List.dropLast_concat_getLast hne).symm⟩
    have lr : r.length = n := by rw [List.length_append] at h; simpa using h
    have lc : c.length = n + 1 := by rw [hc.1]; exact h
    have cne : c ≠ [] := fun z => by rw [z] at lc; cases lc
    obtain ⟨c0, o, rfl⟩ : ∃ c0 o, c = c0 ++ [o] := ⟨c.dropLast, c.getLast cne, (List.dropLast_concat_getLast cne).symm⟩
    have l0 : c0.length = n := by rw [List.length_append] at lc; simpa using lc
    have h0 : c0 ∈ chs r := ih r c0 lr ⟨by rw [l0, lr], fun i y l e1 e2 => hc.2 i y l (by rw [List.getElem?_append_left (List.getElem?_eq_some_iff.mp e1).1]; exact e1) (by rw [List.getElem?_append_left (List.getElem?_eq_some_iff.mp e2).1]; exact e2)⟩
    have ho : o ∈ x := hc.2 n o x (by rw [← l0, List.getElem?_append_right (Nat.le_refl _), Nat.sub_self]; rfl) (by rw [← lr, List.getElem?_append_right (Nat.le_refl _), Nat.sub_self]; rfl)
    rw [chs_snoc]
    exact List.mem_flatMap.mpr ⟨c0, h0, List.mem_map.mpr ⟨o, ho, rfl⟩⟩
theorem chs_ins {α : Type} : ∀ (n : Nat) (ls : List (List α)) (c : List α), ls.length = n → c ∈ chs ls → InsL c ls := by
  intro n
  induction n with
  | zero =>
    intro ls c h hc
    cases List.eq_nil_of_length_eq_zero h
    cases List.mem_singleton.mp hc
    exact ⟨rfl, fun i x l e => by simp at e⟩
  | succ n ih =>
    intro ls c h hc
    have hne : ls ≠ [] := fun z => by rw [z] at h; cases h
    obtain ⟨r, x, rfl⟩ : ∃ r x, ls = r ++ [x] := ⟨ls.dropLast, ls.getLast hne, (List.dropLast_concat_getLast hne).symm⟩
    have lr : r.length = n := by rw [List.length_append] at h; simpa using h
    rw [chs_snoc] at hc
    obtain ⟨c0, h0, hc⟩ := List.mem_flatMap.mp hc
    obtain ⟨o, ho, rfl⟩ := List.mem_map.mp hc
    have i0 := ih r c0 lr h0
    refine ⟨by rw [List.length_append, List.length_append, i0.1]; rfl, fun i y l e1 e2 => ?_⟩
    by_cases z : i < c0.length
    · rw [List.getElem?_append_left z] at e1
      rw [List.getElem?_append_left (by rw [← i0.1]; exact z)] at e2
      exact i0.2 i y l e1 e2
    · rw [List.getElem?_append_right (by omega)] at e1
      rw [List.getElem?_append_right (by rw [← i0.1]; omega), ← i0.1] at e2
      obtain ⟨j, hj⟩ : ∃ j, i - c0.length = j := ⟨_, rfl⟩
      rw [hj] at e1 e2
      cases j with
      | zero =>
        cases Option.some.inj e1
        cases Option.some.inj e2
        exact ho
      | succ j => cases e1
theorem pw_facts {x : Wd} (h : Wok x) {p : Int × Int} (hp : p ∈ pw x) : (p.1, x.2.1) ∈ pw x ∧ (x.1, p.1) ∈ pw x ∧ (p.1, p.1) ∈ pw x := by
  obtain ⟨f, l, c⟩ := x
  obtain ⟨h1, h2⟩ := h
  obtain ⟨a, b⟩ := p
  dsimp only at h1 h2
  unfold pw pairsM at hp ⊢
  rcases h1 with rfl | rfl <;> rcases h2 with rfl | rfl <;> cases c <;> simp at hp ⊢ <;> omega
theorem pw_base {x : Wd} (h : Wok x) : (x.1, x.1) ∈ pw x ∧ (x.1, x.2.1) ∈ pw x ∧ (x.2.1, x.2.1) ∈ pw x := by
  obtain ⟨f, l, c⟩ := x
  obtain ⟨h1, h2⟩ := h
  dsimp only at h1 h2
  unfold pw pairsM
  rcases h1 with rfl | rfl <;> rcases h2 with rfl | rfl <;> cases c <;> simp
/-- choices made word by word -/
theorem ins_zip {ws : List Wd} {c : List (Int × Int)} (ok : ∀ x ∈ ws, Wok x) (hc : InsL c (ws.map pw)) (f : (Int × Int) → Wd → Int × Int) (hf : ∀ p x, Wok x → p ∈ pw x → f p x ∈ pw x) : InsL ((c.zip ws).map fun e => f e.1 e.2) (ws.map pw) := by
  have lc : c.length = ws.length := by rw [hc.1, List.length_map]
  refine ⟨by rw [List.length_map, List.length_zip, lc, Nat.min_self, List.length_map], fun i y l e1 e2 => ?_⟩
  rw [List.getElem?_map] at e1 e2
  obtain ⟨e, h1, rfl⟩ := Option.map_eq_some_iff.mp e1
  obtain ⟨x, h2, rfl⟩ := Option.map_eq_some_iff.mp e2
  rw [List.getElem?_zip_eq_some] at h1
  cases Option.some.inj (h1.2.symm.trans h2)
  exact hf _ _ (ok _ (List.mem_of_getElem? h2)) (hc.2 i e.1 (pw e.2) h1.1 (by rw [List.getElem?_map, h2]; rfl))
theorem zip_fst {α β γ : Type} (f : α → γ) : ∀ {l : List α} {r : List β}, l.length = r.length → ((l.zip r).map fun e => f e.1) = l.map f
  | [], [], _ => rfl
  | x :: l, y :: r, h => by rw [List.zip_cons_cons, List.map_cons, List.map_cons, zip_fst f (by simpa using h)]
  | [], _ :: _, h => by cases h
  | _ :: _, [], h => by cases h
theorem zip_snd {α β γ : Type} (f : β → γ) : ∀ {l : List α} {r : List β}, l.length = r.length → ((l.zip r).map fun e => f e.2) = r.map f
  | [], [], _ => rfl
  | x :: l, y :: r, h => by rw [List.zip_cons_cons, List.map_cons, List.map_cons, zip_snd f (by simpa using h)]
  | [], _ :: _, h => by cases h
  | _ :: _, [], h => by cases h
theorem find_of {bs : List Bool} {ws : List Wd} {c : List (Int × Int)} {p : Int × Int} (hc : InsL c (ws.map pw)) (e : prM bs c = p) : ∃ c', findM bs ws p = some c' := by
  unfold findM
  cases h : (chs (ws.map pw)).find? fun c => decide (prM bs c = p) with
  | some c' => exact ⟨c', rfl⟩
  | none =>
    have := List.find?_eq_none.mp h c (ins_chs _ _ _ rfl hc)
    exact absurd (decide_eq_true e) this
theorem base_ins {ws : List Wd} (h : Wd → Int × Int) (hh : ∀ x ∈ ws, h x ∈ pw x) : InsL (ws.map h) (ws.map pw) := by
  refine ⟨by rw [List.length_map, List.length_map], fun i y l e1 e2 => ?_⟩
  rw [List.getElem?_map] at e1 e2
  obtain ⟨x, h1, rfl⟩ := Option.map_eq_some_iff.mp e1
  obtain ⟨x', h2, rfl⟩ := Option.map_eq_some_iff.mp e2
  cases Option.some.inj (h1.symm.trans h2)
  exact hh _ (List.mem_of_getElem? h1)
theorem achieve {bs : List Bool} {ws : List Wd} {p : Int × Int} (ok : ∀ x ∈ ws, Wok x) (hp : p ∈ pw (gwM bs ws)) : ∃ c, findM bs ws p = some c := by
  have hF := gate01 bs (ws.map (·.1))
  have hL := gate01 bs (ws.map (·.2.1))
  have b1 : ∃ c, InsL c (ws.map pw) ∧ prM bs c = (gateM bs (ws.map (·.1)), gateM bs (ws.map (·.1))) := ⟨ws.map fun x => (x.1, x.1), base_ins _ fun x hx => (pw_base (ok x hx)).1, by unfold prM; rw [List.map_map, List.map_map]; rfl⟩
  have b2 : ∃ c, InsL c (ws.map pw) ∧ prM bs c = (gateM bs (ws.map (·.1)), gateM bs (ws.map (·.2.1))) := ⟨ws.map fun x => (x.1, x.2.1), base_ins _ fun x hx => (pw_base (ok x hx)).2.1, by unfold prM; rw [List.map_map, List.map_map]; rfl⟩
  have b3 : ∃ c, InsL c (ws.map pw) ∧ prM bs c = (gateM bs (ws.map (·.2.1)), gateM bs (ws.map (·.2.1))) := ⟨ws.map fun x => (x.2.1, x.2.1), base_ins _ fun x hx => (pw_base (ok x hx)).2.2, by unfold prM; rw [List.map_map, List.map_map]; rfl⟩
  have more : froM bs ws (gateM bs (ws.map (·.1))) (gateM bs (ws.map (·.2.1))) = true → ∀ q : Int × Int, (q.1 = 0 ∨ q.1 = 1) → (q.2 = 0 ∨ q.2 = 1) → ∃ c, InsL c (ws.map pw) ∧ prM bs c = q := by
    intro hfro q q1 q2
    obtain ⟨c, hc, ht⟩ := List.any_eq_true.mp hfro
    have ic := chs_ins _ _ _ rfl hc
    have lc : c.length = ws.length := by rw [ic.1, List.length_map]
    have g1 := gate01 bs (c.map (·.1))
    unfold testC at ht
    have z1 : ∃ c', InsL c' (ws.map pw) ∧ prM bs c' = (gateM bs (c.map (·.1)), gateM bs (ws.map (·.2.1))) := by
      refine ⟨_, ins_zip ok ic (fun p x => (p.1, x.2.1)) fun p x hx hp => (pw_facts hx hp).1, ?_⟩
      unfold prM
      rw [List.map_map, List.map_map]
      exact congr (congrArg _ (congrArg _ (zip_fst (fun p : Int × Int => p.1) lc))) (congrArg _ (zip_snd (fun x : Wd => x.2.1) lc))
    have z2 : ∃ c', InsL c' (ws.map pw) ∧ prM bs c' = (gateM bs (ws.map (·.1)), gateM bs (c.map (·.1))) := by
      refine ⟨_, ins_zip ok ic (fun p x => (x.1, p.1)) fun p x hx hp => (pw_facts hx hp).2.1, ?_⟩
      unfold prM
      rw [List.map_map, List.map_map]
      exact congr (congrArg _ (congrArg _ (zip_snd (fun x : Wd => x.1) lc))) (congrArg _ (zip_fst (fun p : Int × Int => p.1) lc))
    have z3 : ∃ c', InsL c' (ws.map pw) ∧ prM bs c' = (gateM bs (c.map (·.1)), gateM bs (c.map (·.1))) := by
      refine ⟨_, ins_zip ok ic (fun p x => (p.1, p.1)) fun p x hx hp => (pw_facts hx hp).2.2, ?_⟩
      unfold prM
      rw [List.map_map, List.map_map]
      exact congr (congrArg _ (congrArg _ (zip_fst (fun p : Int × Int => p.1) lc))) (congrArg _ (zip_fst (fun p : Int × Int => p.1) lc))
    have z4 : ∃ c', InsL c' (ws.map pw) ∧ prM bs c' = (gateM bs (c.map (·.1)), gateM bs (c.map (·.2))) := ⟨c, ic, rfl⟩
    revert ht z1 z2 z3 z4 b1 b2 b3 g1 hF hL
    generalize gateM bs (ws.map (·.1)) = F
    generalize gateM bs (ws.map (·.2.1)) = L
    generalize gateM bs (c.map (·.1)) = G
    generalize gateM bs (c.map (·.2)) = G2
    intro hF hL b1 b2 b3 ht g1 z1 z2 z3 z4
    obtain ⟨u, v⟩ := q
    dsimp only at q1 q2
    by_cases e : F = L
    · subst e
      have nG : G ≠ F := by simpa using ht
      rcases hF with rfl | rfl <;> rcases g1 with rfl | rfl <;> first | exact absurd rfl nG | (rcases q1 with rfl | rfl <;> rcases q2 with rfl | rfl <;> first | exact b1 | exact z1 | exact z2 | exact z3)
    · have hG : G = L ∧ G2 = F := by simpa [e] using ht
      obtain ⟨rfl, rfl⟩ := hG
      rcases hF with rfl | rfl <;> rcases hL with rfl | rfl <;> first | exact absurd rfl e | (rcases q1 with rfl | rfl <;> rcases q2 with rfl | rfl <;> first | exact b1 | exact b2 | exact b3 | exact z4)
  obtain ⟨c, hc, e⟩ : ∃ c, InsL c (ws.map pw) ∧ prM bs c = p := by
    cases hfro : froM bs ws (gateM bs (ws.map (·.1))) (gateM bs (ws.map (·.2.1))) with
    | true =>
      have h01 := pairs01 (gw_ok bs ws) p hp
      exact more hfro p h01.1 h01.2
    | false =>
      have hp' : p ∈ pairsM (gateM bs (ws.map (·.1))) (gateM bs (ws.map (·.2.1))) false := by
        have : pw (gwM bs ws) = pairsM (gateM bs (ws.map (·.1))) (gateM bs (ws.map (·.2.1))) (froM bs ws (gateM bs (ws.map (·.1))) (gateM bs (ws.map (·.2.1)))) := rfl
        rw [this, hfro] at hp
        exact hp
      revert hp' b1 b2 b3 hF hL
      generalize gateM bs (ws.map (·.1)) = F
      generalize gateM bs (ws.map (·.2.1)) = L
      intro hF hL b1 b2 b3 hp'
      unfold pairsM at hp'
      rcases hF with rfl | rfl <;> rcases hL with rfl | rfl <;> simp at hp'
      · subst hp'; exact b1
      · rcases hp' with rfl | rfl | rfl
        · exact b1
        · exact b2
        · exact b3
      · rcases hp' with rfl | rfl | rfl
        · exact b3
        · exact b2
        · exact b1
      · subst hp'; exact b1
  exact find_of hc e

end Gk

set_option Elab.async false
set_option linter.all false
set_option maxRecDepth 100000
set_option maxHeartbeats 1000000
set_option pp.maxSteps 900
namespace Gk
open PySem PySem.Spec PyProof.Rows L2
/-! ### the tree below a wire -/
theorem wordsM_app : ∀ (gs : List Gt) (w0 : List Wd), ∃ t, wordsM gs w0 = w0 ++ t
  | [], w0 => ⟨[], (List.append_nil _).symm⟩
  | g :: r, w0 => by
    obtain ⟨t, e⟩ := wordsM_app r (stepW w0 g)
    refine ⟨[gwM g.1 (pick w0 g.2)] ++ t, ?_⟩
    show wordsM r (stepW w0 g) = _
    rw [e]
    unfold stepW
    rw [List.append_assoc]
theorem wordsM_pre (gs : List Gt) (w0 : List Wd) (i : Nat) {k : Nat} (hk : k < w0.length + min i gs.length) : (wordsM gs w0).getD k (0, 0, false) = (wordsM (gs.take i) w0).getD k (0, 0, false) := by
  have e : wordsM gs w0 = wordsM (gs.drop i) (wordsM (gs.take i) w0) := by
    unfold wordsM
    rw [← List.foldl_append, List.take_append_drop]
  obtain ⟨t, et⟩ := wordsM_app (gs.drop i) (wordsM (gs.take i) w0)
  rw [e, et, List.getD_eq_getElem?_getD, List.getD_eq_getElem?_getD, List.getElem?_append_left (by rw [wordsM_len, List.length_take]; omega)]
theorem wordsM_at {m : Nat} {gs : List Gt} {w0 : List Wd} {g : Nat} {gt : Gt} (ok : NetOk m gs) (l0 : w0.length = m) (h : gs[g]? = some gt) : (wordsM gs w0).getD (m + g) (0, 0, false) = gwM gt.1 (pick (wordsM gs w0) gt.2) := by
  have hg := (List.getElem?_eq_some_iff.mp h).1
  rw [wordsM_pre gs w0 (g + 1) (by omega), wordsM_take h]
  have lt : (wordsM (gs.take g) w0).length = m + g := by rw [wordsM_len, List.length_take, l0]; omega
  unfold stepW
  rw [List.getD_eq_getElem?_getD, List.getElem?_append_right (by omega), lt, Nat.sub_self]
  show gwM gt.1 _ = _
  congr 1
  unfold pick
  refine List.map_congr_left fun r hr => ?_
  have := (ok g gt h).2.2.2 r hr
  exact (wordsM_pre gs w0 g (by omega)).symm
/-- each gate is read at one place at most -/
def Uniq (m : Nat) (gs : List Gt) : Prop := ∀ (g g' : Nat) (gt gt' : Gt) (j j' r : Nat), gs[g]? = some gt → gs[g']? = some gt' → gt.2[j]? = some r → gt'.2[j']? = some r → m ≤ r → g = g' ∧ j = j'
theorem high_in {m r : Nat} {l : List Nat} (h : m ≤ r) (hr : r ∈ l) : r ∈ high m l := List.mem_filter.mpr ⟨hr, decide_eq_true h⟩
theorem nodup_get {α : Type} {l : List α} (h : l.Nodup) {i j : Nat} {x : α} (h1 : l[i]? = some x) (h2 : l[j]? = some x) : i = j := by
  obtain ⟨a1, b1⟩ := List.getElem?_eq_some_iff.mp h1
  obtain ⟨a2, b2⟩ := List.getElem?_eq_some_iff.mp h2
  rcases Nat.lt_trichotomy i j with lt | e | gt
  · exact absurd (b1.trans b2.symm) (List.pairwise_iff_getElem.mp h i j a1 a2 lt)
  · exact e
  · exact absurd (b2.trans b1.symm) (List.pairwise_iff_getElem.mp h j i a2 a1 gt)
theorem high_two {m r : Nat} {l : List Nat} (hr : m ≤ r) (nd : (high m l).Nodup) {i j : Nat} (h1 : l[i]? = some r) (h2 : l[j]? = some r) : i = j := by
  rcases Nat.lt_trichotomy i j with lt | e | gt
  · exfalso
    have e1 : l = l.take (i + 1) ++ l.drop (i + 1) := (List.take_append_drop _ _).symm
    rw [e1, high_app, List.nodup_append] at nd
    refine nd.2.2 r (high_in hr ?_) r (high_in hr ?_) rfl
    · exact List.mem_of_getElem? (i := i) (by rw [List.getElem?_take_of_lt (Nat.lt_succ_self i)]; exact h1)
    · exact List.mem_of_getElem? (i := j - (i + 1)) (by rw [List.getElem?_drop]; rw [show i + 1 + (j - (i + 1)) = j by omega]; exact h2)
  · exact e
  · exfalso
    have e1 : l = l.take (j + 1) ++ l.drop (j + 1) := (List.take_append_drop _ _).symm
    rw [e1, high_app, List.nodup_append] at nd
    refine nd.2.2 r (high_in hr ?_) r (high_in hr ?_) rfl
    · exact List.mem_of_getElem? (i := j) (by rw [List.getElem?_take_of_lt (Nat.lt_succ_self j)]; exact h2)
    · exact List.mem_of_getElem? (i := i - (j + 1)) (by rw [List.getElem?_drop]; rw [show j + 1 + (i - (j + 1)) = i by omega]; exact h1)
theorem uniq_of {m : Nat} {gs : List Gt} (h : formB m gs = true) : Uniq m gs := by
  have nd : (high m (flatG gs)).Nodup := of_decide_eq_true h
  have sep : ∀ (g g' : Nat) (gt gt' : Gt) (j j' r : Nat), g < g' → gs[g]? = some gt → gs[g']? = some gt' → gt.2[j]? = some r → gt'.2[j']? = some r → m ≤ r → False := by
    intro g g' gt gt' j j' r lt h1 h2 h3 h4 hr
    have e1 : flatG gs = flatG (gs.take g') ++ flatG (gs.drop g') := by
      unfold flatG
      rw [← List.flatMap_append, List.take_append_drop]
    rw [e1, high_app, List.nodup_append] at nd
    refine nd.2.2 r (high_in hr ?_) r (high_in hr ?_) rfl
    · unfold flatG
      exact List.mem_flatMap.mpr ⟨gt, List.mem_of_getElem? (i := g) (by rw [List.getElem?_take_of_lt lt]; exact h1), List.mem_of_getElem? h3⟩
    · unfold flatG
      exact List.mem_flatMap.mpr ⟨gt', List.mem_of_getElem? (i := 0) (by rw [List.getElem?_drop, Nat.add_zero]; exact h2), List.mem_of_getElem? h4⟩
  intro g g' gt gt' j j' r h1 h2 h3 h4 hr
  rcases Nat.lt_trichotomy g g' with lt | e | gt2
  · exact (sep g g' gt gt' j j' r lt h1 h2 h3 h4 hr).elim
  · subst e
    cases Option.some.inj (h1.symm.trans h2)
    refine ⟨rfl, ?_⟩
    have e1 : flatG gs = flatG (gs.take g) ++ (gt.2 ++ flatG (gs.drop (g + 1))) := by
      have e0 : gs = gs.take g ++ gt :: gs.drop (g + 1) := by
        obtain ⟨hl, e⟩ := List.getElem?_eq_some_iff.mp h1
        rw [← e, List.getElem_cons_drop, List.take_append_drop]
      conv => lhs; rw [e0]
      unfold flatG
      rw [List.flatMap_append, List.flatMap_cons]
    rw [e1, high_app, List.nodup_append] at nd
    have nd2 := nd.2.1
    rw [high_app, List.nodup_append] at nd2
    exact high_two hr nd2.1 h3 h4
  · exact (sep g' g gt' gt j' j r gt2 h2 h1 h4 h3 hr).elim
structure RInv (m k : Nat) (gs : List Gt) (words : List Wd) (w : Int × Int) (i : Nat) (st : Wf × Ls) : Prop where
  a : ∀ r p, st.1 r = some p → p ∈ pw (words.getD r (0, 0, false))
  b : ∀ g, k < g + i → g ≤ k → ∀ p, st.1 (m + g) = some p → ∃ gt c, gs[g]? = some gt ∧ c.length = gt.2.length ∧ prM gt.1 c = p ∧ ∀ j r pc, gt.2[j]? = some r → c[j]? = some pc → pc ∈ pw (words.getD r (0, 0, false)) ∧ (r < m → ((g, j), pc) ∈ st.2) ∧ (m ≤ r → st.1 r = some pc)
  c : ∀ x ∈ st.2, k < x.1.1 + i ∧ x.1.1 ≤ k ∧ ∃ gt r, gs[x.1.1]? = some gt ∧ gt.2[x.1.2]? = some r ∧ r < m
  d : st.1 (m + k) = some w
  e : ∀ x ∈ st.2, ∀ y ∈ st.2, x.1 = y.1 → x = y
structure PInv (m g : Nat) (ins : List Nat) (c : List (Int × Int)) (st : Wf × Ls) (j : Nat) (sj : Wf × Ls) : Prop where
  p1 : ∀ (j' r : Nat) (pc : Int × Int), j' < j → ins[j']? = some r → c[j']? = some pc → (r < m → ((g, j'), pc) ∈ sj.2) ∧ (m ≤ r → sj.1 r = some pc)
  p2 : ∀ x, (∀ j' r, j' < j → ins[j']? = some r → m ≤ r → x ≠ r) → sj.1 x = st.1 x
  p3 : ∀ x ∈ st.2, x ∈ sj.2
  p4 : ∀ x ∈ sj.2, x ∈ st.2 ∨ ∃ j' r : Nat, j' < j ∧ ins[j']? = some r ∧ r < m ∧ c[j']? = some x.2 ∧ x.1 = (g, j')
  p5 : ∀ (x : Nat) (p : Int × Int), sj.1 x = some p → st.1 x = some p ∨ ∃ j' : Nat, ins[j']? = some x ∧ c[j']? = some p
theorem pinv {m g : Nat} {ins : List Nat} {c : List (Int × Int)} (lc : c.length = ins.length) (u : ∀ j j' r : Nat, ins[j]? = some r → ins[j']? = some r → m ≤ r → j = j') (st : Wf × Ls) : ∀ j, j ≤ ins.length → PInv m g ins c st j (placesS m g st ins c j) := by
  intro j
  induction j with
  | zero => exact fun _ => ⟨fun j' _ _ h => absurd h (Nat.not_lt_zero _), fun x _ => rfl, fun x h => h, fun x h => .inl h, fun x p h => .inl h⟩
  | succ j ih =>
    intro hj
    have I := ih (by omega)
    obtain ⟨r, hr⟩ : ∃ r, ins[j]? = some r := ⟨_, List.getElem?_eq_getElem (by omega)⟩
    obtain ⟨pc, hpc⟩ : ∃ pc, c[j]? = some pc := ⟨_, List.getElem?_eq_getElem (by omega)⟩
    rw [placesS_succ hr hpc]
    revert I
    generalize placesS m g st ins c j = sj
    intro I
    unfold placeS
    dsimp only
    by_cases z : r < m
    · rw [if_pos z]
      refine ⟨fun j' r' pc' h1 h2 h3 => ?_, fun x hx => I.p2 x fun j' r' h => hx j' r' (by omega), fun x h => List.mem_append_left _ (I.p3 x h), fun x hx => ?_, fun x p h => I.p5 x p h⟩
      · by_cases e : j' = j
        · subst e
          cases Option.some.inj (h2.symm.trans hr)
          cases Option.some.inj (h3.symm.trans hpc)
          exact ⟨fun _ => by simp, fun h => absurd z (by omega)⟩
        · have := I.p1 j' r' pc' (by omega) h2 h3
          exact ⟨fun h => List.mem_append_left _ (this.1 h), this.2⟩
      · rcases List.mem_append.mp hx with h | h
        · rcases I.p4 x h with h | ⟨j', r', h1, h2⟩
          · exact .inl h
          · exact .inr ⟨j', r', by omega, h2⟩
        · rw [List.mem_singleton.mp h]
          exact .inr ⟨j, r, Nat.lt_succ_self _, hr, z, hpc, rfl⟩
    · rw [if_neg z]
      refine ⟨fun j' r' pc' h1 h2 h3 => ?_, fun x hx => ?_, I.p3, fun x hx => ?_, fun x p h => ?_⟩
      · by_cases e : j' = j
        · subst e
          cases Option.some.inj (h2.symm.trans hr)
          cases Option.some.inj (h3.symm.trans hpc)
          exact ⟨fun h => absurd h z, fun _ => if_pos rfl⟩
        · have := I.p1 j' r' pc' (by omega) h2 h3
          refine ⟨this.1, fun h => ?_⟩
          show putWf sj.1 r pc r' = some pc'
          unfold putWf
          rw [if_neg (fun er => e (u j' j r' h2 (by rw [er]; exact hr) h))]
          exact this.2 h
      · show putWf sj.1 r pc x = _
        unfold putWf
        rw [if_neg (hx j r (Nat.lt_succ_self _) hr (by omega))]
        exact I.p2 x fun j' r' h => hx j' r' (by omega)
      · rcases I.p4 x hx with h | ⟨j', r', h1, h2⟩
        · exact .inl h
        · exact .inr ⟨j', r', by omega, h2⟩
      · have h : putWf sj.1 r pc x = some p := h
        unfold putWf at h
        by_cases e : x = r
        · rw [if_pos e] at h
          cases Option.some.inj h
          subst e
          exact .inr ⟨j, hr, hpc⟩
        · rw [if_neg e] at h
          exact I.p5 x p h
theorem rinv {m k : Nat} {gs : List Gt} {words : List Wd} {w : Int × Int} (okn : NetOk m gs) (hk : k < gs.length) (U : Uniq m gs) (wok : ∀ x ∈ words, Wok x) (HW : ∀ (g : Nat) (gt : Gt), gs[g]? = some gt → words.getD (m + g) (0, 0, false) = gwM gt.1 (pick words gt.2)) (hw : w ∈ pw (words.getD (m + k) (0, 0, false))) :
    ∀ i, i ≤ k + 1 → ∃ st, readN m gs words k w i = some st ∧ RInv m k gs words w i st := by
  intro i
  induction i with
  | zero =>
    intro _
    refine ⟨_, rfl, fun r p h => ?_, fun g h1 h2 => absurd h1 (by omega), fun x hx => by simp at hx, if_pos rfl, fun x hx => by simp at hx⟩
    have h : (if r = m + k then some w else none) = some p := h
    by_cases z : r = m + k
    · rw [if_pos z] at h
      cases Option.some.inj h
      rw [z]
      exact hw
    · rw [if_neg z] at h
      cases h
  | succ i ih =>
    intro hi
    obtain ⟨st, hst, I⟩ := ih (by omega)
    obtain ⟨g, hg⟩ : ∃ g, k - i = g := ⟨_, rfl⟩
    have hgk : g ≤ k := by omega
    have hgi : g + i = k := by omega
    obtain ⟨gt, hgt⟩ : ∃ gt, gs[g]? = some gt := ⟨_, List.getElem?_eq_getElem (by omega)⟩
    have okg := okn g gt hgt
    have enext : readN m gs words k w (i + 1) = gateS m gs words g st := by
      show (readN m gs words k w i).bind (gateS m gs words (k - i)) = _
      rw [hst, hg]
      rfl
    rw [enext]
    unfold gateS
    cases hp : st.1 (m + g) with
    | none =>
      refine ⟨st, rfl, I.a, fun g' h1 h2 p hp' => ?_, fun x hx => ?_, I.d, I.e⟩
      · by_cases e : g' = g
        · subst e
          rw [hp] at hp'
          cases hp'
        · exact I.b g' (by omega) h2 p hp'
      · obtain ⟨c1, c2, c3⟩ := I.c x hx
        exact ⟨by omega, c2, c3⟩
    | some p =>
      dsimp only
      rw [hgt]
      dsimp only
      have pok := pick_ok wok gt.2
      obtain ⟨c, hc⟩ := achieve (bs := gt.1) pok (by rw [← HW g gt hgt]; exact I.a _ _ hp)
      rw [hc]
      refine ⟨_, rfl, ?_⟩
      show RInv m k gs words w (i + 1) (placesS m g st gt.2 c gt.2.length)
      have ic := chs_ins _ _ _ rfl (List.mem_of_find?_eq_some hc)
      have lc : c.length = gt.2.length := by rw [ic.1, List.length_map, pick_len]
      have epr : prM gt.1 c = p := by
        unfold findM at hc
        have := List.find?_some hc
        exact of_decide_eq_true this
      have cin : ∀ j r pc, gt.2[j]? = some r → c[j]? = some pc → pc ∈ pw (words.getD r (0, 0, false)) := fun j r pc h1 h2 => ic.2 j pc _ h2 (by unfold pick; rw [List.map_map, List.getElem?_map, h1]; rfl)
      have Pv := pinv (m := m) (g := g) lc (fun j j' r h1 h2 h3 => (U g g gt gt j j' r hgt hgt h1 h2 h3).2) st gt.2.length (Nat.le_refl _)
      revert Pv
      generalize placesS m g st gt.2 c gt.2.length = sj
      intro Pv
      have keep : ∀ g', g ≤ g' → sj.1 (m + g') = st.1 (m + g') := fun g' h => Pv.p2 _ fun j' r _ hr _ e => by
        have := okg.2.2.2 r (List.mem_of_getElem? hr)
        omega
      refine ⟨fun r p' h => ?_, fun g' h1 h2 p' hp' => ?_, fun x hx => ?_, ?_, fun x hx y hy e => ?_⟩
      · rcases Pv.p5 r p' h with h | ⟨j', h1, h2⟩
        · exact I.a r p' h
        · exact cin j' r p' h1 h2
      · by_cases e : g' = g
        · subst e
          rw [keep g' (Nat.le_refl _), hp] at hp'
          cases Option.some.inj hp'
          refine ⟨gt, c, hgt, lc, epr, fun j r pc e1 e2 => ⟨cin j r pc e1 e2, ?_⟩⟩
          exact Pv.p1 j r pc (List.getElem?_eq_some_iff.mp e1).1 e1 e2
        · rw [keep g' (by omega)] at hp'
          obtain ⟨gt', c', b1, b2, b3, b4⟩ := I.b g' (by omega) h2 p' hp'
          refine ⟨gt', c', b1, b2, b3, fun j r pc e1 e2 => ?_⟩
          obtain ⟨x1, x2, x3⟩ := b4 j r pc e1 e2
          refine ⟨x1, fun h => Pv.p3 _ (x2 h), fun h => ?_⟩
          rw [Pv.p2 r fun j' r' _ hr' hm er => by
            subst er
            exact e (U g' g gt' gt j j' r b1 hgt e1 hr' h).1]
          exact x3 h
      · rcases Pv.p4 x hx with h | ⟨j', r, h1, h2, h3, h4, h5⟩
        · obtain ⟨c1, c2, c3⟩ := I.c x h
          exact ⟨by omega, c2, c3⟩
        · rw [h5]
          exact ⟨by omega, hgk, gt, r, hgt, h2, h3⟩
      · rw [keep k hgk]
        exact I.d
      · rcases Pv.p4 x hx with h | ⟨j', r, h1, h2, h3, h4, h5⟩ <;> rcases Pv.p4 y hy with h' | ⟨j2, r2, k1, k2, k3, k4, k5⟩
        · exact I.e x h y h' e
        · have := (I.c x h).1
          rw [e, k5] at this
          dsimp only at this
          omega
        · have := (I.c y h').1
          rw [← e, h5] at this
          dsimp only at this
          omega
        · rw [h5, k5] at e
          have ej : j' = j2 := congrArg Prod.snd e
          subst ej
          have e2 : x.2 = y.2 := Option.some.inj (h4.symm.trans k4)
          exact Prod.ext (h5.trans k5.symm) e2

end Gk

set_option Elab.async false
set_option linter.all false
set_option maxRecDepth 100000
set_option maxHeartbeats 1000000
set_option pp.maxSteps 1500
set_option pp.deepTerms false
namespace Gk
open PySem PySem.Spec PyProof.Rows L2
section
variable {P : Program} {w : World} {K : PySem.W.Frag} {mg : Str → Option Value} {base : Heap}
/-! ### a refusal, kept and asked -/
def sp_refused (T : Tx K mg) : Sp := fun vs H Q _ => ∃ (nv cv : V) (m w : Nat) (gs : List Gt) (a b : List Int), vs = [nv, cv, .int (w : Nat)] ∧ Tk H nv (netD m gs) ∧ Tk H cv (chD a b) ∧ a.length = m ∧ b.length = m ∧ Row01 a ∧ Row01 b ∧ 1 ≤ m ∧ m ≤ 6 ∧ 1 ≤ gs.length ∧ gs.length ≤ 64 ∧ NetOk m gs ∧ w < m + gs.length ∧ Tabs H T.tabs ∧ formB m gs = false ∧ ∀ H', Gr H H' → Q (.bl true) H'
theorem ok_refused (T : Tx K mg) (B : Tb base T) : FnOk P w K mg base CX0 8 T.f_refused T.fd_refused ["_law_net", "_law_change_here", "_law_wire"] (sp_refused T) := by
  refine T.F_refused.ok sc_refused (fun vs H Q E h => ?_) (fun cdv A outer s H vs Q E hr h => ?_)
  · obtain ⟨nv, cv, m, w, gs, a, b, rfl, _⟩ := h
    rfl
  · obtain ⟨nv, cv, m, w, gs, a, b, rfl, tn, tc, la, lb, ha, hb, m1, m6, g1, g64, okn, hw, tabs, nf, q⟩ := h
    refine ⟨_, (pss_cons (ps_set (i := 3) sc_refused.nd rfl (by first | exact .inl rfl | exact .inr rfl) pe_non) (pss_cons (KpX.ps_keep (i := 4) rfl rfl rfl sc_refused.nd rfl (by rfl) ⟨by rfl, by decide, .inl T.gC_NetError⟩ (fun W pn xe tk own => (pss_one (ps_expr (pe_callS (ok_shown T B) (hr.mono (by decide)) (by rfl) T.g_shown T.F_shown.kp T.b_shown (fun σ => L2.passAt tk σ) (pa_cons (pv 0) (pa_cons (pv 1) (pa_cons (pv 2) pa_nil))))))) (fun ea oe cls ed pn hz hf => (pss_one (ps_set (i := 3) sc_refused.nd rfl (by first | exact .inl rfl | exact .inr rfl) (pv 4))))) (pss_cons (ps_if (pw_or (pt_not (pt_val (pe_callB KpX.call_isK (by rfl) T.m_isinstance (by decide +kernel) (pa_cons (pv 3) (pa_cons (pe_glob (v := .ref T.C_NotFormula) (by rfl) T.gC_NotFormula rfl) pa_nil))))) (pw_or1 (pt_not (pt_val (pe_callB KpX.call_isK (by rfl) T.m_isinstance (by decide +kernel) (pa_cons (pv 3) (pa_cons (pe_bltn (v := .ty "ValueError") (u := .type "ValueError") (by rfl) T.m_ValueError (by decide +kernel) rfl) pa_nil))))))).pt (pss_one (ps_ret pe_bl)) pss_nil) (pss_one (ps_ret (pe_not (pe_callB KpX.call_isKT (by rfl) T.m_isinstance (by decide +kernel) (pa_cons (pv 3) (pa_cons (pe_tup (pa_cons (pe_glob (v := .ref T.C_NoForms) (by rfl) T.gC_NoForms rfl) (pa_cons (pe_glob (v := .ref T.C_NoRow) (by rfl) T.gC_NoRow rfl) (pa_cons (pe_glob (v := .ref T.C_NoText) (by rfl) T.gC_NoText rfl) (pa_cons (pe_glob (v := .ref T.C_NoTurn) (by rfl) T.gC_NoTurn rfl) (pa_cons (pe_glob (v := .ref T.C_TooMany) (by rfl) T.gC_TooMany rfl) pa_nil)))))) pa_nil))))))))), ?_⟩
    refine ⟨nv, rfl, cv, rfl, .int (w : Nat), rfl, nv, cv, m, w, gs, a, b, rfl, tn, tc, la, lb, ha, hb, m1, m6, g1, g64, okn, hw, tabs, fun hf => (by rw [nf] at hf; cases hf), fun _ H1 gr1 => ⟨T.x_NotFormula_NetError, fun ea na => ⟨.ref ea, rfl, ?_⟩⟩⟩
    have s2 := same_upd (o := KpX.ExK (.ref T.C_NotFormula) none ea) na
    have h2 : upd H1 ea (KpX.ExK (.ref T.C_NotFormula) none ea) ea = some (KpX.ExK (.ref T.C_NotFormula) none ea) := upd_same
    refine ⟨.ref ea, rfl, ea, T.C_NotFormula, _, _, true, rfl, h2, T.X_NotFormula, .own _, T.t_NotFormula_NotFormula, _, rfl, iteF ?_⟩
    refine ⟨.ref ea, rfl, ea, T.C_NotFormula, _, _, true, rfl, h2, T.X_NotFormula, .ty _, T.v_NotFormula, _, rfl, iteF ?_⟩
    refine ⟨.ref ea, rfl, (by show 5 ≤ sizeLine; decide), fun tp ntp => ?_⟩
    have s3 := same_upd (o := HO.tup [.ref T.C_NoForms, .ref T.C_NoRow, .ref T.C_NoText, .ref T.C_NoTurn, .ref T.C_TooMany]) ntp
    refine ⟨ea, T.C_NotFormula, tp, _, [.ref T.C_NoForms, .ref T.C_NoRow, .ref T.C_NoText, .ref T.C_NoTurn, .ref T.C_TooMany], false, rfl, s3 _ _ h2, T.X_NotFormula, upd_same, .cons (.own _) (.cons (.own _) (.cons (.own _) (.cons (.own _) (.cons (.own _) .nil)))), ?_, _, rfl, ?_⟩
    · show PySem.W.kitAny K _ _ = _
      simp only [PySem.W.kitAny, T.t_NotFormula_NoForms, T.t_NotFormula_NoRow, T.t_NotFormula_NoText, T.t_NotFormula_NoTurn, T.t_NotFormula_TooMany]
    exact q _ (gr1.trans (Gr.of (s2.trans s3)))

end
end Gk

set_option Elab.async false
set_option linter.all false
set_option maxRecDepth 100000
set_option maxHeartbeats 1000000
set_option pp.maxSteps 1500
set_option pp.deepTerms false
namespace Gk
open PySem PySem.Spec PyProof.Rows L2
/-! ### comparing, cutting and joining data of tuples -/
mutual
theorem Tk.dp {K : PySem.W.Frag} {H : Hp} : ∀ {v : V} {d : PyData}, Tk H v d → Dp K H v d
  | _, _, .bl b => .bl b
  | _, _, .int i => .int i
  | _, _, .str x => .str x
  | _, _, .lst h t => .lst (SqL.of h) t.dp
  | _, _, .tup h t => .tup (SqT.of h) t.dp
theorem TkAll.dp {K : PySem.W.Frag} {H : Hp} : ∀ {vs : List V} {ds : List PyData}, TkAll H vs ds → DpAll K H vs ds
  | _, _, .nil => .nil
  | _, _, .cons h t => .cons h.dp t.dp
end
theorem ne_same {K : PySem.W.Frag} {H : Hp} {x y : V} {d : PyData} {Q : VK} (hx : Dp K H x d) (hy : Dp K H y d) (sh : SeqAt.shaped d = true) (q : Q (.bl false) H) : rNeD K x y H Q := by
  refine ⟨d, d, hx, hy, sh, sh, ?_⟩
  rw [SeqAt.eqv_refl d (SeqAt.canLay_of_shaped sh)]
  exact q
theorem eq_same {K : PySem.W.Frag} {H : Hp} {x y : V} {d : PyData} {Q : VK} (hx : Dp K H x d) (hy : Dp K H y d) (sh : SeqAt.shaped d = true) (q : Q (.bl true) H) : rEqD K x y H Q := by
  refine ⟨d, d, hx, hy, sh, sh, ?_⟩
  rw [SeqAt.eqv_refl d (SeqAt.canLay_of_shaped sh)]
  exact q

section
variable {P : Program} {w : World} {K : PySem.W.Frag} {mg : Str → Option Value} {base : Heap}
/-! ### the law -/
theorem canLay_ints (r : List Int) : PyData.canLayAll0 (r.map PyData.int) = true := by
  induction r with
  | nil => rfl
  | cons x r ih => exact ih
theorem canLay_rows (ds : List (List Int)) : PyData.canLayAll0 (ds.map rowD) = true := by
  induction ds with
  | nil => rfl
  | cons d r ih =>
    show (PyData.canLay0 (rowD d) && PyData.canLayAll0 (r.map rowD)) = true
    have h : PyData.canLay0 (rowD d) = true := canLay_ints d
    rw [ih, h]
    rfl
theorem sh_dels (D : List (List Int)) : SeqAt.shaped (delsD D) = true := by
  unfold SeqAt.shaped
  rw [Bool.and_eq_true]
  refine ⟨canLay_rows D, decide_eq_true ?_⟩
  have : ∀ ds : List (List Int), PyData.depthAll (ds.map rowD) ≤ 1 := fun ds => by
    induction ds with
    | nil => exact Nat.zero_le _
    | cons d r ih =>
      show max (rowD d).depth (PyData.depthAll (r.map rowD)) ≤ 1
      refine Nat.max_le.mpr ⟨?_, ih⟩
      show PyData.depthAll (d.map PyData.int) + 1 ≤ 1
      have : ∀ l : List Int, PyData.depthAll (l.map PyData.int) = 0 := fun l => by
        induction l with
        | nil => rfl
        | cons x r ih =>
          show max 0 (PyData.depthAll (r.map PyData.int)) = 0
          rw [ih]
          rfl
      rw [this]
      exact Nat.le_refl _
  have := this D
  show PyData.depthAll (D.map rowD) + 1 ≤ 64
  omega
theorem sh_wds (ws : List Wd) : SeqAt.shaped (.tuple (ws.map wD)) = true := by
  unfold SeqAt.shaped
  rw [Bool.and_eq_true]
  constructor
  · show PyData.canLayAll0 (ws.map wD) = true
    induction ws with
    | nil => rfl
    | cons w r ih =>
      show (PyData.canLay0 (wD w) && PyData.canLayAll0 (r.map wD)) = true
      rw [ih]
      rfl
  · refine decide_eq_true ?_
    have : PyData.depthAll (ws.map wD) ≤ 1 := by
      induction ws with
      | nil => exact Nat.zero_le _
      | cons w r ih =>
        show max 1 (PyData.depthAll (r.map wD)) ≤ 1
        omega
    show PyData.depthAll (ws.map wD) + 1 ≤ 64
    omega
/-- what shown tells of a formula -/
def ansD (m : Nat) (gs : List Gt) (a b : List Int) (w : Nat) : PyData :=
  if froAt (wordsM gs (w0M a b)) w = true then
    match readN m gs (wordsM gs (w0M a b)) (w - m) (1 - fstAt (wordsM gs (w0M a b)) w, fstAt (wordsM gs (w0M a b)) w) (w - m + 1) with
    | some st => delsD (delM gs (wordsM gs (w0M a b)) st.2)
    | none => .none
  else .none
def Ans (H : Hp) (v : V) (fro : Bool) (d : PyData) : Prop := (fro = false ∧ v = .non ∧ d = .none) ∨ (fro = true ∧ (∃ r, v = .ref r) ∧ Tk H v d ∧ ∃ D, d = delsD D)
theorem Ans.gr {H H' : Hp} {v : V} {f : Bool} {d : PyData} (x : Ans H v f d) (g : Gr H H') : Ans H' v f d := by
  rcases x with z | ⟨a, b, c, e⟩
  · exact .inl z
  · exact .inr ⟨a, b, c.gr g, e⟩
theorem Ans.fr {H H' : Hp} {v : V} {f : Bool} {d : PyData} (x : Ans H v f d) (t : Ts H H') : Ans H' v f d := by
  rcases x with z | ⟨a, b, c, D, e⟩
  · exact .inl z
  · subst e
    exact .inr ⟨a, b, c.ts t (noLs_map (fun _ => noL_row _) _), D, rfl⟩
theorem Ans.dp {K : PySem.W.Frag} {H : Hp} {v : V} {f : Bool} {d : PyData} (x : Ans H v f d) : Dp K H v d ∧ SeqAt.shaped d = true := by
  rcases x with ⟨_, rfl, rfl⟩ | ⟨_, _, t, D, rfl⟩
  · exact ⟨.non, by decide +kernel⟩
  · exact ⟨t.dp, sh_dels D⟩
theorem Ans.is {H : Hp} {v : V} {f : Bool} {d : PyData} (x : Ans H v f d) : decide (v = .non) = !f := by
  rcases x with ⟨rfl, rfl, _⟩ | ⟨rfl, ⟨r, rfl⟩, _⟩
  · rfl
  · exact decide_eq_false fun z => by cases z
theorem shown_call (T : Tx K mg) {nv cv : V} {m w : Nat} {gs : List Gt} {a b : List Int} {H : Hp} {Q : VK} {E : XK} (tn : Tk H nv (netD m gs)) (tc : Tk H cv (chD a b)) (la : a.length = m) (lb : b.length = m) (ha : Row01 a) (hb : Row01 b) (m1 : 1 ≤ m) (m6 : m ≤ 6) (g1 : 1 ≤ gs.length) (g64 : gs.length ≤ 64) (okn : NetOk m gs) (hf : formB m gs = true) (hw : w < m + gs.length) (tabs : Tabs H T.tabs)
    {vs : List V} (hv : vs = [nv, cv, .int (w : Nat)]) (q : ∀ v H', Gr H H' → Ans H' v (froAt (wordsM gs (w0M a b)) w) (ansD m gs a b w) → Q v H') : ShP T vs H Q E := by
  subst hv
  have l0 : (w0M a b).length = m := by rw [w0_len (by rw [la, lb]), la]
  have wok := wordsM_ok gs (w0M a b) (w0_ok ha hb)
  have HW : ∀ (g : Nat) (gt : Gt), gs[g]? = some gt → (wordsM gs (w0M a b)).getD (m + g) (0, 0, false) = gwM gt.1 (pick (wordsM gs (w0M a b)) gt.2) := fun g gt h => wordsM_at okn l0 h
  refine ⟨nv, cv, m, w, gs, a, b, rfl, tn, tc, la, lb, ha, hb, m1, m6, g1, g64, okn, hw, tabs, fun _ => ⟨fun hfro H1 gr1 => ?_, fun hfro => ?_⟩, fun z => by rw [hf] at z; cases z⟩
  · refine q .non H1 gr1 ?_
    unfold ansD
    rw [hfro, if_neg (by decide)]
    exact .inl ⟨rfl, rfl, rfl⟩
  · have hm : m ≤ w := by
      cases Nat.lt_or_ge w m with
      | inl h =>
        unfold froAt at hfro
        rw [wordsM_pre gs (w0M a b) 0 (by omega)] at hfro
        have hfro : ((w0M a b).getD w (0, 0, false)).2.2 = true := hfro
        unfold w0M at hfro
        rw [List.getD_eq_getElem?_getD, List.getElem?_map] at hfro
        cases e : (a.zip b)[w]? with
        | none => rw [e] at hfro; cases hfro
        | some p => rw [e] at hfro; cases hfro
      | inr h => exact h
    obtain ⟨k, rfl⟩ : ∃ k, w = m + k := ⟨w - m, by omega⟩
    have hk : k < gs.length := by omega
    have wok0 := wok _ (List.getElem_mem (l := wordsM gs (w0M a b)) (n := m + k) (by rw [wordsM_len, l0]; omega))
    have ew : (wordsM gs (w0M a b))[m + k]'(by rw [wordsM_len, l0]; omega) = (wordsM gs (w0M a b)).getD (m + k) (0, 0, false) := by rw [List.getD_eq_getElem?_getD, List.getElem?_eq_getElem]; rfl
    rw [ew] at wok0
    have hfro' := hfro
    have hp : (1 - fstAt (wordsM gs (w0M a b)) (m + k), fstAt (wordsM gs (w0M a b)) (m + k)) ∈ pw ((wordsM gs (w0M a b)).getD (m + k) (0, 0, false)) := by
      unfold froAt at hfro
      unfold fstAt
      revert hfro wok0
      generalize (wordsM gs (w0M a b)).getD (m + k) (0, 0, false) = x
      intro hfro wok0
      obtain ⟨f, l, fr⟩ := x
      obtain ⟨h1, h2⟩ := wok0
      dsimp only at h1 h2 hfro ⊢
      subst hfro
      unfold pw pairsM
      rcases h1 with rfl | rfl <;> simp
    obtain ⟨st, hst, R⟩ := rinv okn hk (uniq_of hf) wok HW hp (k + 1) (Nat.le_refl _)
    refine ⟨k, st, rfl, hst, fun x hx => ?_, fun r H1 gr1 tr => q (.ref r) H1 gr1 ?_⟩
    · obtain ⟨_, _, gt, r, h1, h2, _⟩ := R.c x hx
      exact ⟨gt, r, h1, h2⟩
    · have e : ansD m gs a b (m + k) = delsD (delM gs (wordsM gs (w0M a b)) st.2) := by
        unfold ansD
        rw [if_pos hfro', Nat.add_sub_cancel_left, hst]
      rw [e]
      exact .inr ⟨hfro', ⟨r, rfl⟩, tr, _, rfl⟩
theorem tab_fr {H H' : Hp} {d l P : Addr} {n : Int} (D : DeckB H d l n) (f : Fr d l H H') (t : GxR.TabG H P) : GxR.TabG H' P := by
  obtain ⟨ps, e, tr⟩ := t
  obtain ⟨ne, cs, z, y, hd, hl, r⟩ := D
  exact ⟨ps, f _ _ (ne_of e hd (by intro z; cases z)) (ne_of e hl (by intro z; cases z)) e, tr⟩
theorem Tabs.fr {H H' : Hp} {Ps : List Addr} {d l : Addr} {n : Int} (t : Tabs H Ps) (D : DeckB H d l n) (f : Fr d l H H') : Tabs H' Ps := fun P hP => tab_fr D f (t P hP)
theorem DeckB.gr' {H H' : Hp} {d l : Addr} {n : Int} (D : DeckB H d l n) (g : Gr H H') : DeckB H' d l n := by
  obtain ⟨ne, cs, z, y, hd, hl, r⟩ := D
  exact ⟨ne, cs, z, y, g.lst hd, g.lst hl, r⟩
def sp_law (K : PySem.W.Frag) (Ps : List Addr) : Sp := fun vs H Q _ => ∃ (a : Addr) (ns : List Int), vs = [.ref a] ∧ SqL K H a (ns.map V.int) ∧ ns.length ≤ 63 ∧ Tabs H Ps ∧ ∀ H', Q (.bl true) H'
theorem ok_law (T : Tx K mg) (B : Tb base T) : FnOk P w K mg base CX0 9 T.f_law T.fd_law ["_law_script"] (sp_law K T.tabs) := by
  refine T.F_law.ok sc_law (fun vs H Q E h => ?_) (fun cdv A outer s H vs Q E hr h => ?_)
  · obtain ⟨a, ns, rfl, _⟩ := h
    rfl
  · obtain ⟨a, ns, rfl, hS, hlen, tabs, q⟩ := h
    refine ⟨_, (pss_cons (ps_set (i := 1) sc_law.nd rfl (by first | exact .inl rfl | exact .inr rfl) (pe_call (ok_deck T) (hr.mono (by decide)) (by rfl) T.g_deck T.F_deck.kp T.b_deck .nil pass0 (pa_cons (pv 0) pa_nil))) (pss_cons (ps_for PassesOwn.never rfl (pi_range1 (by rfl) T.m_range (pa_cons pe_int pa_nil)) (pg_name (i := 2) sc_law.nd rfl (by first | exact .inl rfl | exact .inr rfl)) (pss_cons (ps_set (i := 3) sc_law.nd rfl (by first | exact .inl rfl | exact .inr rfl) (pe_ix ix_list (pe_lst (pa_cons (pe_op op_add pe_int (pe_call (ok_draw T) (hr.mono (by decide)) (by rfl) T.g_draw T.F_draw.kp T.b_draw .nil pass0 (pa_cons (pv 1) (pa_cons pe_int pa_nil)))) (pa_cons pe_int pa_nil))) (pe_callTy call_int1 (by rfl) T.m_int (by decide +kernel) (pa_cons (pe_cmpR op_eq (pe_call (ok_draw T) (hr.mono (by decide)) (by rfl) T.g_draw T.F_draw.kp T.b_draw .nil pass0 (pa_cons (pv 1) (pa_cons pe_int pa_nil))) pe_int (nomark _)) pa_nil)) (fun _ _ => rfl))) (pss_cons (ps_set (i := 4) sc_law.nd rfl (by first | exact .inl rfl | exact .inr rfl) (pe_op op_add pe_int (pe_call (ok_draw T) (hr.mono (by decide)) (by rfl) T.g_draw T.F_draw.kp T.b_draw .nil pass0 (pa_cons (pv 1) (pa_cons pe_int pa_nil))))) (pss_cons (ps_set (i := 5) sc_law.nd rfl (by first | exact .inl rfl | exact .inr rfl) (pe_call (ok_formula T) (hr.mono (by decide)) (by rfl) T.g_formula T.F_formula.kp T.b_formula .nil pass0 (pa_cons (pv 1) (pa_cons (pv 4) (pa_cons (pv 3) pa_nil))))) (pss_cons (ps_set (i := 6) sc_law.nd rfl (by first | exact .inl rfl | exact .inr rfl) (pe_call (ok_twice T) (hr.mono (by decide)) (by rfl) T.g_twice T.F_twice.kp T.b_twice .nil pass0 (pa_cons (pv 1) (pa_cons (pe_ix ix_list (pe_lst (pa_cons (pv 5) (pa_cons (pe_call (ok_shared T) (hr.mono (by decide)) (by rfl) T.g_shared T.F_shared.kp T.b_shared .nil pass0 (pa_cons (pv 1) (pa_cons (pv 4) (pa_cons (pv 3) pa_nil)))) pa_nil))) (pe_call (ok_draw T) (hr.mono (by decide)) (by rfl) T.g_draw T.F_draw.kp T.b_draw .nil pass0 (pa_cons (pv 1) (pa_cons pe_int pa_nil))) (fun _ _ => rfl)) pa_nil)))) (pss_cons (ps_set (i := 7) sc_law.nd rfl (by first | exact .inl rfl | exact .inr rfl) (pe_call (ok_change T) (hr.mono (by decide)) (by rfl) T.g_change T.F_change.kp T.b_change .nil pass0 (pa_cons (pv 1) (pa_cons (pv 4) pa_nil)))) (pss_cons (ps_set (i := 8) sc_law.nd rfl (by first | exact .inl rfl | exact .inr rfl) (pe_call (ok_words T) (hr.mono (by decide)) (by rfl) T.g_words T.F_words.kp T.b_words .nil pass0 (pa_cons (pv 5) (pa_cons (pv 7) pa_nil)))) (pss_cons (ps_set (i := 9) sc_law.nd rfl (by first | exact .inl rfl | exact .inr rfl) (pe_callS (ok_shown T B) (hr.mono (by decide)) (by rfl) T.g_shown T.F_shown.kp T.b_shown (fun σ => L2.passAt LamX.takes0 σ) (pa_cons (pv 5) (pa_cons (pv 7) (pa_cons (pe_op op_sub (pe_op op_add (pv 4) (pv 3)) pe_int) pa_nil))))) (pss_cons (ps_if (pw_or (pt_cmpR op_eq (pe_cmpR op_isN (pv 9) pe_non (nomark _)) (pe_ix ix_tup (pe_ix ix_tup (pv 8) (pe_un un_neg pe_int) (fun _ _ => rfl)) pe_int (fun _ _ => rfl)) (nomark _)) (pw_or1 (pt_cmpR (op_neD hr.units) (pe_call (ok_words_of T B) (hr.mono (by decide)) (by rfl) T.g_words_of T.F_words_of.kp T.b_words_of .nil pass0 (pa_cons (pv 6) (pa_cons (pv 7) pa_nil))) (pe_call (ok_words T) (hr.mono (by decide)) (by rfl) T.g_words T.F_words.kp T.b_words .nil pass0 (pa_cons (pv 6) (pa_cons (pv 7) pa_nil))) (nomark _)))).pt (pss_one (ps_ret pe_bl)) pss_nil) (pss_cons (ps_for PassesOwn.never rfl (pi_list (pe_lst (pa_cons pe_int (pa_cons (pe_op op_sub (pv 4) pe_int) (pa_cons (pv 4) (pa_cons (pe_op op_sub (pe_op op_add (pv 4) (pv 3)) pe_int) (pa_cons (pe_call (ok_draw T) (hr.mono (by decide)) (by rfl) T.g_draw T.F_draw.kp T.b_draw .nil pass0 (pa_cons (pv 1) (pa_cons (pe_op op_add (pv 4) (pv 3)) pa_nil))) pa_nil))))))) (pg_name (i := 10) sc_law.nd rfl (by first | exact .inl rfl | exact .inr rfl)) (pss_one (ps_if (pw_or (pt_not (pt_val (pe_call (ok_refused T B) (hr.mono (by decide)) (by rfl) T.g_refused T.F_refused.kp T.b_refused .nil pass0 (pa_cons (pv 6) (pa_cons (pv 7) (pa_cons (pv 10) pa_nil)))))) (pw_or1 (pt_not (pt_val (pe_call (ok_refused T B) (hr.mono (by decide)) (by rfl) T.g_refused T.F_refused.kp T.b_refused .nil pass0 (pa_cons (pv 6) (pa_cons (pv 7) (pa_cons (pv 10) pa_nil)))))))).pt (pss_one (ps_ret pe_bl)) pss_nil))) (pss_one (ps_if (pt_cmpR (op_neD hr.units) (pe_callS (ok_shown T B) (hr.mono (by decide)) (by rfl) T.g_shown T.F_shown.kp T.b_shown (fun σ => L2.passAt LamX.takes0 σ) (pa_cons (pv 5) (pa_cons (pv 7) (pa_cons (pe_op op_sub (pe_op op_add (pv 4) (pv 3)) pe_int) pa_nil)))) (pv 9) (nomark _)) (pss_one (ps_ret pe_bl)) pss_nil)))))))))))) (pss_one (ps_ret pe_bl)))), ?_⟩
    refine ⟨.ref a, rfl, a, ns, rfl, hS, hlen, fun H1 d l s1 D1 => ?_⟩
    refine ⟨3, rfl, by decide, by decide, ?_⟩
    refine for_range (lo := 0) (n := (3 : Int).toNat) (fun i σ H' => ∃ y2 y3 y4 y5 y6 y7 y8 y9 y10, σ = [some (.ref a), some (.ref d), y2, y3, y4, y5, y6, y7, y8, y9, y10] ∧ DeckB H' d l (2000 * i) ∧ Tabs H' T.tabs) ⟨_, _, _, _, _, _, _, _, _, rfl, D1.mono (by omega), (Gr.of s1).tabs tabs⟩ ?_ ?_
    · rintro i σ H2 hi ⟨y2, y3, y4, y5, y6, y7, y8, y9, y10, rfl, D2, t2⟩
      have hi' : i < 3 := hi
      refine ⟨.ref d, rfl, d, l, 7, _, rfl, D2, by omega, by decide, by decide, fun H3 v D3 fr3 v0 v1 => ⟨_, _, rfl, rfl, sl2, fun p np => ?_⟩⟩
      have op := D3.off np
      have s4 := same_upd (o := HO.lst [V.int (2 + v), V.int 40]) np
      have h4 : upd H3 p (HO.lst [V.int (2 + v), V.int 40]) p = some (HO.lst [V.int (2 + v), V.int 40]) := upd_same
      have t3 := t2.fr D2 fr3
      have D4 := D3.same s4
      refine ⟨.ref d, rfl, d, l, 8, _, rfl, D4, by omega, by decide, by decide, fun H5 u D5 fr5 u0 u1 => ⟨rfl, .inr ⟨_, rfl, ?_⟩⟩⟩
      obtain ⟨cn, hcn, c2, c40⟩ : ∃ cn : Nat, atI [V.int (2 + v), V.int 40] (if decide (V.int u = V.int 5) = true then 1 else 0) = some (.int (cn : Nat)) ∧ 2 ≤ cn ∧ cn ≤ 40 := by
        split
        · exact ⟨40, rfl, by decide, by decide⟩
        · refine ⟨(2 + v).toNat, ?_, by omega, by omega⟩
          rw [show (((2 + v).toNat : Nat) : Int) = 2 + v by omega]
          rfl
      refine ⟨p, _, _, _, rfl, rfl, SqL.of (fr5 _ _ op.1 op.2 h4), hcn, ?_⟩
      have t5 := ((Gr.of s4).tabs t3).fr D4 fr5
      refine ⟨.ref d, rfl, d, l, 6, _, rfl, D5, by omega, by decide, by decide, fun H6 x D6 fr6 x0 x1 => ⟨_, _, rfl, rfl, ?_⟩⟩
      obtain ⟨m, hm, m1, m6⟩ : ∃ m : Nat, 1 + x = (m : Int) ∧ 1 ≤ m ∧ m ≤ 6 := ⟨(1 + x).toNat, by omega, by omega, by omega⟩
      show gName 4 (V.int (1 + x)) _ _ _
      rw [hm]
      have t6 := t5.fr D5 fr6
      refine ⟨.ref d, rfl, .int (m : Nat), rfl, .int (cn : Nat), rfl, d, l, _, m, cn, rfl, D6, by omega, m1, m6, c40, fun pr H7 gs D7 fr7 tn lg ok hf => ?_⟩
      have t7 := t6.fr D6 fr7
      refine ⟨.ref d, rfl, .ref pr, rfl, .ref d, rfl, .int (m : Nat), rfl, .int (cn : Nat), rfl, d, l, _, m, cn, rfl, D7, by omega, m1, m6, c40, fun sr H8 gs2 D8 fr8 tn2 lg2 ok2 => ⟨sl2, fun p2 np2 => ?_⟩⟩
      have t8 := t7.fr D7 fr8
      have tn8 := tn.ts (Ts.fr D7 fr8) (noL_net _ _)
      have op2 := D8.off np2
      have s9 := same_upd (o := (HO.lst [V.ref pr, V.ref sr])) np2
      have h9 : upd H8 p2 (HO.lst [V.ref pr, V.ref sr]) p2 = some (HO.lst [V.ref pr, V.ref sr]) := upd_same
      generalize upd H8 p2 (HO.lst [V.ref pr, V.ref sr]) = H9 at s9 h9 ⊢
      refine ⟨.ref d, rfl, d, l, 2, _, rfl, D8.same s9, by omega, by decide, by decide, fun H10 c D10 fr10 c0 c1 => ?_⟩
      have ts10 := (Ts.same s9).trans (Ts.fr (D8.same s9) fr10)
      obtain ⟨xr, gx, hx, tx, lgx, okx⟩ : ∃ (xr : Addr) (gx : List Gt), atI [V.ref pr, V.ref sr] c = some (.ref xr) ∧ Tk H10 (.ref xr) (netD m gx) ∧ gx.length = cn ∧ NetOk m gx := by
        have : c = 0 ∨ c = 1 := by omega
        rcases this with rfl | rfl
        · exact ⟨pr, gs, rfl, tn8.ts ts10 (noL_net _ _), lg, ok⟩
        · exact ⟨sr, gs2, rfl, tn2.ts ts10 (noL_net _ _), lg2, ok2⟩
      refine ⟨p2, _, c, _, rfl, rfl, SqL.of (fr10 _ _ op2.1 op2.2 h9), hx, ?_⟩
      have t10 := ((Gr.of s9).tabs t8).fr (D8.same s9) fr10
      refine ⟨d, l, _, .ref xr, m, gx, rfl, D10, by omega, tx, okx, m1, m6, by omega, by omega, fun nr H11 gn D11 fr11 tnn lgn okn nf => ?_⟩
      have t11 := t10.fr D10 fr11
      have tn11 := (tn8.ts ts10 (noL_net _ _)).ts (Ts.fr D10 fr11) (noL_net _ _)
      refine ⟨.ref d, rfl, .int (m : Nat), rfl, d, l, _, m, rfl, D11, by omega, m1, m6, fun cr H12 a' b' D12 fr12 tc la lb ha hb => ?_⟩
      have t12 := t11.fr D11 fr12
      have tn12 := tn11.ts (Ts.fr D11 fr12) (noL_net _ _)
      have tnn12 := tnn.ts (Ts.fr D11 fr12) (noL_net _ _)
      refine ⟨.ref pr, rfl, .ref cr, rfl, .ref pr, .ref cr, m, gs, a', b', rfl, tn12, tc, by rw [la, lb], ha, hb, by omega, by omega, by rw [la]; exact ok, fun rw_ H13 s13 tw => ?_⟩
      have D13 := D12.same s13
      have t13 := (Gr.of s13).tabs t12
      have tn13 := tn12.same s13
      have tnn13 := tnn12.same s13
      have tc13 := tc.same s13
      obtain ⟨W, hW⟩ : ∃ W : Nat, W = m + cn - 1 := ⟨_, rfl⟩
      have eW : (m : Int) + (cn : Int) - 1 = (W : Int) := by omega
      refine ⟨.ref pr, rfl, .ref cr, rfl, .int (m : Nat), rfl, .int (cn : Nat), rfl, _, _, rfl, rfl, _, _, rfl, rfl, ?_⟩
      refine shown_call T tn13 tc13 la lb ha hb m1 m6 (by omega) (by omega) ok hf (w := W) (by omega) t13 (by show [V.ref pr, V.ref cr, V.int ((m : Int) + (cn : Int) - 1)] = _; rw [eW]) fun av H14 g14 an => ?_
      have D14 := D13.gr' g14
      have t14 := g14.tabs t13
      have tn14 := tn13.gr g14
      have tnn14 := tnn13.gr g14
      have tc14 := tc13.gr g14
      have tw14 := tw.gr g14
      have wlen : (wordsM gs (w0M a' b')).length = m + gs.length := by rw [wordsM_len, w0_len (by rw [la, lb]), la]
      obtain ⟨wa, ws, e, hrw, tws⟩ := id tw14.tup_inv
      cases e
      have lws : ws.length = m + gs.length := by rw [tws.length, List.length_map, wlen]
      obtain ⟨a2, hat2, ha2⟩ := word_at hrw tws (r := W) (by omega)
      have last : atI ws (-1) = some (.ref a2) := by
        have e1 : ixN ws.length (-1) = some W := by
          unfold ixN
          rw [if_neg (by decide), if_pos (by omega)]
          congr 1
          omega
        have e2 : ixN ws.length (W : Int) = some W := ixN_k (by omega)
        rw [← hat2]
        unfold atI
        rw [e1, e2]
      have hfro : ((wordsM gs (w0M a' b')).getD W (0, 0, false)).2.2 = froAt (wordsM gs (w0M a' b')) W := rfl
      refine ⟨av, rfl, rfl, .ref rw_, rfl, _, rfl, rw_, ws, _, .ref a2, rfl, rfl, SqT.of hrw, last, a2, _, 2, _, rfl, rfl, SqT.of ha2, rfl, rfl, _, rfl, ?_⟩
      rw [an.is, hfro]
      have ne : decide (V.bl (!froAt (wordsM gs (w0M a' b')) W) = V.bl (froAt (wordsM gs (w0M a' b')) W)) = false := by
        cases froAt (wordsM gs (w0M a' b')) W <;> rfl
      rw [ne]
      refine iteF ?_
      have ok' : NetOk a'.length gn := by rw [la]; exact okn
      refine ⟨.ref nr, rfl, .ref cr, rfl, .ref nr, .ref cr, m, gn, a', b', rfl, tnn14, tc14, by rw [la, lb], ha, hb, by omega, by omega, ok', t14 _ (by simp [Tx.tabs]), fun r1 H15 g15 tw1 => ?_⟩
      refine ⟨.ref nr, rfl, .ref cr, rfl, .ref nr, .ref cr, m, gn, a', b', rfl, tnn14.gr g15, tc14.gr g15, by rw [la, lb], ha, hb, by omega, by omega, ok', fun r2 H16 s16 tw2 => ?_⟩
      refine ne_same (tw1.same s16).dp tw2.dp (sh_wds _) ⟨_, rfl, iteF ?_⟩
      have g16 := g15.trans (Gr.of s16)
      have D16 := D14.gr' g16
      have t16 := g16.tabs t14
      refine ⟨.int (m : Nat), rfl, _, _, rfl, rfl, .int (m : Nat), rfl, .int (m : Nat), rfl, .int (cn : Nat), rfl, _, _, rfl, rfl, _, _, rfl, rfl, ?_⟩
      refine ⟨.ref d, rfl, .int (m : Nat), rfl, .int (cn : Nat), rfl, _, _, rfl, rfl, d, l, _, _, rfl, D16, by omega, by omega, by omega, fun H17 z D17 fr17 z0 z1 => ⟨by show 5 ≤ sizeLine; decide, fun p5 np5 => ?_⟩⟩
      obtain ⟨z, rfl⟩ := Int.eq_ofNat_of_zero_le z0
      have s18 := same_upd (o := HO.lst [V.int 0, V.int ((m : Int) - 1), V.int (m : Nat), V.int ((m : Int) + (cn : Int) - 1), V.int (z : Nat)]) np5
      have h18 : upd H17 p5 (HO.lst [V.int 0, V.int ((m : Int) - 1), V.int (m : Nat), V.int ((m : Int) + (cn : Int) - 1), V.int (z : Nat)]) p5 = some (HO.lst [V.int 0, V.int ((m : Int) - 1), V.int (m : Nat), V.int ((m : Int) + (cn : Int) - 1), V.int (z : Nat)]) := upd_same
      generalize hh : upd H17 p5 _ = H18
      replace s18 : Same H17 H18 := by rw [← hh]; exact s18
      replace h18 : H18 p5 = some (HO.lst [V.int 0, V.int ((m : Int) - 1), V.int (m : Nat), V.int ((m : Int) + (cn : Int) - 1), V.int (z : Nat)]) := by rw [← hh]; exact h18
      clear hh
      have ts17 := Ts.fr D16 fr17
      have D18 := D17.same s18
      have t18 := (Gr.of s18).tabs (t16.fr D16 fr17)
      have tn18 := ((tn14.gr g16).ts ts17 (noL_net _ _)).same s18
      have tnn18 := ((tnn14.gr g16).ts ts17 (noL_net _ _)).same s18
      have tc18 := ((tc14.gr g16).ts ts17 (noL_ch _ _)).same s18
      have an18 := (((an.gr g16).fr ts17).gr (Gr.of s18))
      refine ⟨p5, rfl, ⟨_, SqL.of h18⟩, for_list (K := K) (a := p5) (xs := [V.int 0, V.int ((m : Int) - 1), V.int (m : Nat), V.int ((m : Int) + (cn : Int) - 1), V.int (z : Nat)]) (fun jj σ H' => ∃ y10, σ = [some (.ref a), some (.ref d), some (.int (0 + (i : Int))), some (.int (cn : Nat)), some (.int (m : Nat)), some (.ref pr), some (.ref nr), some (.ref cr), some (.ref rw_), some av, y10] ∧ Gr H18 H') ⟨_, rfl, Gr.refl⟩ (fun jj σ H' _ ⟨_, _, g⟩ => SqL.of (g.lst h18)) ?_ ?_⟩
      · rintro jj x σ H19 hx ⟨y10, rfl, g19⟩
        obtain ⟨w', hw', wl⟩ : ∃ w' : Nat, x = .int (w' : Nat) ∧ w' < m + gn.length := by
          have mem := List.mem_of_getElem? hx
          simp only [List.mem_cons, List.not_mem_nil, or_false] at mem
          rcases mem with h | h | h | h | h
          · exact ⟨0, h, by omega⟩
          · exact ⟨m - 1, by rw [h]; congr 1; omega, by omega⟩
          · exact ⟨m, h, by omega⟩
          · exact ⟨m + cn - 1, by rw [h]; congr 1; omega, by omega⟩
          · exact ⟨z, h, by omega⟩
        subst hw'
        refine ⟨.ref nr, rfl, .ref cr, rfl, .int (w' : Nat), rfl, .ref nr, .ref cr, m, w', gn, a', b', rfl, tnn18.gr g19, tc18.gr g19, la, lb, ha, hb, m1, m6, by omega, by omega, okn, wl, g19.tabs t18, nf, fun H20 g20 => ⟨_, rfl, iteF ?_⟩⟩
        have g20' := g19.trans g20
        refine ⟨.ref nr, rfl, .ref cr, rfl, .int (w' : Nat), rfl, .ref nr, .ref cr, m, w', gn, a', b', rfl, tnn18.gr g20', tc18.gr g20', la, lb, ha, hb, m1, m6, by omega, by omega, okn, wl, g20'.tabs t18, nf, fun H21 g21 => ⟨_, rfl, iteF ?_⟩⟩
        exact ⟨_, rfl, g20'.trans g21⟩
      · rintro σ H19 ⟨y10, rfl, g19⟩
        refine ⟨.ref pr, rfl, .ref cr, rfl, .int (m : Nat), rfl, .int (cn : Nat), rfl, _, _, rfl, rfl, _, _, rfl, rfl, ?_⟩
        refine shown_call T (tn18.gr g19) (tc18.gr g19) la lb ha hb m1 m6 (by omega) (by omega) ok hf (w := W) (by omega) (g19.tabs t18) (by show [V.ref pr, V.ref cr, V.int ((m : Int) + (cn : Int) - 1)] = _; rw [eW]) fun av2 H20 g20 an2 => ?_
        have anE := (an18.gr g19).gr g20
        refine ⟨av, rfl, ne_same an2.dp.1 anE.dp.1 (Ans.dp (K := K) an2).2 ⟨_, rfl, iteF ?_⟩⟩
        have gE := g19.trans g20
        exact ⟨_, _, _, _, _, _, _, _, _, rfl, (D18.gr' gE).mono (by push_cast; omega), gE.tabs t18⟩
    · rintro σ H2 ⟨y2, y3, y4, y5, y6, y7, y8, y9, y10, rfl, _, _⟩
      exact q H2

end
def d_is_whole : He.DefD := ⟨("is_whole", none), "is_whole", "is_whole", defArgs s_is_whole, defBody s_is_whole, defScope s_is_whole, [], []⟩
def d_is_signs : He.DefD := ⟨("is_signs", none), "is_signs", "is_signs", defArgs s_is_signs, defBody s_is_signs, defScope s_is_signs, [], []⟩
def d_no_delays : He.DefD := ⟨("no_delays", none), "no_delays", "no_delays", defArgs s_no_delays, defBody s_no_delays, defScope s_no_delays, [], []⟩
def d_is_net : He.DefD := ⟨("is_net", none), "is_net", "is_net", defArgs s_is_net, defBody s_is_net, defScope s_is_net, [], []⟩
def d_is_gate : He.DefD := ⟨("is_gate", none), "is_gate", "is_gate", defArgs s_is_gate, defBody s_is_gate, defScope s_is_gate, [], []⟩
def d_choices_of : He.DefD := ⟨("choices_of", none), "choices_of", "choices_of", defArgs s_choices_of, defBody s_choices_of, defScope s_choices_of, [], []⟩
def d_table_worth : He.DefD := ⟨("table_worth", none), "table_worth", "table_worth", defArgs s_table_worth, defBody s_table_worth, defScope s_table_worth, [], []⟩
def d_pairs_of : He.DefD := ⟨("pairs_of", none), "pairs_of", "pairs_of", defArgs s_pairs_of, defBody s_pairs_of, defScope s_pairs_of, [], []⟩
def d_gate_word : He.DefD := ⟨("gate_word", none), "gate_word", "gate_word", defArgs s_gate_word, defBody s_gate_word, defScope s_gate_word, [], []⟩
def d_goes_fro : He.DefD := ⟨("goes_fro", none), "goes_fro", "goes_fro", defArgs s_goes_fro, defBody s_goes_fro, defScope s_goes_fro, [], []⟩
def d_pair_by : He.DefD := ⟨("pair_by", none), "pair_by", "pair_by", defArgs s_pair_by, defBody s_pair_by, defScope s_pair_by, [], []⟩
def d_pairs_for : He.DefD := ⟨("pairs_for", none), "pairs_for", "pairs_for", defArgs s_pairs_for, defBody s_pairs_for, defScope s_pairs_for, [], []⟩
def d_pairs_read : He.DefD := ⟨("pairs_read", none), "pairs_read", "pairs_read", defArgs s_pairs_read, defBody s_pairs_read, defScope s_pairs_read, [], []⟩
def d_words_of : He.DefD := ⟨("words_of", none), "words_of", "words_of", defArgs s_words_of, defBody s_words_of, defScope s_words_of, [], []⟩
def d_is_formula : He.DefD := ⟨("is_formula", none), "is_formula", "is_formula", defArgs s_is_formula, defBody s_is_formula, defScope s_is_formula, [], []⟩
def d_shown : He.DefD := ⟨("shown", none), "shown", "shown", defArgs s_shown, defBody s_shown, defScope s_shown, [], []⟩
def d_delays_by : He.DefD := ⟨("delays_by", none), "delays_by", "delays_by", defArgs s_delays_by, defBody s_delays_by, defScope s_delays_by, [], []⟩
def d_input_delay : He.DefD := ⟨("input_delay", none), "input_delay", "input_delay", defArgs s_input_delay, defBody s_input_delay, defScope s_input_delay, [], []⟩
def d_deck : He.DefD := ⟨("_law_deck", none), "_law_deck", "_law_deck", defArgs s_deck, defBody s_deck, defScope s_deck, [], []⟩
def d_draw : He.DefD := ⟨("_law_draw", none), "_law_draw", "_law_draw", defArgs s_draw, defBody s_draw, defScope s_draw, [], []⟩
def d_table : He.DefD := ⟨("_law_table", none), "_law_table", "_law_table", defArgs s_table, defBody s_table, defScope s_table, [], []⟩
def d_formula : He.DefD := ⟨("_law_formula", none), "_law_formula", "_law_formula", defArgs s_formula, defBody s_formula, defScope s_formula, [], []⟩
def d_chain : He.DefD := ⟨("_law_chain", none), "_law_chain", "_law_chain", defArgs s_chain, defBody s_chain, defScope s_chain, [], []⟩
def d_shared : He.DefD := ⟨("_law_shared", none), "_law_shared", "_law_shared", defArgs s_shared, defBody s_shared, defScope s_shared, [], []⟩
def d_change : He.DefD := ⟨("_law_change", none), "_law_change", "_law_change", defArgs s_change, defBody s_change, defScope s_change, [], []⟩
def d_worth : He.DefD := ⟨("_law_worth", none), "_law_worth", "_law_worth", defArgs s_worth, defBody s_worth, defScope s_worth, [], []⟩
def d_may : He.DefD := ⟨("_law_may", none), "_law_may", "_law_may", defArgs s_may, defBody s_may, defScope s_may, [], []⟩
def d_word : He.DefD := ⟨("_law_word", none), "_law_word", "_law_word", defArgs s_word, defBody s_word, defScope s_word, [], []⟩
def d_words : He.DefD := ⟨("_law_words", none), "_law_words", "_law_words", defArgs s_words, defBody s_words, defScope s_words, [], []⟩
def d_twice : He.DefD := ⟨("_law_twice", none), "_law_twice", "_law_twice", defArgs s_twice, defBody s_twice, defScope s_twice, [], []⟩
def d_refused : He.DefD := ⟨("_law_refused", none), "_law_refused", "_law_refused", defArgs s_refused, defBody s_refused, defScope s_refused, [], []⟩
def d_law : He.DefD := ⟨("law", none), "law", "law", defArgs s_law, defBody s_law, defScope s_law, [], []⟩
def fn : List He.DefD := [d_is_whole, d_is_signs, d_no_delays, d_is_net, d_is_gate, d_choices_of, d_table_worth, d_pairs_of, d_gate_word, d_goes_fro, d_pair_by, d_pairs_for, d_pairs_read, d_words_of, d_is_formula, d_shown, d_delays_by, d_input_delay, d_deck, d_draw, d_table, d_formula, d_chain, d_shared, d_change, d_worth, d_may, d_word, d_words, d_twice, d_refused, d_law]
def fa : List He.Fa := [.glo "is_whole", .glo "is_signs", .glo "no_delays", .glo "is_net", .glo "is_gate", .glo "choices_of", .glo "table_worth", .glo "pairs_of", .glo "gate_word", .glo "goes_fro", .glo "pair_by", .glo "pairs_for", .glo "pairs_read", .glo "words_of", .glo "is_formula", .glo "shown", .glo "delays_by", .glo "input_delay", .glo "_law_deck", .glo "_law_draw", .glo "_law_table", .glo "_law_formula", .glo "_law_chain", .glo "_law_shared", .glo "_law_change", .glo "_law_worth", .glo "_law_may", .glo "_law_word", .glo "_law_words", .glo "_law_twice", .glo "_law_refused", .glo "law", .free "ValueError", .free "all", .free "bool", .free "enumerate", .free "int", .free "isinstance", .free "len", .free "list", .free "max", .free "range", .free "set", .free "sorted", .free "str", .free "sum", .free "tuple", .free "zip", .int "MOST_INPUTS" 6, .int "MOST_INS" 3, .glo "NetError", .glo "NoText", .glo "TooMany", .glo "NotFormula", .glo "NoTurn", .glo "NoForms", .glo "NoRow", .exc "NotFormula"]
def tf : List He.Defn := [("is_signs", none), ("no_delays", none), ("is_net", none), ("is_gate", none), ("words_of", none), ("delays_by", none), ("input_delay", none)]
abbrev RR : PySem.W.OpenRow := PySem.W.OpenLaw.row PySem.Challenge.rw_glitchnet_k25_no_formulas
def yes : PySem.W.Frag → Bool := fun K => (GxE.excCB K (He.ga K "NotFormula") && (decide (PySem.W.kitOne K (.ref (He.ga K "NotFormula")) (.type "ValueError") = some true) && (decide (PySem.W.kitOne K (.ref (He.ga K "NotFormula")) (.ref (He.ga K "NetError")) = some true) && (decide (PySem.W.exmOne K (.ref (He.ga K "NotFormula")) (.ref (He.ga K "NetError")) = some true) && (decide (PySem.W.kitOne K (.ref (He.ga K "NotFormula")) (.ref (He.ga K "NoText")) = some false) && (decide (PySem.W.exmOne K (.ref (He.ga K "NotFormula")) (.ref (He.ga K "NoText")) = some false) && (decide (PySem.W.kitOne K (.ref (He.ga K "NotFormula")) (.ref (He.ga K "TooMany")) = some false) && (decide (PySem.W.exmOne K (.ref (He.ga K "NotFormula")) (.ref (He.ga K "TooMany")) = some false) && (decide (PySem.W.kitOne K (.ref (He.ga K "NotFormula")) (.ref (He.ga K "NotFormula")) = some true) && (decide (PySem.W.exmOne K (.ref (He.ga K "NotFormula")) (.ref (He.ga K "NotFormula")) = some true) && (decide (PySem.W.kitOne K (.ref (He.ga K "NotFormula")) (.ref (He.ga K "NoTurn")) = some false) && (decide (PySem.W.exmOne K (.ref (He.ga K "NotFormula")) (.ref (He.ga K "NoTurn")) = some false) && (decide (PySem.W.kitOne K (.ref (He.ga K "NotFormula")) (.ref (He.ga K "NoForms")) = some false) && (decide (PySem.W.exmOne K (.ref (He.ga K "NotFormula")) (.ref (He.ga K "NoForms")) = some false) && (decide (PySem.W.kitOne K (.ref (He.ga K "NotFormula")) (.ref (He.ga K "NoRow")) = some false) && (decide (PySem.W.exmOne K (.ref (He.ga K "NotFormula")) (.ref (He.ga K "NoRow")) = some false) && true))))))))))))))))
def ts : List He.Tab := []
abbrev hk : PySem.W.Hook := He.hookX 4 fa fn ts tf yes
def ob (s : PySem.W.SharedT) : He.AlX := He.obsX 4 fa fn ts tf yes (HandSHeadRun.getT s)
theorem ob_eq (s : PySem.W.SharedT) : ob s = hk.obs s.abs := He.obsX_eq (HandSHeadRun.getT_eq s)
theorem run (w : World) : HandSHeadRun.RunEq RR (PySem.W.view RR.prog [48]) hk ob 3000 [("is_whole" : PySem.Str), ("is_signs" : PySem.Str), ("no_delays" : PySem.Str), ("NetError" : PySem.Str), ("NoText" : PySem.Str), ("TooMany" : PySem.Str), ("NotFormula" : PySem.Str), ("NoTurn" : PySem.Str), ("NoForms" : PySem.Str), ("NoRow" : PySem.Str), ("MOST_INPUTS" : PySem.Str), ("MOST_INS" : PySem.Str), ("is_net" : PySem.Str), ("is_gate" : PySem.Str), ("choices_of" : PySem.Str), ("table_worth" : PySem.Str), ("pairs_of" : PySem.Str), ("gate_word" : PySem.Str), ("goes_fro" : PySem.Str), ("pair_by" : PySem.Str), ("pairs_for" : PySem.Str), ("pairs_read" : PySem.Str), ("words_of" : PySem.Str), ("is_formula" : PySem.Str), ("shown" : PySem.Str), ("delays_by" : PySem.Str), ("input_delay" : PySem.Str), ("_law_deck" : PySem.Str), ("_law_draw" : PySem.Str), ("_law_table" : PySem.Str), ("_law_formula" : PySem.Str), ("_law_chain" : PySem.Str), ("_law_shared" : PySem.Str), ("_law_change" : PySem.Str), ("_law_worth" : PySem.Str), ("_law_may" : PySem.Str), ("_law_word" : PySem.Str), ("_law_words" : PySem.Str), ("_law_twice" : PySem.Str), ("_law_refused" : PySem.Str)] w := by
  intro os
  kernel_rfl
theorem facts {w : World} {K : PySem.W.Frag} {h : Heap} {mg : Str → Option Value} {f : Addr} (X : K.In h) (G : h.Ns mainGlobals mg) (hfa : mg ("law" : Str) = some (.ref f)) (c : He.SaysX fa fn ts tf yes w h K) : LamX.LawAtS PySem.Challenge.rw_glitchnet_k25_no_formulas w K CX0 9 63 "_law_script" mg f h := by
  obtain ⟨fd0, D0⟩ := c.t.d.def_ 0 (d := d_is_whole) rfl
  have F0 : Fun K "is_whole" "is_whole" s_is_whole (He.fAd K ("is_whole", none)) fd0 := fun_of D0
  have b0 := F0.binds (ps := ["thing"]) fun _ _ _ _ _ _ us hl => match us, hl with | [_], _ => rfl
  obtain ⟨fd1, D1⟩ := c.t.d.def_ 1 (d := d_is_signs) rfl
  have F1 : Fun K "is_signs" "is_signs" s_is_signs (He.fAd K ("is_signs", none)) fd1 := fun_of D1
  have b1 := F1.binds (ps := ["many", "thing"]) fun _ _ _ _ _ _ us hl => match us, hl with | [_, _], _ => rfl
  obtain ⟨fd2, D2⟩ := c.t.d.def_ 2 (d := d_no_delays) rfl
  have F2 : Fun K "no_delays" "no_delays" s_no_delays (He.fAd K ("no_delays", none)) fd2 := fun_of D2
  have b2 := F2.binds (ps := ["net"]) fun _ _ _ _ _ _ us hl => match us, hl with | [_], _ => rfl
  obtain ⟨fd3, D3⟩ := c.t.d.def_ 3 (d := d_is_net) rfl
  have F3 : Fun K "is_net" "is_net" s_is_net (He.fAd K ("is_net", none)) fd3 := fun_of D3
  have b3 := F3.binds (ps := ["thing"]) fun _ _ _ _ _ _ us hl => match us, hl with | [_], _ => rfl
  obtain ⟨fd4, D4⟩ := c.t.d.def_ 4 (d := d_is_gate) rfl
  have F4 : Fun K "is_gate" "is_gate" s_is_gate (He.fAd K ("is_gate", none)) fd4 := fun_of D4
  have b4 := F4.binds (ps := ["wires", "thing"]) fun _ _ _ _ _ _ us hl => match us, hl with | [_, _], _ => rfl
  obtain ⟨fd5, D5⟩ := c.t.d.def_ 5 (d := d_choices_of) rfl
  have F5 : Fun K "choices_of" "choices_of" s_choices_of (He.fAd K ("choices_of", none)) fd5 := fun_of D5
  have b5 := F5.binds (ps := ["lists"]) fun _ _ _ _ _ _ us hl => match us, hl with | [_], _ => rfl
  obtain ⟨fd6, D6⟩ := c.t.d.def_ 6 (d := d_table_worth) rfl
  have F6 : Fun K "table_worth" "table_worth" s_table_worth (He.fAd K ("table_worth", none)) fd6 := fun_of D6
  have b6 := F6.binds (ps := ["table", "worths"]) fun _ _ _ _ _ _ us hl => match us, hl with | [_, _], _ => rfl
  obtain ⟨fd7, D7⟩ := c.t.d.def_ 7 (d := d_pairs_of) rfl
  have F7 : Fun K "pairs_of" "pairs_of" s_pairs_of (He.fAd K ("pairs_of", none)) fd7 := fun_of D7
  have b7 := F7.binds (ps := ["word"]) fun _ _ _ _ _ _ us hl => match us, hl with | [_], _ => rfl
  obtain ⟨fd8, D8⟩ := c.t.d.def_ 8 (d := d_gate_word) rfl
  have F8 : Fun K "gate_word" "gate_word" s_gate_word (He.fAd K ("gate_word", none)) fd8 := fun_of D8
  have b8 := F8.binds (ps := ["table", "words"]) fun _ _ _ _ _ _ us hl => match us, hl with | [_, _], _ => rfl
  obtain ⟨fd9, D9⟩ := c.t.d.def_ 9 (d := d_goes_fro) rfl
  have F9 : Fun K "goes_fro" "goes_fro" s_goes_fro (He.fAd K ("goes_fro", none)) fd9 := fun_of D9
  have b9 := F9.binds (ps := ["table", "words", "first", "last"]) fun _ _ _ _ _ _ us hl => match us, hl with | [_, _, _, _], _ => rfl
  obtain ⟨fd10, D10⟩ := c.t.d.def_ 10 (d := d_pair_by) rfl
  have F10 : Fun K "pair_by" "pair_by" s_pair_by (He.fAd K ("pair_by", none)) fd10 := fun_of D10
  have b10 := F10.binds (ps := ["table", "pairs"]) fun _ _ _ _ _ _ us hl => match us, hl with | [_, _], _ => rfl
  obtain ⟨fd11, D11⟩ := c.t.d.def_ 11 (d := d_pairs_for) rfl
  have F11 : Fun K "pairs_for" "pairs_for" s_pairs_for (He.fAd K ("pairs_for", none)) fd11 := fun_of D11
  have b11 := F11.binds (ps := ["table", "options", "wanted"]) fun _ _ _ _ _ _ us hl => match us, hl with | [_, _, _], _ => rfl
  obtain ⟨fd12, D12⟩ := c.t.d.def_ 12 (d := d_pairs_read) rfl
  have F12 : Fun K "pairs_read" "pairs_read" s_pairs_read (He.fAd K ("pairs_read", none)) fd12 := fun_of D12
  have b12 := F12.binds (ps := ["net", "options", "wire", "wanted"]) fun _ _ _ _ _ _ us hl => match us, hl with | [_, _, _, _], _ => rfl
  obtain ⟨fd13, D13⟩ := c.t.d.def_ 13 (d := d_words_of) rfl
  have F13 : Fun K "words_of" "words_of" s_words_of (He.fAd K ("words_of", none)) fd13 := fun_of D13
  have b13 := F13.binds (ps := ["net", "change"]) fun _ _ _ _ _ _ us hl => match us, hl with | [_, _], _ => rfl
  obtain ⟨fd14, D14⟩ := c.t.d.def_ 14 (d := d_is_formula) rfl
  have F14 : Fun K "is_formula" "is_formula" s_is_formula (He.fAd K ("is_formula", none)) fd14 := fun_of D14
  have b14 := F14.binds (ps := ["net"]) fun _ _ _ _ _ _ us hl => match us, hl with | [_], _ => rfl
  obtain ⟨fd15, D15⟩ := c.t.d.def_ 15 (d := d_shown) rfl
  have F15 : Fun K "shown" "shown" s_shown (He.fAd K ("shown", none)) fd15 := fun_of D15
  have b15 := F15.binds (ps := ["net", "change", "wire"]) fun _ _ _ _ _ _ us hl => match us, hl with | [_, _, _], _ => rfl
  obtain ⟨fd16, D16⟩ := c.t.d.def_ 16 (d := d_delays_by) rfl
  have F16 : Fun K "delays_by" "delays_by" s_delays_by (He.fAd K ("delays_by", none)) fd16 := fun_of D16
  have b16 := F16.binds (ps := ["net", "words", "wire", "pair"]) fun _ _ _ _ _ _ us hl => match us, hl with | [_, _, _, _], _ => rfl
  obtain ⟨fd17, D17⟩ := c.t.d.def_ 17 (d := d_input_delay) rfl
  have F17 : Fun K "input_delay" "input_delay" s_input_delay (He.fAd K ("input_delay", none)) fd17 := fun_of D17
  have b17 := F17.binds (ps := ["word", "pair"]) fun _ _ _ _ _ _ us hl => match us, hl with | [_, _], _ => rfl
  obtain ⟨fd18, D18⟩ := c.t.d.def_ 18 (d := d_deck) rfl
  have F18 : Fun K "_law_deck" "_law_deck" s_deck (He.fAd K ("_law_deck", none)) fd18 := fun_of D18
  have b18 := F18.binds (ps := ["_law_script"]) fun _ _ _ _ _ _ us hl => match us, hl with | [_], _ => rfl
  obtain ⟨fd19, D19⟩ := c.t.d.def_ 19 (d := d_draw) rfl
  have F19 : Fun K "_law_draw" "_law_draw" s_draw (He.fAd K ("_law_draw", none)) fd19 := fun_of D19
  have b19 := F19.binds (ps := ["_law_deck_here", "_law_most"]) fun _ _ _ _ _ _ us hl => match us, hl with | [_, _], _ => rfl
  obtain ⟨fd20, D20⟩ := c.t.d.def_ 20 (d := d_table) rfl
  have F20 : Fun K "_law_table" "_law_table" s_table (He.fAd K ("_law_table", none)) fd20 := fun_of D20
  have b20 := F20.binds (ps := ["_law_deck_here", "_law_ins"]) fun _ _ _ _ _ _ us hl => match us, hl with | [_, _], _ => rfl
  obtain ⟨fd21, D21⟩ := c.t.d.def_ 21 (d := d_formula) rfl
  have F21 : Fun K "_law_formula" "_law_formula" s_formula (He.fAd K ("_law_formula", none)) fd21 := fun_of D21
  have b21 := F21.binds (ps := ["_law_deck_here", "_law_many", "_law_count"]) fun _ _ _ _ _ _ us hl => match us, hl with | [_, _, _], _ => rfl
  obtain ⟨fd22, D22⟩ := c.t.d.def_ 22 (d := d_chain) rfl
  have F22 : Fun K "_law_chain" "_law_chain" s_chain (He.fAd K ("_law_chain", none)) fd22 := fun_of D22
  have b22 := F22.binds (ps := ["_law_deck_here", "_law_many", "_law_count"]) fun _ _ _ _ _ _ us hl => match us, hl with | [_, _, _], _ => rfl
  obtain ⟨fd23, D23⟩ := c.t.d.def_ 23 (d := d_shared) rfl
  have F23 : Fun K "_law_shared" "_law_shared" s_shared (He.fAd K ("_law_shared", none)) fd23 := fun_of D23
  have b23 := F23.binds (ps := ["_law_deck_here", "_law_many", "_law_count"]) fun _ _ _ _ _ _ us hl => match us, hl with | [_, _, _], _ => rfl
  obtain ⟨fd24, D24⟩ := c.t.d.def_ 24 (d := d_change) rfl
  have F24 : Fun K "_law_change" "_law_change" s_change (He.fAd K ("_law_change", none)) fd24 := fun_of D24
  have b24 := F24.binds (ps := ["_law_deck_here", "_law_many"]) fun _ _ _ _ _ _ us hl => match us, hl with | [_, _], _ => rfl
  obtain ⟨fd25, D25⟩ := c.t.d.def_ 25 (d := d_worth) rfl
  have F25 : Fun K "_law_worth" "_law_worth" s_worth (He.fAd K ("_law_worth", none)) fd25 := fun_of D25
  have b25 := F25.binds (ps := ["_law_table_here", "_law_worths"]) fun _ _ _ _ _ _ us hl => match us, hl with | [_, _], _ => rfl
  obtain ⟨fd26, D26⟩ := c.t.d.def_ 26 (d := d_may) rfl
  have F26 : Fun K "_law_may" "_law_may" s_may (He.fAd K ("_law_may", none)) fd26 := fun_of D26
  have b26 := F26.binds (ps := ["_law_word_here", "_law_pair"]) fun _ _ _ _ _ _ us hl => match us, hl with | [_, _], _ => rfl
  obtain ⟨fd27, D27⟩ := c.t.d.def_ 27 (d := d_word) rfl
  have F27 : Fun K "_law_word" "_law_word" s_word (He.fAd K ("_law_word", none)) fd27 := fun_of D27
  have b27 := F27.binds (ps := ["_law_table_here", "_law_words_here"]) fun _ _ _ _ _ _ us hl => match us, hl with | [_, _], _ => rfl
  obtain ⟨fd28, D28⟩ := c.t.d.def_ 28 (d := d_words) rfl
  have F28 : Fun K "_law_words" "_law_words" s_words (He.fAd K ("_law_words", none)) fd28 := fun_of D28
  have b28 := F28.binds (ps := ["_law_net", "_law_change_here"]) fun _ _ _ _ _ _ us hl => match us, hl with | [_, _], _ => rfl
  obtain ⟨fd29, D29⟩ := c.t.d.def_ 29 (d := d_twice) rfl
  have F29 : Fun K "_law_twice" "_law_twice" s_twice (He.fAd K ("_law_twice", none)) fd29 := fun_of D29
  have b29 := F29.binds (ps := ["_law_deck_here", "_law_net"]) fun _ _ _ _ _ _ us hl => match us, hl with | [_, _], _ => rfl
  obtain ⟨fd30, D30⟩ := c.t.d.def_ 30 (d := d_refused) rfl
  have F30 : Fun K "_law_refused" "_law_refused" s_refused (He.fAd K ("_law_refused", none)) fd30 := fun_of D30
  have b30 := F30.binds (ps := ["_law_net", "_law_change_here", "_law_wire"]) fun _ _ _ _ _ _ us hl => match us, hl with | [_, _, _], _ => rfl
  obtain ⟨fd31, D31⟩ := c.t.d.def_ 31 (d := d_law) rfl
  have F31 : Fun K "law" "law" s_law (He.fAd K ("law", none)) fd31 := fun_of D31
  have b31 := F31.binds (ps := ["_law_script"]) fun _ _ _ _ _ _ us hl => match us, hl with | [_], _ => rfl
  obtain ⟨q_NotFormula, kC_NotFormula, su_NotFormula, ty_NotFormula⟩ := He.exc_ok (c.t.d.fact 57 (f := .exc "NotFormula") rfl)
  have mo := c.more
  obtain ⟨y0, mo⟩ := He.ba mo
  obtain ⟨y1, mo⟩ := He.ba mo
  obtain ⟨y2, mo⟩ := He.ba mo
  obtain ⟨y3, mo⟩ := He.ba mo
  obtain ⟨y4, mo⟩ := He.ba mo
  obtain ⟨y5, mo⟩ := He.ba mo
  obtain ⟨y6, mo⟩ := He.ba mo
  obtain ⟨y7, mo⟩ := He.ba mo
  obtain ⟨y8, mo⟩ := He.ba mo
  obtain ⟨y9, mo⟩ := He.ba mo
  obtain ⟨y10, mo⟩ := He.ba mo
  obtain ⟨y11, mo⟩ := He.ba mo
  obtain ⟨y12, mo⟩ := He.ba mo
  obtain ⟨y13, mo⟩ := He.ba mo
  obtain ⟨y14, mo⟩ := He.ba mo
  obtain ⟨y15, mo⟩ := He.ba mo
  have e := hfa.symm.trans (He.glo_ok X G (c.t.d.fact 31 (f := .glo "law") rfl))
  cases e
  let T : Tx K mg := { f_is_whole := _, fd_is_whole := _, F_is_whole := F0, g_is_whole := He.glo_ok X G (c.t.d.fact 0 (f := .glo "is_whole") rfl), b_is_whole := b0, f_is_signs := _, fd_is_signs := _, F_is_signs := F1, g_is_signs := He.glo_ok X G (c.t.d.fact 1 (f := .glo "is_signs") rfl), b_is_signs := b1, c_is_signs := (He.cT K ("is_signs", none)).1, P_is_signs := (He.cT K ("is_signs", none)).2, cd_is_signs := code_of F1, f_no_delays := _, fd_no_delays := _, F_no_delays := F2, g_no_delays := He.glo_ok X G (c.t.d.fact 2 (f := .glo "no_delays") rfl), b_no_delays := b2, c_no_delays := (He.cT K ("no_delays", none)).1, P_no_delays := (He.cT K ("no_delays", none)).2, cd_no_delays := code_of F2, f_is_net := _, fd_is_net := _, F_is_net := F3, g_is_net := He.glo_ok X G (c.t.d.fact 3 (f := .glo "is_net") rfl), b_is_net := b3, c_is_net := (He.cT K ("is_net", none)).1, P_is_net := (He.cT K ("is_net", none)).2, cd_is_net := code_of F3, f_is_gate := _, fd_is_gate := _, F_is_gate := F4, g_is_gate := He.glo_ok X G (c.t.d.fact 4 (f := .glo "is_gate") rfl), b_is_gate := b4, c_is_gate := (He.cT K ("is_gate", none)).1, P_is_gate := (He.cT K ("is_gate", none)).2, cd_is_gate := code_of F4, f_choices_of := _, fd_choices_of := _, F_choices_of := F5, g_choices_of := He.glo_ok X G (c.t.d.fact 5 (f := .glo "choices_of") rfl), b_choices_of := b5, f_table_worth := _, fd_table_worth := _, F_table_worth := F6, g_table_worth := He.glo_ok X G (c.t.d.fact 6 (f := .glo "table_worth") rfl), b_table_worth := b6, f_pairs_of := _, fd_pairs_of := _, F_pairs_of := F7, g_pairs_of := He.glo_ok X G (c.t.d.fact 7 (f := .glo "pairs_of") rfl), b_pairs_of := b7, f_gate_word := _, fd_gate_word := _, F_gate_word := F8, g_gate_word := He.glo_ok X G (c.t.d.fact 8 (f := .glo "gate_word") rfl), b_gate_word := b8, f_goes_fro := _, fd_goes_fro := _, F_goes_fro := F9, g_goes_fro := He.glo_ok X G (c.t.d.fact 9 (f := .glo "goes_fro") rfl), b_goes_fro := b9, f_pair_by := _, fd_pair_by := _, F_pair_by := F10, g_pair_by := He.glo_ok X G (c.t.d.fact 10 (f := .glo "pair_by") rfl), b_pair_by := b10, f_pairs_for := _, fd_pairs_for := _, F_pairs_for := F11, g_pairs_for := He.glo_ok X G (c.t.d.fact 11 (f := .glo "pairs_for") rfl), b_pairs_for := b11, f_pairs_read := _, fd_pairs_read := _, F_pairs_read := F12, g_pairs_read := He.glo_ok X G (c.t.d.fact 12 (f := .glo "pairs_read") rfl), b_pairs_read := b12, f_words_of := _, fd_words_of := _, F_words_of := F13, g_words_of := He.glo_ok X G (c.t.d.fact 13 (f := .glo "words_of") rfl), b_words_of := b13, c_words_of := (He.cT K ("words_of", none)).1, P_words_of := (He.cT K ("words_of", none)).2, cd_words_of := code_of F13, f_is_formula := _, fd_is_formula := _, F_is_formula := F14, g_is_formula := He.glo_ok X G (c.t.d.fact 14 (f := .glo "is_formula") rfl), b_is_formula := b14, f_shown := _, fd_shown := _, F_shown := F15, g_shown := He.glo_ok X G (c.t.d.fact 15 (f := .glo "shown") rfl), b_shown := b15, f_delays_by := _, fd_delays_by := _, F_delays_by := F16, g_delays_by := He.glo_ok X G (c.t.d.fact 16 (f := .glo "delays_by") rfl), b_delays_by := b16, c_delays_by := (He.cT K ("delays_by", none)).1, P_delays_by := (He.cT K ("delays_by", none)).2, cd_delays_by := code_of F16, f_input_delay := _, fd_input_delay := _, F_input_delay := F17, g_input_delay := He.glo_ok X G (c.t.d.fact 17 (f := .glo "input_delay") rfl), b_input_delay := b17, c_input_delay := (He.cT K ("input_delay", none)).1, P_input_delay := (He.cT K ("input_delay", none)).2, cd_input_delay := code_of F17, f_deck := _, fd_deck := _, F_deck := F18, g_deck := He.glo_ok X G (c.t.d.fact 18 (f := .glo "_law_deck") rfl), b_deck := b18, f_draw := _, fd_draw := _, F_draw := F19, g_draw := He.glo_ok X G (c.t.d.fact 19 (f := .glo "_law_draw") rfl), b_draw := b19, f_table := _, fd_table := _, F_table := F20, g_table := He.glo_ok X G (c.t.d.fact 20 (f := .glo "_law_table") rfl), b_table := b20, f_formula := _, fd_formula := _, F_formula := F21, g_formula := He.glo_ok X G (c.t.d.fact 21 (f := .glo "_law_formula") rfl), b_formula := b21, f_chain := _, fd_chain := _, F_chain := F22, g_chain := He.glo_ok X G (c.t.d.fact 22 (f := .glo "_law_chain") rfl), b_chain := b22, f_shared := _, fd_shared := _, F_shared := F23, g_shared := He.glo_ok X G (c.t.d.fact 23 (f := .glo "_law_shared") rfl), b_shared := b23, f_change := _, fd_change := _, F_change := F24, g_change := He.glo_ok X G (c.t.d.fact 24 (f := .glo "_law_change") rfl), b_change := b24, f_worth := _, fd_worth := _, F_worth := F25, g_worth := He.glo_ok X G (c.t.d.fact 25 (f := .glo "_law_worth") rfl), b_worth := b25, f_may := _, fd_may := _, F_may := F26, g_may := He.glo_ok X G (c.t.d.fact 26 (f := .glo "_law_may") rfl), b_may := b26, f_word := _, fd_word := _, F_word := F27, g_word := He.glo_ok X G (c.t.d.fact 27 (f := .glo "_law_word") rfl), b_word := b27, f_words := _, fd_words := _, F_words := F28, g_words := He.glo_ok X G (c.t.d.fact 28 (f := .glo "_law_words") rfl), b_words := b28, f_twice := _, fd_twice := _, F_twice := F29, g_twice := He.glo_ok X G (c.t.d.fact 29 (f := .glo "_law_twice") rfl), b_twice := b29, f_refused := _, fd_refused := _, F_refused := F30, g_refused := He.glo_ok X G (c.t.d.fact 30 (f := .glo "_law_refused") rfl), b_refused := b30, f_law := _, fd_law := _, F_law := F31, g_law := He.glo_ok X G (c.t.d.fact 31 (f := .glo "law") rfl), b_law := b31, m_ValueError := He.free_ok X G (c.t.d.fact 32 (f := .free "ValueError") rfl), m_all := He.free_ok X G (c.t.d.fact 33 (f := .free "all") rfl), m_bool := He.free_ok X G (c.t.d.fact 34 (f := .free "bool") rfl), m_enumerate := He.free_ok X G (c.t.d.fact 35 (f := .free "enumerate") rfl), m_int := He.free_ok X G (c.t.d.fact 36 (f := .free "int") rfl), m_isinstance := He.free_ok X G (c.t.d.fact 37 (f := .free "isinstance") rfl), m_len := He.free_ok X G (c.t.d.fact 38 (f := .free "len") rfl), m_list := He.free_ok X G (c.t.d.fact 39 (f := .free "list") rfl), m_max := He.free_ok X G (c.t.d.fact 40 (f := .free "max") rfl), m_range := He.free_ok X G (c.t.d.fact 41 (f := .free "range") rfl), m_set := He.free_ok X G (c.t.d.fact 42 (f := .free "set") rfl), m_sorted := He.free_ok X G (c.t.d.fact 43 (f := .free "sorted") rfl), m_str := He.free_ok X G (c.t.d.fact 44 (f := .free "str") rfl), m_sum := He.free_ok X G (c.t.d.fact 45 (f := .free "sum") rfl), m_tuple := He.free_ok X G (c.t.d.fact 46 (f := .free "tuple") rfl), m_zip := He.free_ok X G (c.t.d.fact 47 (f := .free "zip") rfl), k_MOST_INPUTS := He.int_ok X G (c.t.d.fact 48 (f := .int "MOST_INPUTS" 6) rfl), k_MOST_INS := He.int_ok X G (c.t.d.fact 49 (f := .int "MOST_INS" 3) rfl), C_NetError := _, gC_NetError := He.glo_ok X G (c.t.d.fact 50 (f := .glo "NetError") rfl), C_NoText := _, gC_NoText := He.glo_ok X G (c.t.d.fact 51 (f := .glo "NoText") rfl), C_TooMany := _, gC_TooMany := He.glo_ok X G (c.t.d.fact 52 (f := .glo "TooMany") rfl), C_NotFormula := _, gC_NotFormula := He.glo_ok X G (c.t.d.fact 53 (f := .glo "NotFormula") rfl), C_NoTurn := _, gC_NoTurn := He.glo_ok X G (c.t.d.fact 54 (f := .glo "NoTurn") rfl), C_NoForms := _, gC_NoForms := He.glo_ok X G (c.t.d.fact 55 (f := .glo "NoForms") rfl), C_NoRow := _, gC_NoRow := He.glo_ok X G (c.t.d.fact 56 (f := .glo "NoRow") rfl), q_NotFormula := q_NotFormula, kC_NotFormula := kC_NotFormula, su_NotFormula := su_NotFormula, ty_NotFormula := ty_NotFormula, X_NotFormula := GxE.excC_ok y0, v_NotFormula := of_decide_eq_true y1, t_NotFormula_NetError := of_decide_eq_true y2, x_NotFormula_NetError := of_decide_eq_true y3, t_NotFormula_NoText := of_decide_eq_true y4, x_NotFormula_NoText := of_decide_eq_true y5, t_NotFormula_TooMany := of_decide_eq_true y6, x_NotFormula_TooMany := of_decide_eq_true y7, t_NotFormula_NotFormula := of_decide_eq_true y8, x_NotFormula_NotFormula := of_decide_eq_true y9, t_NotFormula_NoTurn := of_decide_eq_true y10, x_NotFormula_NoTurn := of_decide_eq_true y11, t_NotFormula_NoForms := of_decide_eq_true y12, x_NotFormula_NoForms := of_decide_eq_true y13, t_NotFormula_NoRow := of_decide_eq_true y14, x_NotFormula_NoRow := of_decide_eq_true y15 }
  refine ⟨fd31, tf.map (He.cT K), sp_law K T.tabs, ?_, ?_, ?_, ?_, ?_, ?_⟩
  · rintro p hp
    obtain ⟨d, hd, rfl⟩ := List.mem_map.mp hp
    exact c.empty d hd
  · rintro p hp
    obtain ⟨d, hd, rfl⟩ := List.mem_map.mp hp
    exact c.out d hd
  · rintro p hp
    obtain ⟨d, hd, rfl⟩ := List.mem_map.mp hp
    exact PySem.W.codeHd_of_K X (c.hd d hd)
  · obtain ⟨oc, od, kV, doc, pm, an, cdv, ct, osl, rfl, lk, hcd⟩ := F31.ex
    exact fun s v => .of_eq rfl
  · intro H a ns hl hbits hT hS
    refine ⟨a, ns, rfl, hS, hl, fun P hP => ?_, fun _ => rfl⟩
    have hP : P ∈ (tf.map (He.cT K)).map (·.2) := hP
    obtain ⟨p, hp, rfl⟩ := List.mem_map.mp hP
    exact ⟨#[], hT p hp, by trivial⟩
  · intro base KB GB hTB
    have B : Tb base T := ⟨tab_of (hTB (He.cT K ("is_signs", none)) (List.mem_map.mpr ⟨_, (show (("is_signs", none) : He.Defn) ∈ tf by decide), rfl⟩)), tab_of (hTB (He.cT K ("no_delays", none)) (List.mem_map.mpr ⟨_, (show (("no_delays", none) : He.Defn) ∈ tf by decide), rfl⟩)), tab_of (hTB (He.cT K ("is_net", none)) (List.mem_map.mpr ⟨_, (show (("is_net", none) : He.Defn) ∈ tf by decide), rfl⟩)), tab_of (hTB (He.cT K ("is_gate", none)) (List.mem_map.mpr ⟨_, (show (("is_gate", none) : He.Defn) ∈ tf by decide), rfl⟩)), tab_of (hTB (He.cT K ("words_of", none)) (List.mem_map.mpr ⟨_, (show (("words_of", none) : He.Defn) ∈ tf by decide), rfl⟩)), tab_of (hTB (He.cT K ("delays_by", none)) (List.mem_map.mpr ⟨_, (show (("delays_by", none) : He.Defn) ∈ tf by decide), rfl⟩)), tab_of (hTB (He.cT K ("input_delay", none)) (List.mem_map.mpr ⟨_, (show (("input_delay", none) : He.Defn) ∈ tf by decide), rfl⟩))⟩
    exact ok_law T B
end Gk
open PySem PySem.W PyProof.Rows
set_option maxRecDepth 100000 in
set_option maxHeartbeats 0 in
theorem PySem.Challenge.cw_glitchnet_k25_no_formulas_holds : PySem.Challenge.rw_glitchnet_k25_no_formulas.Holds := by
  w_on; o_law
  refine HandSHeadRun.head_any (r := OpenLaw.row PySem.Challenge.rw_glitchnet_k25_no_formulas) (q := view (OpenLaw.row PySem.Challenge.rw_glitchnet_k25_no_formulas).prog [48]) (H := Gk.hk) (ob := Gk.ob) (M := 3000) (loose := [("is_whole" : PySem.Str), ("is_signs" : PySem.Str), ("no_delays" : PySem.Str), ("NetError" : PySem.Str), ("NoText" : PySem.Str), ("TooMany" : PySem.Str), ("NotFormula" : PySem.Str), ("NoTurn" : PySem.Str), ("NoForms" : PySem.Str), ("NoRow" : PySem.Str), ("MOST_INPUTS" : PySem.Str), ("MOST_INS" : PySem.Str), ("is_net" : PySem.Str), ("is_gate" : PySem.Str), ("choices_of" : PySem.Str), ("table_worth" : PySem.Str), ("pairs_of" : PySem.Str), ("gate_word" : PySem.Str), ("goes_fro" : PySem.Str), ("pair_by" : PySem.Str), ("pairs_for" : PySem.Str), ("pairs_read" : PySem.Str), ("words_of" : PySem.Str), ("is_formula" : PySem.Str), ("shown" : PySem.Str), ("delays_by" : PySem.Str), ("input_delay" : PySem.Str), ("_law_deck" : PySem.Str), ("_law_draw" : PySem.Str), ("_law_table" : PySem.Str), ("_law_formula" : PySem.Str), ("_law_chain" : PySem.Str), ("_law_shared" : PySem.Str), ("_law_change" : PySem.Str), ("_law_worth" : PySem.Str), ("_law_may" : PySem.Str), ("_law_word" : PySem.Str), ("_law_words" : PySem.Str), ("_law_twice" : PySem.Str), ("_law_refused" : PySem.Str)]) (d := HandSHeadRun.topDef (OpenLaw.row PySem.Challenge.rw_glitchnet_k25_no_formulas).prog 48) (kwd := []) Gk.ob_eq
    (by kernel_rfl) (fun s => by kernel_rfl) Gk.run (by kernel_rfl) (by kernel_rfl) (by kernel_rfl) (by rfl) (by first | assumption | decide +kernel) (by decide +kernel) ⟨rfl, rfl, rfl, rfl, rfl, by decide +kernel⟩ ?hw ?hc
  case hw => w_witness2
  case hc =>
    refine LamX.walk_ofTsE (l := PySem.Challenge.rw_glitchnet_k25_no_formulas) (n := 63) (k := 9) (x := "_law_script") (CX := fun _ => L2.CX0) rfl (by decide) (by kernel_rfl) ⟨rfl, by decide, by decide⟩ ?F (fun _ _ _ _ _ z => z)
    intro w mg fa h Y G hmg0
    obtain ⟨K, KX, c⟩ := Y
    have hmg : mg ("law" : PySem.Str) = some (.ref fa) := by
      have e : (HandSHeadRun.topDef (OpenLaw.row PySem.Challenge.rw_glitchnet_k25_no_formulas).prog 48).name = ("law" : PySem.Str) := by kernel_rfl
      rw [← e]
      exact hmg0
    exact ⟨K, KX, Gk.facts KX G hmg c⟩
