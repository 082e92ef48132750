import PyProof.Rows.All
import Wide.All
import OpenK.AllK
import Wide.FinOn
import HandS.ForMost
import HandS.ForExc
import HandS.IsInst
import HandS.ExcIs
import HandS.ExcValue
import HandS.ExcCtx
import HandS.ExcOwn
import HandS.HotCalls
import HandS.ExcInitHot
import HandS.Head0
import HandS.Head1
import HandS.Head2
import HandS.HeadEnd
import HandS.HeadHook1
import HandS.HeadHook2
import HandS.HeadHook3
import HandS.HeadHook4
import HandS.HeadWalk
import HandS.Defaults
import HandS.ReplaceLit
import HandS.Lambda
import HandS.SortKw
import KE.KMinKey
import PyProof.WalkInts
import HandS.TupLe
import HandS.TupAny
import HandS.More
import HandS.Codes
import HandS.Conv
import HandS.Deep
import HandS.TupSets
import HandS.Style
import HandS.Strs
import HandS.AnyAll
import HandS.GenList
import HandS.JoinGen
import HandS.Zip
import HandS.TupMul
import HandS.Rev
import KE.KRevSl
import KE.GoesMore
import PySem.Challenge.RW_glitchnet_k29_refused_just_beyond_twelve
import PyProof.WalksMore
set_option Elab.async false
set_option linter.all false
set_option maxRecDepth 100000
set_option maxHeartbeats 1000000
namespace Gk
open PySem PySem.Spec PyProof.Rows L2
/-! ### an exception handed on to a def -/
namespace GxE
open PySem PySem.Spec PyProof.Rows L2
/-- a caught exception, as it stands -/
def ExP (a : Addr) (oe : Obj) : HO := .ext fun h => h.get? a = some oe
theorem exP_ok {P : Program} {w : World} {H : Hp} {h : Heap} {a : Addr} {oe : Obj} (e : h.get? a = some oe) : ObjOk P w H h a (ExP a oe) := ⟨e, ⟨oe, e⟩, fun _ _ q k => k _ q⟩
/-- it is seen: told of, or there since the law began -/
def Seen (base : Heap) (H : Hp) (a : Addr) (oe : Obj) : Prop := H a = some (ExP a oe) ∨ base.get? a = some oe
theorem Seen.same {base : Heap} {H H' : Hp} {a : Addr} {oe : Obj} (h : Seen base H a oe) (s : Same H H') : Seen base H' a oe := h.imp (fun e => s _ _ e) id
section
variable {X : Cx} {pins : List (Addr × Obj)} {σ : L2.St} {H : Hp} {s : Shared}
theorem seen_at {a : Addr} {oe : Obj} (I : Inv X pins σ H s) (h : Seen X.base H a oe) : s.heap.get? a = some oe := by
  rcases h with h | h
  · exact (I.hok a _ h).1
  · exact (I.bs a oe h).1
theorem inst_of {h : Heap} {a D : Addr} {oe : Obj} (e : h.get? a = some oe) (hz : Zc (.ref D) none oe) (hf : ∃ vs, oe.data = .fields vs) : PySem.W.InstAt h a oe D none := by
  obtain ⟨vs, hv⟩ := hf
  obtain ⟨oc, od, oda, osl⟩ := oe
  obtain ⟨h1, h2⟩ := hz
  dsimp only at h1 h2 hv
  subst h1 h2 hv
  exact ⟨e, rfl, rfl, trivial⟩
/-- isinstance(e, c) -/
def rIsX (K : PySem.W.Frag) (base : Heap) : List V → Hp → VK → Prop := fun xs H Q => ∃ (a D : Addr) (oe : Obj) (c : V) (cv : Value) (b : Bool), xs = [.ref a, c] ∧ Seen base H a oe ∧ Zc (.ref D) none oe ∧ (∃ vs, oe.data = .fields vs) ∧ ExcC K D ∧ ClsV c cv ∧ PySem.W.kitOne K (.ref D) cv = some b ∧ Q (.bl b) H
theorem call_isX : CallR X (.builtin "isinstance") (rIsX X.K X.base) := by
  intro pins s σ H xs us Q I r h
  obtain ⟨a, D, oe, c, cv, b, rfl, seen, hz, hf, C, k, e, q⟩ := h
  obtain ⟨u1, u2, rfl, r1, r2⟩ := vals2 r
  have e2 := k.eq r2
  subst e2
  cases (show u1 = Value.ref a from r1)
  exact PySem.W.kia_one (PySem.W.handS_kitx_exc C.hg C.hk C.hs C.hd C.ha C.hn C.ht C.hm) I.kIn (inst_of (seen_at I seen) hz hf) e (fun z => nomatch z) fun tk => ⟨.bl b, H, I.tok tk, rfl, q⟩
/-- isinstance(e, (c1, c2, ..)) -/
def rIsXT (K : PySem.W.Frag) (base : Heap) : List V → Hp → VK → Prop := fun xs H Q => ∃ (a D : Addr) (oe : Obj) (tp : Addr) (cs : List V) (us : List Value) (b : Bool), xs = [.ref a, .ref tp] ∧ Seen base H a oe ∧ Zc (.ref D) none oe ∧ (∃ vs, oe.data = .fields vs) ∧ ExcC K D ∧ H tp = some (.tup cs) ∧ Paired ClsV cs us ∧ PySem.W.kitAny K (.ref D) us = some b ∧ Q (.bl b) H
theorem call_isXT : CallR X (.builtin "isinstance") (rIsXT X.K X.base) := by
  intro pins s σ H xs us Q I r h
  obtain ⟨a, D, oe, tp, cs, ws, b, rfl, seen, hz, hf, C, hT, k, e, q⟩ := h
  obtain ⟨u1, u2, rfl, r1, r2⟩ := vals2 r
  cases (show u1 = Value.ref a from r1)
  cases (show u2 = Value.ref tp from r2)
  obtain ⟨_, its, rv, o, h1, h2, n, h3⟩ := (show ObjOk X.prog X.w H s.heap tp (.tup cs) from I.hok tp _ hT)
  have e3 := ClsV.all k rv
  subst e3
  obtain ⟨oc, od, dt, sl⟩ := o
  simp only at h2 h3
  subst h2 h3
  exact PySem.W.kia_tup (PySem.W.handS_kitx_exc C.hg C.hk C.hs C.hd C.ha C.hn C.ht C.hm) I.kIn (inst_of (seen_at I seen) hz hf) h1 e (fun z => nomatch z) fun tk => ⟨.bl b, H, I.tok tk, rfl, q⟩
end
section
variable {P : Program} {w : World} {H H' : Hp} {h h' : Heap} {a : Addr} {oe : Obj}
theorem hok_add (x : HOk P w H h) (n : H a = none) (e : h.get? a = some oe) : HOk P w (upd H a (ExP a oe)) h := HOk.laidN x (fun _ _ z => z) n (exP_ok e)
theorem paired_imp {α β : Type} {R S : α → β → Prop} (f : ∀ a b, R a b → S a b) : ∀ {xs : List α} {ys : List β}, Paired R xs ys → Paired S xs ys
  | _, _, .nil => .nil
  | _, _, .cons r t => .cons (f _ _ r) (paired_imp f t)
/-- without what is only told of -/
theorem objOk_del {φ : Heap → Prop} (ha : H a = some (.ext φ)) : ∀ (u : HO) (b : Addr), ObjOk P w H h b u → ObjOk P w (delH H a) h b u := by
  have tup : ∀ {b xs}, H b = some (.tup xs) → delH H a b = some (.tup xs) := fun {b xs} e => by
    rw [delH_ne (fun z => by rw [z, ha] at e; cases e)]
    exact e
  have own : ∀ {b c}, H b = some (.own c) → delH H a b = some (.own c) := fun {b c} e => by
    rw [delH_ne (fun z => by rw [z, ha] at e; cases e)]
    exact e
  intro u
  induction u with
  | dT kvs =>
    rintro b ⟨h1, h2, xs, p, r⟩
    refine ⟨h1, h2, xs, ?_, r⟩
    exact paired_imp (fun _ _ ⟨q1, q2, q3⟩ => ⟨q1, tup q2, q3⟩) p
  | ins C dx fs =>
    rintro b ⟨h1, r⟩
    exact ⟨own h1, r⟩
  | frz o u ih =>
    rintro b ⟨h1, h2⟩
    exact ⟨h1, ih b h2⟩
  | _ => exact fun b x => x
theorem hok_del {φ : Heap → Prop} (x : HOk P w H h) (ha : H a = some (.ext φ)) : HOk P w (delH H a) h := fun b u e => by
  by_cases hb : b = a
  · rw [hb, delH_same] at e
    cases e
  · rw [delH_ne hb] at e
    exact objOk_del ha u b (x b u e)
end
section
variable {fs : List Addr} {H H2 : Hp} {h h' : Heap} {a : Addr} {oe : Obj}
theorem un_del (u : Un fs [] (upd H a (ExP a oe)) H2 h h') (n : H a = none) (e : h.get? a = some oe) (e' : h'.get? a = some oe) : Un fs [] H (delH H2 a) h h' := by
  have ne : ∀ {b : Addr} {o : HO}, H b = some o → b ≠ a := fun {b o} q z => by rw [z, n] at q; cases q
  refine ⟨fun b o q nb hb hx => ?_, fun b o q nb hb hx => ?_, fun b o q nb hx => ?_, fun b o q hx => u.there b o q hx, fun b xs q => ?_, fun b o v q => ?_, fun b ps q => ?_⟩
  · by_cases hz : b = a
    · rw [hz] at q ⊢
      rw [e] at q
      rw [e', ← q]
    · exact u.keep b o q (by rw [upd_ne hz]; exact nb) hb hx
  · by_cases hz : b = a
    · rw [hz] at q ⊢
      rw [e] at q
      cases q
      exact ⟨oe.slots, e'⟩
    · exact u.slot b o q (by rw [upd_ne hz]; exact nb) hb hx
  · by_cases hz : b = a
    · rw [hz]; exact delH_same
    · rw [delH_ne hz]
      exact u.free b o q (by rw [upd_ne hz]; exact nb) hx
  · rw [delH_ne (ne q)]
    exact u.tups b xs (by rw [upd_ne (ne q)]; exact q)
  · rw [delH_ne (ne q)]
    exact u.frzs b o v (by rw [upd_ne (ne q)]; exact q)
  · rw [delH_ne (ne q)]
    exact u.tbls b ps (by rw [upd_ne (ne q)]; exact q)
end
/-! ### a def that runs also where an exception is handled -/
structure FnR (P : Program) (w : World) (K : PySem.W.Frag) (mg : PySem.Str → Option Value) (base : Heap) (k : Nat) (f : Addr) (fd : FuncData) (ps : List PySem.Str) (sp : Sp) : Prop where
  len : ∀ vs H Q E, sp vs H Q E → vs.length = ps.length
  run : ∀ (A : Around) (outer : List Env) (s : Shared) (H : Hp) (args : Args) (us : List Value) (vs : List V) (Q : VK), L2H.RoomH k A → Env0 P w K mg base A outer s H → BindsTo s fd args (ps.zip us) → Vals vs us → sp vs H Q E0 →
    codeAny (model P w) A (.call (.ref f) args) (CR CX0 outer P w H s Q E0) s
theorem okR {P : Program} {w : World} {K : PySem.W.Frag} {mg : PySem.Str → Option Value} {base : Heap} {x qual : PySem.Str} {st : Stmt} {f : Addr} {fd : FuncData} {N ps : List PySem.Str} {k : Nat} {sp : Sp} (F : Fun K x qual st f fd) (S : FnScope N ps (defScope st)) (len : ∀ vs H Q E, sp vs H Q E → vs.length = ps.length)
    (body : ∀ (cdv : Value) (A : Around) (outer : List Env) (s : Shared) (H : Hp) (vs : List V) (Q : VK) (p : Addr × Obj), L2H.RoomH k (A.deeper (envOfC qual (defScope st) s.heap.objs.size f cdv)) → sp vs H Q E0 →
      ∃ t, PSs (L2H.cxH CX0 P w K mg base N qual (defScope st) f cdv A outer s H E0 p) (defBody st) t ∧ t { nx := fun _ H' => Q .non H', rt := Q } (L2.start N vs) H) : FnR P w K mg base (k + 1) f fd ps sp := by
  obtain ⟨oc, od, kV, doc, pm, an, cdv, ct, osl, rfl, lk, hcd⟩ := F.ex
  refine ⟨len, fun A outer s H args us vs Q hr e0 hb r hsp => ?_⟩
  have kin : K.In s.heap := e0.mod.kin.keeps fun b o e => (e0.bs b o e).1
  have nol : s.heap.NoLimit := e0.mod.nolimit.keeps fun b o e => (e0.bs b o e).1
  obtain ⟨go, ges, gep, hgo, hgx⟩ := id e0.mod.glob
  have pin : L2H.PinOk outer H s (mainGlobals, go) := by
    refine ⟨(e0.bs _ _ hgo).1, (e0.bs _ _ hgo).2, fun hm => ?_, fun v z => ?_⟩
    · have z := (e0.funs.mem hm).1
      rw [hgo] at z
      cases z
    · have z : go.data = .cell v := z
      rw [hgx.1] at z
      cases z
  have places : ∀ y ∈ ps.zip us, (defScope st).names.lookup y.1 = some .local ∨ ((defScope st).names.lookup y.1 = some .cell ∧ ((cellsFrom (s.heap.objs.size + 1) (defScope st).names []).lookup y.1).isSome = true) := fun ⟨n, v⟩ hy => by
    rcases S.par n (List.of_mem_zip hy).1 with q | q
    · exact .inl q
    · exact .inr ⟨q, PySem.W.cellsFrom_some _ _ _ (.inl q)⟩
  refine codeAny_call_function hr.depth (kin _ _ lk) rfl S.co S.gen rfl (PySem.W.codeRec_of kin hcd) (hb _ _ _ _ ?_)
  refine wpAny_newFunctionEnv_cells S.kind places fun env he s1 x => ?_
  subst he
  refine ⟨nol.keeps x.toInCall.keep, codeAny_func ?_⟩
  obtain ⟨t, ht, hq⟩ := body cdv A outer s H vs Q (mainGlobals, go) (hr.deeper _) hsp
  have I := L2H.inv_startH (CX := CX0) (E := E0) (f := f) (cd := cdv) (qual := qual) S pin e0 (len _ _ _ _ hsp) r x
  refine wpAny_mono (ht.run [] s1 (L2.start N vs) H _ I hq) (fun fl s' hs => ?_) fun e s' hs => hs
  cases fl with
  | ret u =>
    obtain ⟨v, σ', H', J, rv, q⟩ := hs
    exact ⟨v, H', J.os, J.bare, J.base, J.hok, rv, q⟩
  | next =>
    obtain ⟨σ', H', J, q⟩ := hs
    exact ⟨.non, H', J.os, J.bare, J.base, J.hok, rfl, q⟩
  | brk =>
    obtain ⟨_, _, _, q⟩ := hs
    exact False.elim q
  | cont =>
    obtain ⟨_, _, _, q⟩ := hs
    exact False.elim q
section
variable {X : Cx} {k : Nat} {f : Addr} {fd : FuncData} {ps : List PySem.Str} {sp : Sp} {x : PySem.Str} {p pos : Pos} {e : Expr} {es : List Expr} {t : TA} {a : Addr} {oe : Obj} {pn : List (Addr × Obj)} {cls : Value} {d : Option Addr}
/-- f(.., e, ..) in an except suite, e the exception -/
def tCallX (base : Heap) (a : Addr) (cls : Value) (d : Option Addr) (sp : Sp) (t : TA) : TE := fun σ H Q => t σ H fun vs H1 => ∀ oe : Obj, Zc cls d oe → (∃ vs, oe.data = .fields vs) →
  (H1 a = none → sp vs (upd H1 a (ExP a oe)) (fun v H2 => H2 a = some (ExP a oe) ∧ Q v (delH H2 a)) E0) ∧ (base.get? a = some oe → sp vs H1 Q E0)
theorem pe_callX (hz : Zc cls d oe) (hf : ∃ vs, oe.data = .fields vs) (F : FnR X.prog X.w X.K X.mg X.base k f fd ps sp) (hr : L2H.RoomH k (X.suite a ((a, oe) :: pn)).A) (hg : Gl X x) (hm : X.mg x = some (.ref f)) (hk : PySem.W.keepIn X.K (.ref f) = true) (hb : Binds X.K fd ps [])
    (ha : PA (X.suite a ((a, oe) :: pn)) (e :: es) t) (hdb : (x == ("__debug__" : PySem.Str)) = false := by decide) (he : starEach (e :: es) X.env = (false, eval e X.env) :: starEach es X.env := by rfl) (hpl : (backTo pos (starEach es X.env)).any (·.1) = false := by rfl) :
    PE (X.suite a ((a, oe) :: pn)) (.Call (.Name x p) (e :: es) [] pos) (tCallX X.base a cls d sp t) := by
  refine ⟨fun pins s σ H Q I h => ?_⟩
  refine wpAny_Call_Name_kw (ld_glob (X := X.suite a ((a, oe) :: pn)) I hg hm ?_ hdb)
  refine PySem.W.callWith_K (h₀ := X.base) I.ok.mod.kin hk (thn (ha.run pos pins s σ H _ I h) fun us s1 ⟨vs, H1, I1, r, q0⟩ => ⟨I1.kIn, ?_⟩) he hpl
  have q := q0 oe hz hf
  have pin := I1.pin (a, oe) (List.mem_append.mpr (.inl List.mem_cons_self))
  have e0 := I1.env0
  have na : H1 a = none := pin.2.1
  have bind : ∀ {H2 : Hp} {Q2 : VK}, sp vs H2 Q2 E0 → BindsTo s1 fd ⟨us, []⟩ (ps.zip us) := fun {H2 Q2} z => by
    have hl : (us ++ ([] : List Value)).length = ps.length := by rw [List.append_nil, ← r.length]; exact F.len _ _ _ _ z
    have y := hb s1 us I1.kIn hl
    rw [List.append_nil] at y
    exact y
  cases hbase : X.base.get? a with
  | some o =>
    have := (e0.bs a o hbase).1
    rw [pin.1] at this
    cases Option.some.inj this
    have h2 := q.2 hbase
    refine wpAny_call (codeAny_mono (F.run _ _ s1 _ ⟨us, []⟩ us vs _ hr e0 (bind h2) r h2) fun r' s' hq => ?_)
    cases r' with
    | error e' => exact False.elim hq
    | ok fl =>
      cases fl with
      | ret u => exact I1.after hq
      | next => exact False.elim hq
      | brk => exact False.elim hq
      | cont => exact False.elim hq
  | none =>
    have h2 := q.1 na
    have E1 : Env0 X.prog X.w X.K X.mg X.base (X.suite a ((a, oe) :: pn)).A (X.suite a ((a, oe) :: pn)).stack s1 (upd H1 a (ExP a oe)) :=
      ⟨e0.frames, e0.mod, fun b o z => ⟨(e0.bs b o z).1, by rw [upd_ne (fun y => by rw [y, hbase] at z; cases z)]; exact (e0.bs b o z).2⟩, e0.bsz, e0.funs, fun b hb' => by
        by_cases y : b = a
        · exfalso
          obtain ⟨_, o, ho, hnf⟩ := e0.funs.mem (show b ∈ frs _ from hb')
          rw [y, pin.1] at ho
          cases ho
          obtain ⟨vs', hv⟩ := hf
          exact hnf vs' hv
        · rw [upd_ne y]; exact e0.frf b hb', hok_add e0.hok na pin.1, e0.bare⟩
    refine wpAny_call (codeAny_mono (F.run _ _ s1 _ ⟨us, []⟩ us vs _ hr E1 (bind h2) r h2) fun r' s' hq => ?_)
    cases r' with
    | error e' => exact False.elim hq
    | ok fl =>
      cases fl with
      | ret u =>
        obtain ⟨v, H', os, bare, un, hok, rv, q1, q2⟩ := hq
        have e' : s'.heap.get? a = some oe := (hok a _ q1).1
        exact I1.after ⟨v, delH H' a, os, bare, un_del un na pin.1 e', hok_del hok q1, rv, q2⟩
      | next => exact False.elim hq
      | brk => exact False.elim hq
      | cont => exact False.elim hq
end
/-! ### defs that raise -/
theorem okN {P : Program} {w : World} {K : PySem.W.Frag} {mg : PySem.Str → Option Value} {base : Heap} {x qual : PySem.Str} {st : Stmt} {f : Addr} {fd : FuncData} {N ps : List PySem.Str} {k : Nat} {sp : Sp} (F : Fun K x qual st f fd) (S : FnScope N ps (defScope st)) (len : ∀ vs H Q E, sp vs H Q E → vs.length = ps.length)
    (body : ∀ (cdv : Value) (A : Around) (outer : List Env) (s : Shared) (H : Hp) (vs : List V) (Q : VK) (E : XK), Room k (A.deeper (envOfC qual (defScope st) s.heap.objs.size f cdv)) → sp vs H Q E →
      ∃ t, PSs (cxOf (L2N.CX P w) P w K mg base N qual (defScope st) f cdv A outer s H E) (defBody st) t ∧ t { nx := fun _ H' => Q .non H', rt := Q } (L2.start N vs) H) : FnOk P w K mg base (L2N.CX P w) (k + 1) f fd ps sp := by
  obtain ⟨oc, od, kV, doc, pm, an, cdv, ct, osl, rfl, lk, hcd⟩ := F.ex
  exact fn_of lk hcd S len fun A outer s H vs Q E hr hsp => body cdv A outer s H vs Q E hr hsp
theorem takesE {P : Program} {w : World} {K : PySem.W.Frag} {mg : PySem.Str → Option Value} {base : Heap} {N : List PySem.Str} {qual : PySem.Str} {sc : Scope} {f : Addr} {cd : Value} {A : Around} {outer : List Env} {s : Shared} {H : Hp} {E : XK} :
    L2N.Takes (cxOf (L2N.CX P w) P w K mg base N qual sc f cd A outer s H E) (fun cls d _ H => E cls d H) := L2N.takes_of rfl rfl rfl rfl
theorem takesN {X : Cx} : L2N.Takes X (fun _ _ _ _ => False) := fun _ _ x => by
  obtain ⟨_, _, _, _, _, _, _, _, _, _, _, _, _, _, _, _, z⟩ := x
  exact z.elim
end GxE
/-! ### what the top says of classes and of tuples of texts -/
namespace GxE
open PySem PySem.Spec PyProof.Rows L2
def excCB (K : PySem.W.Frag) (D : Addr) : Bool :=
  decide (PySem.W.findIn K (.ref D) "__getattribute__" = some (some (.builtin "BaseException.__getattribute__"))) && (decide (PySem.W.findIn K (.ref D) "__getattr__" = some none) &&
  (decide (PySem.W.subIn K (.ref D) (.type "BaseException") = some true) && (PySem.W.hasDictIn K D && (decide (PySem.W.findIn K (.ref D) "__class__" = some (some (.builtin "object.__class__"))) &&
  (decide (PySem.W.specialIn K (.builtin "object.__class__") "__get__" = some (some (.builtin "getset_descriptor.__get__"))) && (decide (PySem.W.takesIn K (.builtin "object.__class__") = some true) && decide (PySem.W.mroIn K D (.type "object") = some true)))))))
theorem excC_ok {K : PySem.W.Frag} {D : Addr} (h : excCB K D = true) : ExcC K D := by
  obtain ⟨h1, h⟩ := He.ba h
  obtain ⟨h2, h⟩ := He.ba h
  obtain ⟨h3, h⟩ := He.ba h
  obtain ⟨h4, h⟩ := He.ba h
  obtain ⟨h5, h⟩ := He.ba h
  obtain ⟨h6, h⟩ := He.ba h
  obtain ⟨h7, h8⟩ := He.ba h
  exact ⟨of_decide_eq_true h1, of_decide_eq_true h2, of_decide_eq_true h3, h4, of_decide_eq_true h5, of_decide_eq_true h6, of_decide_eq_true h7, of_decide_eq_true h8⟩
def strsB : List PySem.Str → List Value → Bool
  | [], [] => true
  | x :: r, .str y _ :: t => decide (y = x) && strsB r t
  | _, _ => false
theorem strsB_ok : ∀ {xs : List PySem.Str} {us : List Value}, strsB xs us = true → Vals (xs.map V.str) us
  | [], [], _ => .nil
  | x :: r, u :: t, h => by
    cases u with
    | str y k =>
      obtain ⟨h1, h2⟩ := He.ba h
      cases of_decide_eq_true h1
      exact .cons ⟨k, rfl⟩ (strsB_ok h2)
    | _ => cases h
  | [], _ :: _, h => by cases h
  | _ :: _, [], h => by cases h
def tupB (K : PySem.W.Frag) (x : PySem.Str) (xs : List PySem.Str) : Bool := match K.lookup (He.ga K x) with
  | some ⟨.type "tuple", none, .seq its _, _⟩ => strsB xs its.toList && decide (its.size ≤ 1000)
  | _ => false
theorem tupB_ok {K : PySem.W.Frag} {x : PySem.Str} {xs : List PySem.Str} (h : tupB K x xs = true) (H : Hp) : SqT K H (He.ga K x) (xs.map V.str) := by
  unfold tupB at h
  split at h
  · rename_i its n sl e
    obtain ⟨h1, h2⟩ := He.ba h
    exact .inr ⟨_, its, n, e, rfl, rfl, Nat.le_trans (of_decide_eq_true h2) (by decide), strsB_ok h1⟩
  · cases h
theorem tupB_ty {K : PySem.W.Frag} {x : PySem.Str} {xs : List PySem.Str} (h : tupB K x xs = true) : ∃ o, K.lookup (He.ga K x) = some o ∧ o.cls = .type "tuple" ∧ o.dict = none := by
  unfold tupB at h
  split at h
  · rename_i its n sl e
    exact ⟨_, e, rfl, rfl⟩
  · cases h
end GxE

/-! ### calls within a def that runs in an except suite; isinstance in the suite itself; X(e) -/
namespace GxE
open PySem PySem.Spec PyProof.Rows L2
section
variable {X : Cx} {k : Nat} {f : Addr} {fd : FuncData} {ps : List PySem.Str} {sp : Sp} {x : PySem.Str} {p pos : Pos} {e : Expr} {es : List Expr} {t : TA} {a : Addr} {oe : Obj} {pn : List (Addr × Obj)} {cls : Value} {d : Option Addr}
def tCallR (sp : Sp) (t : TA) : TE := fun σ H Q => t σ H fun vs H1 => sp vs H1 Q E0
theorem pe_callR (F : FnR X.prog X.w X.K X.mg X.base k f fd ps sp) (hr : L2H.RoomH k X.A) (hg : Gl X x) (hm : X.mg x = some (.ref f)) (hk : PySem.W.keepIn X.K (.ref f) = true) (hb : Binds X.K fd ps [])
    (ha : PA X (e :: es) t) (hdb : (x == ("__debug__" : PySem.Str)) = false := by decide) (he : starEach (e :: es) X.env = (false, eval e X.env) :: starEach es X.env := by rfl) (hpl : (backTo pos (starEach es X.env)).any (·.1) = false := by rfl) :
    PE X (.Call (.Name x p) (e :: es) [] pos) (tCallR sp t) := by
  refine ⟨fun pins s σ H Q I h => ?_⟩
  refine wpAny_Call_Name_kw (ld_glob I hg hm ?_ hdb)
  refine PySem.W.callWith_K (h₀ := X.base) I.ok.mod.kin hk (thn (ha.run pos pins s σ H _ I h) fun us s1 ⟨vs, H1, I1, r, q⟩ => ⟨I1.kIn, ?_⟩) he hpl
  have hl : (us ++ ([] : List Value)).length = ps.length := by rw [List.append_nil, ← r.length]; exact F.len _ _ _ _ q
  have y := hb s1 us I1.kIn hl
  rw [List.append_nil] at y
  refine wpAny_call (codeAny_mono (F.run _ _ s1 _ ⟨us, []⟩ us vs _ hr I1.env0 y r q) fun r' s' hq => ?_)
  cases r' with
  | error e' => exact False.elim hq
  | ok fl =>
    cases fl with
    | ret u => exact I1.after hq
    | next => exact False.elim hq
    | brk => exact False.elim hq
    | cont => exact False.elim hq
/-- isinstance(e, c) in the suite -/
def rIsP (K : PySem.W.Frag) (a : Addr) (cls : Value) (d : Option Addr) : List V → Hp → VK → Prop := fun xs H Q => ∃ (D : Addr) (c : V) (cv : Value) (b : Bool), xs = [.ref a, c] ∧ cls = .ref D ∧ d = none ∧ ExcC K D ∧ ClsV c cv ∧ PySem.W.kitOne K (.ref D) cv = some b ∧ Q (.bl b) H
theorem call_isP (hz : Zc cls d oe) (hf : ∃ vs, oe.data = .fields vs) : CallR (X.suite a ((a, oe) :: pn)) (.builtin "isinstance") (rIsP X.K a cls d) := by
  intro pins s σ H xs us Q I r h
  obtain ⟨D, c, cv, b, rfl, rfl, rfl, C, k, e, q⟩ := h
  obtain ⟨u1, u2, rfl, r1, r2⟩ := vals2 r
  have e2 := k.eq r2
  subst e2
  cases (show u1 = Value.ref a from r1)
  have pin := I.pin (a, oe) (List.mem_append.mpr (.inl List.mem_cons_self))
  exact PySem.W.kia_one (PySem.W.handS_kitx_exc C.hg C.hk C.hs C.hd C.ha C.hn C.ht C.hm) I.kIn (inst_of pin.1 hz hf) e (fun z => nomatch z) fun tk => ⟨.bl b, H, I.tok tk, rfl, q⟩
def rIsPT (K : PySem.W.Frag) (a : Addr) (cls : Value) (d : Option Addr) : List V → Hp → VK → Prop := fun xs H Q => ∃ (D tp : Addr) (cs : List V) (us : List Value) (b : Bool), xs = [.ref a, .ref tp] ∧ cls = .ref D ∧ d = none ∧ ExcC K D ∧ H tp = some (.tup cs) ∧ Paired ClsV cs us ∧ PySem.W.kitAny K (.ref D) us = some b ∧ Q (.bl b) H
theorem call_isPT (hz : Zc cls d oe) (hf : ∃ vs, oe.data = .fields vs) : CallR (X.suite a ((a, oe) :: pn)) (.builtin "isinstance") (rIsPT X.K a cls d) := by
  intro pins s σ H xs us Q I r h
  obtain ⟨D, tp, cs, ws, b, rfl, rfl, rfl, C, hT, k, e, q⟩ := h
  obtain ⟨u1, u2, rfl, r1, r2⟩ := vals2 r
  cases (show u1 = Value.ref a from r1)
  cases (show u2 = Value.ref tp from r2)
  obtain ⟨_, its, rv, o, h1, h2, n, h3⟩ := (show ObjOk X.prog X.w H s.heap tp (.tup cs) from I.hok tp _ hT)
  have e3 := ClsV.all k rv
  subst e3
  obtain ⟨oc, od, dt, sl⟩ := o
  simp only at h2 h3
  subst h2 h3
  have pin := I.pin (a, oe) (List.mem_append.mpr (.inl List.mem_cons_self))
  exact PySem.W.kia_tup (PySem.W.handS_kitx_exc C.hg C.hk C.hs C.hd C.ha C.hn C.ht C.hm) I.kIn (inst_of pin.1 hz hf) h1 e (fun z => nomatch z) fun tk => ⟨.bl b, H, I.tok tk, rfl, q⟩
end
section
variable {X : Cx}
/-- X(e), e a value -/
theorem pmk_one {C : Addr} {bmB : List Value} {B newId initId : String} {x : PySem.Str} {e : Expr} {ta : TE} {p pos : Pos} (F : ExcBaseFacts B newId initId bmB) (q : PySem.W.excIn X.K C bmB newId = true) (gC : X.mg x = some (.ref C)) (kC : PySem.W.keepIn X.K (.ref C) = true) (r : Raises X (.ref C)) (hg : Gl X x)
    (he : PE X e ta) (hs : starEach [e] X.env = (false, eval e X.env) :: starEach [] X.env := by rfl) (hdb : (x == ("__debug__" : PySem.Str)) = false := by decide) :
    L2N.PMk X (.Call (.Name x p) [e] [] pos) (fun σ H Q => ta σ H fun _ H1 => Q (.ref C) none H1) := by
  intro pins s σ H Q I h
  refine wpAny_Call_Name_kw (ld_glob I hg gC ?_ hdb)
  refine PySem.W.callWith_K (h₀ := X.base) I.ok.mod.kin kC ?_ hs (by rfl)
  rw [hs]
  show wpAny _ _ (spliced ((false, eval e X.env) :: backTo pos (starEach [] X.env))) _ _ s
  refine Calls.spliced_cons (thn (he.run pins s σ H _ I h) fun u s1 ⟨v, H1, I1, r1, q1⟩ => ?_)
  refine Calls.spliced_nil ⟨I1.kIn, ?_⟩
  show wpAny _ _ (call (.ref C) [u]) _ _ _
  obtain ⟨bm, N, nm, qn, bs, hdct, sn, sub, ab, col, dd, k0, k1, k2, k3, k5, mN, hC, hN, hni, T⟩ := exc_obj I1.kIn q
  refine wpAny_call_exc_subT F T hC hN hni (fun h' e hm => ?_) (by show 1 ≤ sizeLine; rw [sizeLine_eq]; omega)
  exact L2N.mk_of I1 hm r q1 (I1.hok.gone hm.new)
end
end GxE
theorem GxE.unH {k : Nat} {A : Around} (h : L2H.RoomH k A) : A.units + 64 < cLine := by
  have := h.un
  omega

end Gk

set_option Elab.async false
set_option linter.all false
set_option maxRecDepth 100000
set_option maxHeartbeats 1000000
set_option pp.maxSteps 1500
set_option pp.deepTerms false
namespace Gk
/-! ### a lambda without parameters handed to a def; all but its maker's table stays as it was -/
namespace LamG
open PySem PySem.Spec PyProof.Rows L2
/-- the name of a lambda made within X -/
abbrev qOf (X : Cx) : Str := X.env.qual ++ "<lambda>"
def Step (P : Addr) (q : Str) (H H1 : Hp) : Prop := (∀ b o, b ≠ P → H b = some o → H1 b = some o) ∧ LamX.TabS H1 P q
section
variable {X : Cx} {pins : List (Addr × Obj)} {σ : L2.St} {H : Hp} {s : Shared}
theorem make {c P : Addr} {params : Arguments} {body : Expr} {scope : Scope} {pos : Pos} {E Q : Value → Shared → Prop}
    (I : Inv X pins σ H s) (tb : LamX.TabB X.base X.mg c P)
    (cd : X.env.code = .ref c)
    (told : LamX.TabS H P (qOf X))
    (nodef : defaultsOf params X.env = ([], []))
    (caught : ∀ y ∈ scope.names, y.2 = .free → ∃ c, X.env.cells.lookup y.1 = some c)
    (go : ∀ (f k : Addr) (pm ctv : Value) (G : Hp) (z : Shared), Inv X pins σ G z → Step P (qOf X) H G →
      z.heap.get? f = some (PySem.W.kla_obj "<lambda>" (qOf X) params body scope (cloFrom X.env.cells scope.names []) pm k ctv) →
      G f = none → f ∉ frs X.stack → G k = some (LamX.CodeO k (qOf X)) → Q (.ref f) z) :
    wpAny (model X.prog X.w) X.A (eval (.Lambda params body scope pos) X.env) Q E s := by
  obtain ⟨tab, atP, trip, each⟩ := told
  refine PySem.W.kla_eval nodef ?_
  have heapP : s.heap.get? P = some { cls := .none, data := .fields tab } := I.hok P _ atP
  have built : s.heap.BuiltinsAt X.mg P := tb.bm.keeps I.bk
  have off : ∀ f, s.heap.objs.size ≤ f → f ∉ frs X.stack := by
    intro f big inside
    rcases List.mem_cons.mp (I.stkSub _ inside) with same | below
    · have small := I.lt
      rw [← same] at small
      exact absurd (Nat.lt_of_lt_of_le small big) (Nat.lt_irrefl _)
    · exact I.nofs big below
  cases known : codeAmong pos tab.toList with
  | some cv =>
    obtain ⟨k, rfl, atk⟩ := each pos cv known
    refine PySem.W.kla_makeFunctionHit (mg := X.mg) (c := c) (P := P) (ps := tab)
      (closure_ok caught) I.ok.glob (I.mod.glob.keeps I.bk) cd (tb.code.keeps I.bk) heapP trip known built ?_
    intro ctv g tk stays more
    refine go g.objs.size k _ ctv H _ (I.kept fun b o e => Heap.get?_push_of_some _ (stays b o e)) ⟨fun _ _ _ e => e, tab, atP, trip, each⟩ (Heap.get?_push_size _ rfl) (I.hok.fresh more) (off _ more) atk
  | none =>
    refine PySem.W.kla_makeFunction (mg := X.mg) (c := c) (P := P) (ps := tab)
      (closure_ok caught) I.ok.glob (I.mod.glob.keeps I.bk) cd (tb.code.keeps I.bk) heapP trip known tb.gP built ?_
    intro k ctv g tk stays above below recd atP'
    obtain ⟨k', ok, vs, t, ek, hk, dk, nk⟩ := recd
    cases ek
    have grown : s.heap.objs.size ≤ g.objs.size := Nat.le_trans above (Nat.le_of_lt below)
    have newk : H k = none := I.hok.fresh above
    have Pk : P ≠ k := ne_of_none atP newk
    have J := LamX.inv_table (q := qOf X) (t' := tk) (more := #[rawInt pos.line, rawInt pos.col, .ref k])
      (h' := g.push (PySem.W.kla_obj "<lambda>" (qOf X) params body scope (cloFrom X.env.cells scope.names []) ((X.mg "__name__").getD .none) k ctv))
      I atP (fun b o nb e => Heap.get?_push_of_some _ (stays b o nb e)) (Heap.get?_push_of_some _ atP') above
      ⟨ok, vs, t, Heap.get?_push_of_some _ hk, dk, nk⟩
    have listed : (tab ++ #[rawInt pos.line, rawInt pos.col, .ref k]).toList = tab.toList ++ [rawInt pos.line, rawInt pos.col, .ref k] := by simp
    have keep : ∀ b o, b ≠ P → H b = some o → upd (upd H P (.tbl (tab ++ #[rawInt pos.line, rawInt pos.col, .ref k]))) k (LamX.CodeO k (qOf X)) b = some o := by
      intro b o nb e
      rw [upd_ne (ne_of_none e newk), upd_ne nb]
      exact e
    refine go g.objs.size k _ ctv _ _ J ⟨keep, tab ++ #[rawInt pos.line, rawInt pos.col, .ref k], ?_, ?_, ?_⟩ (Heap.get?_push_size _ rfl) ?_ (off _ grown) upd_same
    · rw [upd_ne Pk, upd_same]
    · rw [listed]
      exact PySem.TriplesOk_snoc _ _ _ _ trip
    · intro pos' cv found
      rw [listed] at found
      rcases LamX.among_app _ trip found with old | new
      · obtain ⟨k2, e2, at2⟩ := each pos' cv old
        refine ⟨k2, e2, keep _ _ (fun z => ?_) at2⟩
        rw [z, atP] at at2
        exact LamX.codeO_ne tab (Option.some.inj at2).symm
      · exact ⟨k, new, upd_same⟩
    · have n1 : g.objs.size ≠ k := Nat.ne_of_gt below
      have n2 : g.objs.size ≠ P := Nat.ne_of_gt (Nat.lt_of_lt_of_le (Heap.lt_size heapP) grown)
      rw [upd_ne n1, upd_ne n2]
      exact I.hok.fresh grown
/-- a() in the def that got the lambda, within a try -/
theorem act {CXg : CXT} {Eg : XK} {Ng : List Str} {qg : Str} {sg : Scope} {g f k : Addr} {cdg pm ctv : Value} {params : Arguments} {body : Expr} {scope : Scope} {lv i : Nat} {a : Str} {pn : List (Addr × Obj)} {xe : Value → Shared → Prop} {W : WX} {t : XK → TE} {p1 p2 : Pos}
    (I : Inv X pins σ H s) (names : LamX.LamS X.env.scope scope)
    (atf : s.heap.get? f = some (PySem.W.kla_obj "<lambda>" (qOf X) params body scope (cloFrom X.env.cells scope.names []) pm k ctv))
    (newf : H f = none) (off : f ∉ frs X.stack)
    (none_ : bindArgs (PySem.W.kla_fn "<lambda>" (qOf X) params body scope (cloFrom X.env.cells scope.names []) pm (.ref k) ctv) ⟨[], []⟩ = pure [])
    (tk : Takes ((cxOf CXg X.prog X.w X.K X.mg X.base Ng qg sg g cdg X.A X.stack s H Eg).tr pn xe) W)
    (room : Room (lv + 1) (X.A.deeper (envOfC qg sg s.heap.objs.size g cdg)))
    (inner : ∀ (A : Around) (outer : List Env) (s : Shared) (H : Hp) (E : XK), Room lv (A.deeper (LamX.lamEnv X scope s.heap.objs.size f k)) → PE (LamX.lamCx X A outer s H E scope f k) body (t E))
    (atN : Ng[i]? = some a) (vis : Vis sg a) (d1 : (a == ("__debug__" : Str)) = false := by decide) (d2 : (a == ("__classdict__" : Str)) = false := by decide) :
    PE ((cxOf CXg X.prog X.w X.K X.mg X.base Ng qg sg g cdg X.A X.stack s H Eg).tr pn xe) (.Call (.Name a p1) [] [] p2)
      (fun τ G Q => τ[i]? = some (some (.ref f)) ∧ G k = some (LamX.CodeO k (qOf X)) ∧ t (WE W τ) σ G Q) := by
  refine ⟨fun pinsZ sZ τ G Q IZ wish => ?_⟩
  obtain ⟨hs, hk, ht⟩ := wish
  refine wpAny_Call_Name_kw (thn ((pe_var (pos := p1) (i := i) atN vis d1 d2).run pinsZ sZ τ G (fun v G1 => v = .ref f ∧ G1 = G) IZ ⟨.ref f, hs, rfl, rfl⟩) ?_)
  rintro u s1 ⟨v, G1, I1, r1, rfl, rfl⟩
  cases (show u = Value.ref f from r1)
  have base1 : Un (frs X.stack) [] H G1 s.heap s1.heap := I1.base
  have atf1 := base1.keep f _ atf newf off (fun z => nomatch (show f ∈ ([] : List Addr) from z))
  obtain ⟨⟨oc, vs, tt, e1, e2, e3⟩, _, _⟩ := I1.hok k _ hk
  refine PySem.W.callWith_F0 ⟨_, _, _, _, atf1⟩ ?_
  have ran : codeAny (model X.prog X.w) (X.A.deeper (envOfC qg sg s.heap.objs.size g cdg)) (.call (.ref f) ⟨[], []⟩)
      (CR (L2.CX X.prog X.w) (envOfC qg sg s.heap.objs.size g cdg :: X.stack) X.prog X.w G1 s1 Q (WE W τ)) s1 := by
    refine PySem.W.kla_callFunE room.depth atf1 rfl names.co names.gen rfl ⟨k, oc, vs, tt, rfl, e1, e2, e3⟩ ?_
    rw [none_]
    refine wpAny_pure (wpAny_newFunctionEnv (fun y hy => (names.own y hy).2) (fun y hy => absurd hy (by simp)) ?_ names.kind)
    intro h1 hns hsb
    refine ⟨I1.nolimit.fresh _ hsb, ?_⟩
    show codeAny _ _ (.expr body (LamX.lamEnv X scope s1.heap.objs.size f k)) _ _
    have stays : ∀ b o, s1.heap.get? b = some o → h1.get? b = some o := by
      intro b o e
      exact hsb.extBut b o (Nat.ne_of_lt (Heap.lt_size e)) (Heap.get?_push_of_some _ e)
    have J := LamX.lam_start2 (E := WE W τ) (f := f) (c' := k) (tk := s1.toks + ([] : List (Str × Value)).length) I names I1.env0 room.hd base1 hns stays
    refine PySem.W.kla_codeExpr (wpAny_mono ((inner _ _ s1 G1 (WE W τ) (room.deeper _)).run [] _ _ G1 Q J ht) ?_ fun e s' z => z)
    rintro v s' ⟨w', G', J', rv, q⟩
    exact ⟨w', G', J'.os, J'.bare, J'.base, J'.hok, rv, q⟩
  refine wpAny_call (codeAny_mono ran fun r s' z => ?_)
  cases r with
  | error e => exact passAt tk τ pinsZ G1 s1 e s' I1 z
  | ok fl =>
    cases fl with
    | ret u => exact I1.after z
    | next => exact z.elim
    | brk => exact z.elim
    | cont => exact z.elim
end
/-- what a def makes of the lambda that it got -/
def Gives (X : Cx) (Ng : List Str) (x : Str) (sg : Scope) (g : Addr) (cdg : Value) (bg : List Stmt) (a : Str) (TT : (XK → Hp → VK → Prop) → Hp → VK → Prop) : Prop :=
  ∀ (f k : Addr) (s : Shared) (H : Hp) (Q : VK) (tl : XK → Hp → VK → Prop),
    (∀ (W : WX) (pn : List (Addr × Obj)) (xe : Value → Shared → Prop) (p1 p2 : Pos), Takes ((cxOf CX0 X.prog X.w X.K X.mg X.base Ng x sg g cdg X.A X.stack s H E0).nox.tr pn xe) W →
      PE ((cxOf CX0 X.prog X.w X.K X.mg X.base Ng x sg g cdg X.A X.stack s H E0).nox.tr pn xe) (.Call (.Name a p1) [] [] p2) (fun τ G Q => τ[0]? = some (some (.ref f)) ∧ G k = some (LamX.CodeO k (qOf X)) ∧ tl (WE W τ) G Q)) →
    H k = some (LamX.CodeO k (qOf X)) → TT tl H Q →
    ∃ t, PSs (cxOf CX0 X.prog X.w X.K X.mg X.base Ng x sg g cdg X.A X.stack s H E0).nox bg t ∧ t { nx := fun _ H' => Q .non H', rt := Q } (L2.start Ng [.ref f]) H
def tLamG (P : Addr) (q : Str) (TT : (XK → Hp → VK → Prop) → Hp → VK → Prop) (t : XK → TE) : TE := fun σ H Q => LamX.TabS H P q ∧ ∀ H1, Step P q H H1 → TT (fun E H' Q' => t E σ H' Q') H1 Q
section
variable {X : Cx}
/-- x(lambda: body) -/
theorem pe_lam {TT : (XK → Hp → VK → Prop) → Hp → VK → Prop} {x a : Str} {st : Stmt} {g c P : Addr} {gd : FuncData} {lv : Nat} {Ng : List Str} {params : Arguments} {body : Expr} {scope : Scope} {t : XK → TE} {p lpos pos : Pos}
    (gl : Gl X x) (mg : X.mg x = some (.ref g)) (F : Fun X.K x x st g gd) (bd : L2.Binds X.K gd [a] []) (Sg : FnScope Ng [a] (defScope st)) (atN : Ng[0]? = some a) (vis : Vis (defScope st) a)
    (gives : ∀ cdv : Value, Gives X Ng x (defScope st) g cdv (defBody st) a TT)
    (tb : LamX.TabB X.base X.mg c P) (cd : X.env.code = .ref c) (room : Room (lv + 2) X.A) (names : LamX.LamS X.env.scope scope) (nodef : defaultsOf params X.env = ([], []))
    (none_ : ∀ (q : Str) (cl : List (Str × Addr)) (pm cv ctv : Value), bindArgs (PySem.W.kla_fn "<lambda>" q params body scope cl pm cv ctv) ⟨[], []⟩ = pure [])
    (inner : ∀ (A : Around) (outer : List Env) (s : Shared) (H : Hp) (E : XK) (f k : Addr), Room lv (A.deeper (LamX.lamEnv X scope s.heap.objs.size f k)) → PE (LamX.lamCx X A outer s H E scope f k) body (t E))
    (d0 : (x == ("__debug__" : Str)) = false := by decide) (d1 : (a == ("__debug__" : Str)) = false := by decide) (d2 : (a == ("__classdict__" : Str)) = false := by decide) :
    PE X (.Call (.Name x p) [.Lambda params body scope lpos] [] pos) (tLamG P (qOf X) TT t) := by
  obtain ⟨oc, od, kV, doc, pm0, an, cdv, ct, osl, rfl, lk, hcd⟩ := F.ex
  refine ⟨fun pins s σ H Q I wish => ?_⟩
  obtain ⟨told, wish⟩ := wish
  refine wpAny_Call_Name_kw (ld_glob I gl mg ?_ d0)
  refine PySem.W.callWith_K (h₀ := X.base) I.ok.mod.kin F.kp ?_ (by rfl) (by rfl)
  show wpAny _ _ (spliced ((false, eval (.Lambda params body scope lpos) X.env) :: backTo pos (starEach [] X.env))) _ _ s
  refine Calls.spliced_cons (make I tb cd told nodef (names.has I.ok) ?_)
  intro f k pm ctv H1 s1 I1 step atf newf off atk
  refine Calls.spliced_nil ⟨I1.kIn, ?_⟩
  have ran : codeAny (model X.prog X.w) X.A (.call (.ref g) ⟨[.ref f], []⟩) (CR CX0 X.stack X.prog X.w H1 s1 Q E0) s1 := by
    refine LamX.run_ofS (N := Ng) (ps := [a]) (us := [.ref f]) (vs := [.ref f]) lk hcd Sg room I1.env0 (bd s1 [.ref f] I1.kIn rfl) (.cons rfl .nil) rfl ?_
    intro room1
    obtain ⟨t1, d, q⟩ := gives cdv f k s1 H1 Q (fun E H' Q' => t E σ H' Q') (fun W pn xe p1 p2 tk => act (i := 0) (CXg := CX0) (Eg := E0) I1 names atf newf off (none_ _ _ _ _ _) tk room1 (fun A outer s H E r => inner A outer s H E f k r) atN vis d1 d2) atk (wish H1 step)
    exact ⟨t1, d.nox, q⟩
  refine wpAny_call (codeAny_mono ran fun r s2 z => ?_)
  cases r with
  | error e => exact (show False from z).elim
  | ok fl =>
    cases fl with
    | ret u => exact I1.after z
    | next => exact z.elim
    | brk => exact z.elim
    | cont => exact z.elim
end
end LamG

end Gk

set_option Elab.async false
set_option linter.all false
set_option maxRecDepth 100000
set_option maxHeartbeats 1000000
namespace Gk
open PySem PySem.Spec PyProof.Rows L2
/-! ### max(xs, default=d) of a list of ints -/
namespace MxD
open PySem PyProof.Rows
section
variable {prog : Program} {w : World} {A : Around} {R : Result → Shared → Prop} {it bx : Addr} {fp wr : List Addr} {n : Nat} {P : Nat → Value → Prop} {St : Nat → Heap → Prop} {bt : Nat → Nat → Bool} {kw : List (Str × Value)}
theorem rest (W : Walks prog w A.in1 it fp wr n P St) (cmp : CmpOf prog w A.in1 .Gt P bt) (off : bx ∉ fp) : ∀ (k j : Nat) (z : Shared) (top : Value) (ep : Nat), n - (j + 1) = k → j + 1 ≤ n → St (j + 1) z.heap → P (argBest bt j) top →
    z.heap.get? bx = some { cls := .type "list", dict := none, data := .seq #[top, top] ep, slots := #[] } →
    (∀ v g tk, P (argBest bt (n - 1)) v → (∀ b o, b ∉ wr → b ≠ bx → z.heap.get? b = some o → g.get? b = some o) → R (.ok (.ret v)) { z with heap := g, toks := tk }) →
    codeAny (model prog w) A (.builtin "max.loop" ⟨[.ref it, .none, .ref bx], kw⟩) R z := by
  have ow : bx ∉ wr := fun h => off (W.sub _ h)
  have nm : (toString "max" ++ toString ".loop" : String) = "max.loop" := by decide
  intro k
  induction k with
  | zero =>
    intro j z top ep ek ej st pt at_ fin
    have all : j + 1 = n := by omega
    refine codeAny_builtin PySem.F.entry_max_loop ?_
    rw [Around.under_plainId PySem.F.plain_max_loop _]
    show wpAny _ A.in1 (seqItems? (.ref bx) >>= _) _ _ z
    refine wpAny_bind (wpAny_seqItems at_ rfl ?_)
    show wpAny _ A.in1 (tryCatch (pyNext (.ref it)) _ >>= _) _ _ z
    refine wpAny_bind (wpAny_tryCatch (W.done z _ _ (all ▸ st) fun g tk keep => ?_))
    have at2 := keep bx _ ow at_
    show wpAny _ A.in1 (updateSeq bx (fun _ => #[]) >>= _) _ _ _
    refine wpAny_bind ?_
    refine wpAny_updateSeq at2 rfl (wpAny_bind (wpAny_letGo (wpAny_pure ?_)))
    exact fin top _ tk (by rw [← all]; exact pt) fun b o n1 n2 e => (Heap.get?_update_other _ _ (Ne.symm n2)).trans (keep b o n1 e)
  | succ k ih =>
    intro j z top ep ek ej st pt at_ fin
    have less : j + 1 < n := by omega
    refine codeAny_builtin PySem.F.entry_max_loop ?_
    rw [Around.under_plainId PySem.F.plain_max_loop _]
    show wpAny _ A.in1 (seqItems? (.ref bx) >>= _) _ _ z
    refine wpAny_bind (wpAny_seqItems at_ rfl ?_)
    show wpAny _ A.in1 (tryCatch (pyNext (.ref it)) _ >>= _) _ _ z
    refine wpAny_bind (wpAny_tryCatch (W.item (j + 1) z _ _ less st fun v g tk pv st2 keep => ?_))
    have at2 := keep bx _ ow at_
    show wpAny _ A.in1 (tryCatch (holding [v, v] (richCompare .Gt v top >>= _)) _ >>= _) _ _ _
    refine wpAny_bind (wpAny_tryCatch (wpAny_holding (wpAny_bind (cmp (j + 1) (argBest bt j) v top _ _ _ pv pt ?_))))
    refine wpAny_bind (wpAny_holding (wpAny_truthy_bool ?_))
    refine wpAny_bind (wpAny_letGo (wpAny_pure ?_))
    cases hb : bt (j + 1) (argBest bt j) with
    | true =>
      simp only [if_true]
      refine wpAny_bind ?_
      refine wpAny_updateSeq at2 rfl (wpAny_bind (wpAny_letGo ?_))
      rw [nm]
      refine wpAny_pure ⟨plainId_quiet PySem.F.plain_max_loop _, ih (j + 1) _ v _ (by omega) less (W.frame _ _ _ st2 fun b hf o e => ?_) (by simp only [argBest, hb, if_true]; exact pv) (Heap.get?_update_self _ at2 rfl) fun v2 g2 tk2 p2 keep2 => ?_⟩
      · exact (Heap.get?_update_other _ _ (fun h : bx = b => off (by rw [h]; exact hf))).trans e
      · exact fin v2 g2 tk2 p2 fun b o n1 n2 e => keep2 b o n1 n2 ((Heap.get?_update_other _ _ (Ne.symm n2)).trans (keep b o n1 e))
    | false =>
      simp only [Bool.false_eq_true, if_false]
      refine wpAny_bind (wpAny_letGo ?_)
      rw [nm]
      refine wpAny_pure ⟨plainId_quiet PySem.F.plain_max_loop _, ih (j + 1) _ top ep (by omega) less st2 (by simp only [argBest, hb, Bool.false_eq_true, if_false]; exact pt) at2 fun v2 g2 tk2 p2 keep2 => ?_⟩
      exact fin v2 g2 tk2 p2 fun b o n1 n2 e => keep2 b o n1 n2 (keep b o n1 e)
theorem first (W : Walks prog w A.in1 it fp wr n P St) (cmp : CmpOf prog w A.in1 .Gt P bt) (off : bx ∉ fp) (pos : 0 < n) {z : Shared} {ep : Nat} (st : St 0 z.heap)
    (at_ : z.heap.get? bx = some { cls := .type "list", dict := none, data := .seq #[] ep, slots := #[] })
    (fin : ∀ v g tk, P (argBest bt (n - 1)) v → (∀ b o, b ∉ wr → b ≠ bx → z.heap.get? b = some o → g.get? b = some o) → R (.ok (.ret v)) { z with heap := g, toks := tk }) :
    codeAny (model prog w) A (.builtin "max.loop" ⟨[.ref it, .none, .ref bx], kw⟩) R z := by
  have ow : bx ∉ wr := fun h => off (W.sub _ h)
  have nm : (toString "max" ++ toString ".loop" : String) = "max.loop" := by decide
  refine codeAny_builtin PySem.F.entry_max_loop ?_
  rw [Around.under_plainId PySem.F.plain_max_loop _]
  show wpAny _ A.in1 (seqItems? (.ref bx) >>= _) _ _ z
  refine wpAny_bind (wpAny_seqItems at_ rfl ?_)
  show wpAny _ A.in1 (tryCatch (pyNext (.ref it)) _ >>= _) _ _ z
  refine wpAny_bind (wpAny_tryCatch (W.item 0 z _ _ pos st fun v g tk pv st2 keep => ?_))
  have at2 := keep bx _ ow at_
  show wpAny _ A.in1 (updateSeq bx (fun _ => #[v, v]) >>= _) _ _ _
  refine wpAny_bind ?_
  refine wpAny_updateSeq at2 rfl ?_
  rw [nm]
  refine wpAny_pure ⟨plainId_quiet PySem.F.plain_max_loop _, rest W cmp off _ 0 _ v _ rfl pos (W.frame _ _ _ st2 fun b hf o e => ?_) pv (Heap.get?_update_self _ at2 rfl) fun v2 g2 tk2 p2 keep2 => ?_⟩
  · exact (Heap.get?_update_other _ _ (fun h : bx = b => off (by rw [h]; exact hf))).trans e
  · exact fin v2 g2 tk2 p2 fun b o n1 n2 e => keep2 b o n1 n2 ((Heap.get?_update_other _ _ (Ne.symm n2)).trans (keep b o n1 e))
theorem empty {k : Str} {d : Value} (W : Walks prog w A.in1 it fp wr n P St) (off : bx ∉ fp) (none_ : n = 0) {z : Shared} {ep : Nat} (st : St 0 z.heap)
    (at_ : z.heap.get? bx = some { cls := .type "list", dict := none, data := .seq #[] ep, slots := #[] })
    (fin : ∀ g tk, (∀ b o, b ∉ wr → b ≠ bx → z.heap.get? b = some o → g.get? b = some o) → R (.ok (.ret d)) { z with heap := g, toks := tk }) :
    codeAny (model prog w) A (.builtin "max.loop" ⟨[.ref it, .none, .ref bx], [(k, d)]⟩) R z := by
  refine codeAny_builtin PySem.F.entry_max_loop ?_
  rw [Around.under_plainId PySem.F.plain_max_loop _]
  show wpAny _ A.in1 (seqItems? (.ref bx) >>= _) _ _ z
  refine wpAny_bind (wpAny_seqItems at_ rfl ?_)
  show wpAny _ A.in1 (tryCatch (pyNext (.ref it)) _ >>= _) _ _ z
  refine wpAny_bind (wpAny_tryCatch (W.done z _ _ (none_ ▸ st) fun g tk keep => ?_))
  refine wpAny_bind (wpAny_rule ?_)
  exact wpAny_pure (fin g tk fun b o n1 _ e => keep b o n1 e)
end
section
variable {prog : Program} {w : World} {A : Around} {E : Value → Shared → Prop} {s : Shared} {l : Addr} {its : List Value} {ns : List Int} {Q : Value → Shared → Prop} {d : Int} {td : Tok}
theorem fits (a v : Value) : argsOk "max" ⟨[a], [(Str.ofString "default", v)]⟩ := by unfold argsOk; kernel_rfl
theorem raw (hh : A.handled = none) (isl : s.heap.IsList l its.toArray) (are : IntsAre its ns)
    (fin : ∀ g tk m t, (∀ b o, s.heap.get? b = some o → g.get? b = some o) → (ns = [] → m = d) → (ns ≠ [] → m ∈ ns ∧ ∀ y ∈ ns, y ≤ m) → Q (.int m t) { s with heap := g, toks := tk }) :
    wpAny (model prog w) A (call (.builtin "max") [.ref l] [(Str.ofString "default", .int d td)]) Q E s := by
  have nm : (toString "max" ++ toString ".loop" : String) = "max.loop" := by decide
  obtain ⟨xs, e⟩ := are.allInts.items
  have hn : numsOf (intItems xs).toList = ns := by rw [← e]; exact are.numsOf
  rw [nums_intItems] at hn
  subst hn
  rw [e] at isl
  refine kmk_tree PySem.F.kind_max PySem.F.plain_max PySem.F.entry_max (fits _ _) ?_
  refine wpAny_bind (wpAny_of_eq (show Builtin.Builtins.bindParams "max" ["key", "default"] 0 ⟨[], [(Str.ofString "default", .int d td)]⟩ = pure [none, some (.int d td)] from rfl) ?_)
  refine wpAny_bind (wpAny_pure ?_)
  refine wpAny_bind (PySem.iter_intList isl fun s2 e2 st fp hlI => ?_)
  refine wpAny_bind (wpAny_newObj_type ?_)
  have off : s2.heap.objs.size ∉ [s.heap.objs.size, l] := fun hm => Nat.lt_irrefl _ (fp _ hm)
  rw [nm]
  have W := Walks.list (prog := prog) (w := w) (A := A.in1) hh s.heap.objs.size l hlI (intItems xs)
  have kp : ∀ {g : Heap}, (∀ b o, b ∉ [s.heap.objs.size] → b ≠ s2.heap.objs.size → (s2.heap.push { cls := .type "list", data := .seq #[] }).get? b = some o → g.get? b = some o) → ∀ b o, s.heap.get? b = some o → g.get? b = some o := fun {g} h b o eb => by
    have lt := Heap.lt_size eb
    refine h b o (by simp; exact Nat.ne_of_lt lt) ?_ (Heap.get?_push_of_some _ ?_)
    · rw [e2]
      show b ≠ (s.heap.push _).objs.size
      rw [Heap.size_push]
      exact Nat.ne_of_lt (Nat.lt_succ_of_lt lt)
    · rw [e2]
      exact Heap.get?_push_of_some _ eb
  by_cases h0 : xs.size = 0
  · refine wpAny_pure ⟨plainId_quiet PySem.F.plain_max_loop _, empty W off (by simpa [intItems] using h0) (W.frame _ _ _ st fun b _ o eb => Heap.get?_push_of_some _ eb) (Heap.get?_push_size _ rfl) fun g tk keep => ?_⟩
    subst e2
    refine fin g tk d td (kp keep) (fun _ => rfl) fun z => absurd ?_ z
    rw [List.map_eq_nil_iff]
    exact List.eq_nil_of_length_eq_zero (by rw [Array.length_toList]; exact h0)
  · have pos : 0 < (intItems xs).size := by
      have : (intItems xs).size = xs.size := by simp [intItems]
      omega
    refine wpAny_pure ⟨plainId_quiet PySem.F.plain_max_loop _, first W (CmpOf.ints_gt (numAt xs) (fun _ _ => intItems_at)) off pos (W.frame _ _ _ st fun b _ o eb => Heap.get?_push_of_some _ eb) (Heap.get?_push_size _ rfl) fun v g tk hP keep => ?_⟩
    have hP : (intItems xs)[argBest (fun i j => decide (numAt xs i > numAt xs j)) (xs.size - 1)]? = some v := by simpa [intItems] using hP
    obtain ⟨t, rfl⟩ := intItems_at hP
    obtain ⟨h1, h2⟩ := argBest_gt (numAt xs) (xs.size - 1)
    subst e2
    refine fin g tk _ t (kp keep) (fun z => ?_) fun _ => ⟨?_, fun a ha => ?_⟩
    · have := congrArg List.length z
      rw [List.length_map, Array.length_toList] at this
      exact absurd this h0
    · rw [numAt_eq]
      exact PySem.getD_mem (by rw [List.length_map, Array.length_toList]; omega)
    · obtain ⟨j, hj, rfl⟩ := mem_getD ha
      rw [List.length_map, Array.length_toList] at hj
      rw [← numAt_eq]
      exact h2 j (by omega)
end
end MxD
def rMaxDef (K : PySem.W.Frag) : List V → List V → Hp → VK → Prop := fun vs zs H Q => ∃ (a : Addr) (ns : List Int) (d : Int), vs = [V.ref a] ∧ zs = [V.int d] ∧ SqL K H a (ns.map V.int) ∧ ∀ m, (ns = [] → m = d) → (ns ≠ [] → m ∈ ns ∧ ∀ y ∈ ns, y ≤ m) → Q (.int m) H
theorem cr_maxDef {X : Cx} (hc : X.calm = true) : CallRK X (.builtin "max") [Str.ofString "default"] (rMaxDef X.K) := by
  intro pins s σ H vs zs us ws Q I r rz h
  obtain ⟨a, ns, d, rfl, rfl, hs, q⟩ := h
  obtain rfl := Vals.ref1 r
  obtain ⟨w1, rfl, e1⟩ := vals1 rz
  obtain ⟨t1, rfl⟩ := e1
  obtain ⟨its, rv, hl, _⟩ := I.list hs
  exact MxD.raw (I.ok.hd hc) hl.isList rv.ints fun g tk m t' hk h1 h2 => ⟨.int _, H, I.kept hk, ⟨_, rfl⟩, q m h1 h2⟩

end Gk

set_option Elab.async false
set_option linter.all false
set_option maxRecDepth 100000
set_option maxHeartbeats 1000000
namespace Gk
open PySem PySem.Spec PyProof.Rows L2
/-! ### the text -/
def topS (i : Nat) : Stmt := PySem.Challenge.pw_glitchnet_k29_refused_just_beyond_twelve.main.body.getD i (.Pass ⟨0, 0, 0, 0⟩)
abbrev s_choices_of : Stmt := topS 9
abbrev s_table_worth : Stmt := topS 10
abbrev s_settled : Stmt := topS 11
abbrev s_greatest : Stmt := topS 14
abbrev s_input_numbers : Stmt := topS 15
abbrev s_parts_of : Stmt := topS 16
abbrev s_at_wires : Stmt := topS 17
abbrev s_gate_part : Stmt := topS 18
abbrev s_steps_from : Stmt := topS 19
abbrev s_worth_by : Stmt := topS 20
abbrev s_strides_of : Stmt := topS 21
abbrev s_many_counts : Stmt := topS 22
abbrev s_deck : Stmt := topS 24
abbrev s_draw : Stmt := topS 25
abbrev s_told : Stmt := topS 26
abbrev s_aimed : Stmt := topS 27
abbrev s_sums : Stmt := topS 28
abbrev s_law : Stmt := topS 29
theorem sc_choices_of : FnScope ["lists", "choices", "options", "choice", "option"] ["lists"] (defScope s_choices_of) := ⟨rfl, rfl, rfl, by decide +kernel, rfl, by decide +kernel, by decide +kernel⟩
theorem sc_table_worth : FnScope ["table", "worths", "place", "worth"] ["table", "worths"] (defScope s_table_worth) := ⟨rfl, rfl, rfl, by decide +kernel, rfl, by decide +kernel, by decide +kernel⟩
theorem sc_settled : FnScope ["net", "row", "worths", "table", "ins", "wire"] ["net", "row"] (defScope s_settled) := ⟨rfl, rfl, rfl, by decide +kernel, rfl, by decide +kernel, by decide +kernel⟩
theorem sc_greatest : FnScope ["net", "change", "part"] ["net", "change"] (defScope s_greatest) := ⟨rfl, rfl, rfl, by decide +kernel, rfl, by decide +kernel, by decide +kernel⟩
theorem sc_input_numbers : FnScope ["change", "a", "b", "before", "after"] ["change"] (defScope s_input_numbers) := ⟨rfl, rfl, rfl, by decide +kernel, rfl, by decide +kernel, by decide +kernel⟩
theorem sc_parts_of : FnScope ["net", "change", "firsts", "numbers", "parts", "table", "ins", "part"] ["net", "change"] (defScope s_parts_of) := ⟨rfl, rfl, rfl, by decide +kernel, rfl, by decide +kernel, by decide +kernel⟩
theorem sc_at_wires : FnScope ["row", "wires", "wire"] ["row", "wires"] (defScope s_at_wires) := ⟨rfl, rfl, rfl, by decide +kernel, rfl, by decide +kernel, by decide +kernel⟩
theorem sc_gate_part : FnScope ["table", "firsts", "numbers", "steps", "part", "at", "place", "behind", "turned"] ["table", "firsts", "numbers"] (defScope s_gate_part) := ⟨rfl, rfl, rfl, by decide +kernel, rfl, by decide +kernel, by decide +kernel⟩
theorem sc_steps_from : FnScope ["table", "firsts", "numbers", "every", "worths", "strides", "steps", "at", "counts", "number", "place", "count"] ["table", "firsts", "numbers"] (defScope s_steps_from) := ⟨rfl, rfl, rfl, by decide +kernel, rfl, by decide +kernel, by decide +kernel⟩
theorem sc_worth_by : FnScope ["table", "firsts", "counts", "first", "count"] ["table", "firsts", "counts"] (defScope s_worth_by) := ⟨rfl, rfl, rfl, by decide +kernel, rfl, by decide +kernel, by decide +kernel⟩
theorem sc_strides_of : FnScope ["numbers", "place"] ["numbers"] (defScope s_strides_of) := ⟨rfl, rfl, rfl, by decide +kernel, rfl, by decide +kernel, by decide +kernel⟩
theorem sc_many_counts : FnScope ["numbers", "many", "number"] ["numbers"] (defScope s_many_counts) := ⟨rfl, rfl, rfl, by decide +kernel, rfl, by decide +kernel, by decide +kernel⟩
theorem sc_deck : FnScope ["_law_script", "_law_cells"] ["_law_script"] (defScope s_deck) := ⟨rfl, rfl, rfl, by decide +kernel, rfl, by decide +kernel, by decide +kernel⟩
theorem sc_draw : FnScope ["_law_deck_here", "_law_most", "_law_at", "_law_cells", "_law_seed", "_law_number"] ["_law_deck_here", "_law_most"] (defScope s_draw) := ⟨rfl, rfl, rfl, by decide +kernel, rfl, by decide +kernel, by decide +kernel⟩
theorem sc_told : FnScope ["_law_does", "_law_told_here", "e", "_law_kinds"] ["_law_does"] (defScope s_told) := ⟨rfl, rfl, rfl, by decide +kernel, rfl, by decide +kernel, by decide +kernel⟩
theorem sc_aimed : FnScope ["_law_deck_here", "_law_numbers", "_law_aim", "_law_ins", "_law_lacks", "_law_wire"] ["_law_deck_here", "_law_numbers", "_law_aim"] (defScope s_aimed) := ⟨rfl, rfl, rfl, by decide +kernel, rfl, by decide +kernel, by decide +kernel⟩
theorem sc_sums : FnScope ["_law_deck_here", "_law_aim", "_law_many", "_law_one", "_law_other", "_law_numbers", "_law_gates", "_law_last", "_law_k", "_law_ins", "_law_table", "_law_worth", "_law_j", "_law_wire"] ["_law_deck_here"] (defScope s_sums) := ⟨rfl, rfl, rfl, by decide +kernel, rfl, by decide +kernel, by decide +kernel⟩
theorem sc_law : FnScope ["_law_script", "_law_deck_here", "_law_turn", "_law_net", "_law_change", "_law_numbers", "_law_due"] ["_law_script"] (defScope s_law) := ⟨rfl, rfl, rfl, by decide +kernel, rfl, by decide +kernel, by decide +kernel⟩
structure Tx (K : PySem.W.Frag) (mg : Str → Option Value) where
  f_choices_of : Addr
  fd_choices_of : FuncData
  F_choices_of : Fun K "choices_of" "choices_of" s_choices_of f_choices_of fd_choices_of
  g_choices_of : mg "choices_of" = some (.ref f_choices_of)
  b_choices_of : Binds K fd_choices_of ["lists"] []
  f_table_worth : Addr
  fd_table_worth : FuncData
  F_table_worth : Fun K "table_worth" "table_worth" s_table_worth f_table_worth fd_table_worth
  g_table_worth : mg "table_worth" = some (.ref f_table_worth)
  b_table_worth : Binds K fd_table_worth ["table", "worths"] []
  f_settled : Addr
  fd_settled : FuncData
  F_settled : Fun K "settled" "settled" s_settled f_settled fd_settled
  g_settled : mg "settled" = some (.ref f_settled)
  b_settled : Binds K fd_settled ["net", "row"] []
  f_greatest : Addr
  fd_greatest : FuncData
  F_greatest : Fun K "greatest" "greatest" s_greatest f_greatest fd_greatest
  g_greatest : mg "greatest" = some (.ref f_greatest)
  b_greatest : Binds K fd_greatest ["net", "change"] []
  c_greatest : Addr
  P_greatest : Addr
  cd_greatest : fd_greatest.code = .ref c_greatest
  f_input_numbers : Addr
  fd_input_numbers : FuncData
  F_input_numbers : Fun K "input_numbers" "input_numbers" s_input_numbers f_input_numbers fd_input_numbers
  g_input_numbers : mg "input_numbers" = some (.ref f_input_numbers)
  b_input_numbers : Binds K fd_input_numbers ["change"] []
  c_input_numbers : Addr
  P_input_numbers : Addr
  cd_input_numbers : fd_input_numbers.code = .ref c_input_numbers
  f_parts_of : Addr
  fd_parts_of : FuncData
  F_parts_of : Fun K "parts_of" "parts_of" s_parts_of f_parts_of fd_parts_of
  g_parts_of : mg "parts_of" = some (.ref f_parts_of)
  b_parts_of : Binds K fd_parts_of ["net", "change"] []
  f_at_wires : Addr
  fd_at_wires : FuncData
  F_at_wires : Fun K "at_wires" "at_wires" s_at_wires f_at_wires fd_at_wires
  g_at_wires : mg "at_wires" = some (.ref f_at_wires)
  b_at_wires : Binds K fd_at_wires ["row", "wires"] []
  c_at_wires : Addr
  P_at_wires : Addr
  cd_at_wires : fd_at_wires.code = .ref c_at_wires
  f_gate_part : Addr
  fd_gate_part : FuncData
  F_gate_part : Fun K "gate_part" "gate_part" s_gate_part f_gate_part fd_gate_part
  g_gate_part : mg "gate_part" = some (.ref f_gate_part)
  b_gate_part : Binds K fd_gate_part ["table", "firsts", "numbers"] []
  f_steps_from : Addr
  fd_steps_from : FuncData
  F_steps_from : Fun K "steps_from" "steps_from" s_steps_from f_steps_from fd_steps_from
  g_steps_from : mg "steps_from" = some (.ref f_steps_from)
  b_steps_from : Binds K fd_steps_from ["table", "firsts", "numbers"] []
  f_worth_by : Addr
  fd_worth_by : FuncData
  F_worth_by : Fun K "worth_by" "worth_by" s_worth_by f_worth_by fd_worth_by
  g_worth_by : mg "worth_by" = some (.ref f_worth_by)
  b_worth_by : Binds K fd_worth_by ["table", "firsts", "counts"] []
  f_strides_of : Addr
  fd_strides_of : FuncData
  F_strides_of : Fun K "strides_of" "strides_of" s_strides_of f_strides_of fd_strides_of
  g_strides_of : mg "strides_of" = some (.ref f_strides_of)
  b_strides_of : Binds K fd_strides_of ["numbers"] []
  f_many_counts : Addr
  fd_many_counts : FuncData
  F_many_counts : Fun K "many_counts" "many_counts" s_many_counts f_many_counts fd_many_counts
  g_many_counts : mg "many_counts" = some (.ref f_many_counts)
  b_many_counts : Binds K fd_many_counts ["numbers"] []
  f_deck : Addr
  fd_deck : FuncData
  F_deck : Fun K "_law_deck" "_law_deck" s_deck f_deck fd_deck
  g_deck : mg "_law_deck" = some (.ref f_deck)
  b_deck : Binds K fd_deck ["_law_script"] []
  f_draw : Addr
  fd_draw : FuncData
  F_draw : Fun K "_law_draw" "_law_draw" s_draw f_draw fd_draw
  g_draw : mg "_law_draw" = some (.ref f_draw)
  b_draw : Binds K fd_draw ["_law_deck_here", "_law_most"] []
  f_told : Addr
  fd_told : FuncData
  F_told : Fun K "_law_told" "_law_told" s_told f_told fd_told
  g_told : mg "_law_told" = some (.ref f_told)
  b_told : Binds K fd_told ["_law_does"] []
  f_aimed : Addr
  fd_aimed : FuncData
  F_aimed : Fun K "_law_aimed" "_law_aimed" s_aimed f_aimed fd_aimed
  g_aimed : mg "_law_aimed" = some (.ref f_aimed)
  b_aimed : Binds K fd_aimed ["_law_deck_here", "_law_numbers", "_law_aim"] []
  f_sums : Addr
  fd_sums : FuncData
  F_sums : Fun K "_law_sums" "_law_sums" s_sums f_sums fd_sums
  g_sums : mg "_law_sums" = some (.ref f_sums)
  b_sums : Binds K fd_sums ["_law_deck_here"] []
  f_law : Addr
  fd_law : FuncData
  F_law : Fun K "law" "law" s_law f_law fd_law
  g_law : mg "law" = some (.ref f_law)
  b_law : Binds K fd_law ["_law_script"] []
  c_law : Addr
  P_law : Addr
  cd_law : fd_law.code = .ref c_law
  n_law_greatest : P_law ≠ P_greatest
  n_law_input_numbers : P_law ≠ P_input_numbers
  n_law_at_wires : P_law ≠ P_at_wires
  m_ValueError : mg "ValueError" = none
  m_enumerate : mg "enumerate" = none
  m_int : mg "int" = none
  m_isinstance : mg "isinstance" = none
  m_len : mg "len" = none
  m_list : mg "list" = none
  m_max : mg "max" = none
  m_min : mg "min" = none
  m_range : mg "range" = none
  m_sum : mg "sum" = none
  m_tuple : mg "tuple" = none
  m_zip : mg "zip" = none
  k_MOST_TURNS : ∃ t, mg "MOST_TURNS" = some (.int 12 t)
  C_NetError : Addr
  gC_NetError : mg "NetError" = some (.ref C_NetError)
  C_NoText : Addr
  gC_NoText : mg "NoText" = some (.ref C_NoText)
  C_TooMany : Addr
  gC_TooMany : mg "TooMany" = some (.ref C_TooMany)
  C_NotFormula : Addr
  gC_NotFormula : mg "NotFormula" = some (.ref C_NotFormula)
  C_NoTurn : Addr
  gC_NoTurn : mg "NoTurn" = some (.ref C_NoTurn)
  C_NoForms : Addr
  gC_NoForms : mg "NoForms" = some (.ref C_NoForms)
  C_NoRow : Addr
  gC_NoRow : mg "NoRow" = some (.ref C_NoRow)
  q_TooMany : PySem.W.excIn K C_TooMany He.veBase "ValueError.__new__" = true
  kC_TooMany : PySem.W.keepIn K (.ref C_TooMany) = true
  su_TooMany : PySem.W.subIn K (.ref C_TooMany) (.type "BaseException") = some true
  ty_TooMany : PySem.W.typeIn K (.ref C_TooMany) = some (.type "type")
  X_TooMany : ExcC K C_TooMany
  v_TooMany : PySem.W.kitOne K (.ref C_TooMany) (.type "ValueError") = some true
  t_TooMany_NetError : PySem.W.kitOne K (.ref C_TooMany) (.ref C_NetError) = some true
  x_TooMany_NetError : PySem.W.exmOne K (.ref C_TooMany) (.ref C_NetError) = some true
  t_TooMany_NoText : PySem.W.kitOne K (.ref C_TooMany) (.ref C_NoText) = some false
  x_TooMany_NoText : PySem.W.exmOne K (.ref C_TooMany) (.ref C_NoText) = some false
  t_TooMany_TooMany : PySem.W.kitOne K (.ref C_TooMany) (.ref C_TooMany) = some true
  x_TooMany_TooMany : PySem.W.exmOne K (.ref C_TooMany) (.ref C_TooMany) = some true
  t_TooMany_NotFormula : PySem.W.kitOne K (.ref C_TooMany) (.ref C_NotFormula) = some false
  x_TooMany_NotFormula : PySem.W.exmOne K (.ref C_TooMany) (.ref C_NotFormula) = some false
  t_TooMany_NoTurn : PySem.W.kitOne K (.ref C_TooMany) (.ref C_NoTurn) = some false
  x_TooMany_NoTurn : PySem.W.exmOne K (.ref C_TooMany) (.ref C_NoTurn) = some false
  t_TooMany_NoForms : PySem.W.kitOne K (.ref C_TooMany) (.ref C_NoForms) = some false
  x_TooMany_NoForms : PySem.W.exmOne K (.ref C_TooMany) (.ref C_NoForms) = some false
  t_TooMany_NoRow : PySem.W.kitOne K (.ref C_TooMany) (.ref C_NoRow) = some false
  x_TooMany_NoRow : PySem.W.exmOne K (.ref C_TooMany) (.ref C_NoRow) = some false
structure Tb (base : Heap) {K : PySem.W.Frag} {mg : Str → Option Value} (T : Tx K mg) : Prop where
  TB_greatest : GxR.TabB base mg T.c_greatest T.P_greatest
  TB_input_numbers : GxR.TabB base mg T.c_input_numbers T.P_input_numbers
  TB_at_wires : GxR.TabB base mg T.c_at_wires T.P_at_wires
  TB_law : GxR.TabB base mg T.c_law T.P_law
def Tx.tabs {K : PySem.W.Frag} {mg : Str → Option Value} (T : Tx K mg) : List Addr := [T.P_greatest, T.P_input_numbers, T.P_at_wires, T.P_law]
/-! ### generator expressions whose elements may call -/
theorem inv_moved {X : Cx} {cp : List (Addr × Obj)} {σ : L2.St} {H : Hp} {s s' : Shared} (I : Inv X cp σ H s) (os : s'.os = s.os) (bare : AllBare s'.gens) (k : ∀ b o, s.heap.get? b = some o → s'.heap.get? b = some o) : Inv X cp σ H s' :=
  I.call' (ch := []) os (Un.kept k) (I.hok.kept k) bare fun b hb => absurd hb (by simp)
/-- the context of a generator expression's frame: C its frame, s, H the entry, fp its iterator's objects -/
abbrev gblk (X : Cx) (A : Around) (s : Shared) (H : Hp) (cenv : Env) (fp : List Addr) : Cx :=
  { X with A := A, s_0 := s, H_0 := H, env := cenv, outer := X.stack, stack := cenv :: X.stack, ex := fp, fn := fun _ => false, pn := [], xe := fun _ _ => False }
section
variable {X : Cx} {pins : List (Addr × Obj)} {σ : L2.St} {H : Hp} {s : Shared}
theorem gen_start {scope : Scope} {own : List (Str × Nat)} {fp : List Addr} {A : Around} {code it : Value} {s5 : Shared} {cp : List (Addr × Obj)}
    (I : Inv X pins σ H s) (ok : BlkOk X.N X.env.scope scope own) (nocell : ∀ y ∈ scope.names, y.2 ≠ .cell) (hN : X.N.Nodup) (hfp : ∀ b ∈ fp, FpOk X pins H b ∧ b < s.heap.objs.size)
    (hh : A.handled = none) (hfr : A.frames = some (genEnv scope (cloFrom X.env.cells scope.names []) s.heap.objs.size code builtinsNs X.env :: X.stack))
    (os : s5.os = s.os) (bare : AllBare s5.gens) (kp : ∀ b o, s.heap.get? b = some o → s5.heap.get? b = some o)
    (hns : s5.heap.Ns s.heap.objs.size fun y => if y = ".0" then some it else none)
    (hcp : ∀ p ∈ cp, s.heap.objs.size < p.1 ∧ s5.heap.get? p.1 = some p.2 ∧ ∀ v, p.2.data ≠ .cell v) :
    Inv (gblk X A s H (genEnv scope (cloFrom X.env.cells scope.names []) s.heap.objs.size code builtinsNs X.env) fp) cp (wipe σ (own.map (·.2))) H s5 := by
  have hfree : ∀ y ∈ scope.names, y.2 = .free → ∃ c, X.env.cells.lookup y.1 = some c := fun y hy e => by
    rcases ok.free y hy e with k | k
    · exact I.ok.has _ (.inl k)
    · exact I.ok.has _ (.inr k)
  generalize hcenv : genEnv scope (cloFrom X.env.cells scope.names []) s.heap.objs.size code builtinsNs X.env = cenv at hfr ⊢
  have hL : cenv.locals = s.heap.objs.size := by rw [← hcenv]; rfl
  have hcl : cenv.cells = cloFrom X.env.cells scope.names [] := by rw [← hcenv]; rfl
  have hsc : cenv.scope = scope := by rw [← hcenv]; rfl
  have cm : ∀ {y c}, (y, c) ∈ cloFrom X.env.cells scope.names [] → X.env.cells.lookup y = some c ∧ c < s.heap.objs.size := fun {y c} hm => by
    rcases cloFrom_mem hm with hm | ⟨h1, rfl⟩
    · cases hm
    · obtain ⟨c, hc⟩ := hfree _ h1 rfl
      rw [hc]
      obtain ⟨w, z⟩ := I.cell _ _ hc
      exact ⟨rfl, z.lt⟩
  have mem : ∀ {y c}, cenv.cells.lookup y = some c → X.env.cells.lookup y = some c ∧ c < s.heap.objs.size := fun {y c} e => by
    rw [hcl] at e
    exact cm (PySem.mem_of_lookup e)
  have look : ∀ {y}, scope.names.lookup y = some .free → ∃ c, cenv.cells.lookup y = some c ∧ X.env.cells.lookup y = some c := fun {y} hl => by
    have hy : (y, NameKind.free) ∈ scope.names := PySem.mem_of_lookup hl
    obtain ⟨c', e'⟩ := mem_lookup (cloFrom_has (cells := X.env.cells) (acc := []) hy)
    rw [← hcl] at e'
    exact ⟨c', e', (mem e').1⟩
  have okB : (gblk X A s H cenv fp).Ok := by
    refine ⟨I.ok.mod, by show cenv.scope.kind = _; rw [hsc]; exact ok.kind, by show cenv.globals = _; rw [← hcenv]; exact I.ok.glob, by show cenv.builtins = _; rw [← hcenv]; rfl, by show s.heap.objs.size ≤ cenv.locals; rw [hL]; exact Nat.le_refl _,
      fun y z c e1 e2 => I.ok.inj y z c (mem e1).1 (mem e2).1, fun y hy => ?_, fun y c z e => (by cases z), fun _ => hh, hfr, .inr ⟨rfl, by show cenv.frame = some cenv.locals; rw [← hcenv]; rfl⟩, fun b hb => ⟨?_, fun y c e z => ?_⟩, I.bs, Nat.le_trans I.ok.bsz I.sz, fun b o e hb => ?_, fun b hb z => ?_, I.stack, I.stkFree⟩
    · have hy' : scope.names.lookup y = some .cell ∨ scope.names.lookup y = some .free := by
        rw [← hsc]
        exact hy
      rcases hy' with e | e
      · exact absurd rfl (nocell _ (PySem.mem_of_lookup e))
      · obtain ⟨c, h1, _⟩ := look e
        exact ⟨c, h1⟩
    · show b ≠ cenv.locals
      rw [hL]; exact Nat.ne_of_lt (hfp b hb).2
    · exact (hfp b hb).1.2.2.2.2.1 y c (mem e).1 z
    · rcases (hfp b hb).1.2.2.2.1 with z | z
      · exact I.ok.noex b o e z
      · exact absurd (Nat.lt_of_lt_of_le (Heap.lt_size e) (Nat.le_trans I.ok.bsz z)) (Nat.lt_irrefl _)
    · rcases List.mem_cons.mp (I.stkSub b z) with z | z
      · exact (hfp b hb).1.2.1 z
      · exact (hfp b hb).1.2.2.1 z
  refine ⟨okB, os, bare, Un.kept kp, ⟨_, (by show s5.heap.Ns cenv.locals _; rw [hL]; exact hns), fun i y av e1 e2 e3 => ?_⟩, fun y c e => ?_, ?_, fun y c e => I.freeC y c (mem e).1, fun p hp => ?_, I.hok.kept kp, by rw [wipe_length]; exact I.len⟩
  · obtain ⟨e2, hne⟩ := wipe_some e2
    have e3 : Vis scope y := by rw [← hsc]; exact e3
    have no : ∀ k, scope.names.lookup y = some k → ¬ (k = .local ∨ k = .cell) := fun k e hh => by
      rcases ok.own _ (PySem.mem_of_lookup e) hh with e' | e'
      · obtain ⟨p, hp, hpy⟩ := List.mem_map.mp e'
        have e3 := ok.ix p hp
        have : p.1 = y := hpy
        rw [this] at e3
        exact hne (List.mem_map.mpr ⟨p, hp, nodup_ix hN e3 e1⟩)
      · exact e' (List.mem_of_getElem? e1)
    have hfr2 : scope.names.lookup y = some .free := by
      rcases e3 with e | e | e
      · exact absurd (.inl rfl) (no _ e)
      · exact absurd (.inr rfl) (no _ e)
      · exact e
    obtain ⟨m, hn, hl⟩ := I.loc
    have hvis : Vis X.env.scope y := (ok.free _ (PySem.mem_of_lookup hfr2) rfl).elim (fun k => .inr (.inl k)) (fun k => .inr (.inr k))
    obtain ⟨w, r, q⟩ := hl i y av e1 e2 hvis
    refine ⟨w, r, .inr ⟨.inr (by show cenv.scope.names.lookup y = some .free; rw [hsc]; exact hfr2), ?_⟩⟩
    obtain ⟨c, h1, h2⟩ := look hfr2
    rcases q with ⟨k, _⟩ | ⟨_, c', e', z⟩
    · have k : X.env.scope.names.lookup y = some .local := k
      rcases ok.free _ (PySem.mem_of_lookup hfr2) rfl with k' | k' <;> rw [show X.env.scope.names.lookup y = _ from k'] at k <;> cases k
    · rw [h2] at e'; cases e'
      exact ⟨c, h1, z.keeps kp⟩
  · obtain ⟨w, z⟩ := I.cell y c (mem e).1
    exact ⟨w, z.keeps kp⟩
  · show H cenv.locals = none
    rw [hL]; exact I.hok.fresh (Nat.le_refl _)
  · have hp : p ∈ cp := by simpa using hp
    obtain ⟨h1, h2, h3⟩ := hcp p hp
    refine ⟨h2, I.hok.fresh (Nat.le_of_lt h1), by show p.1 ≠ cenv.locals; rw [hL]; exact Nat.ne_of_gt h1, fun z => ?_, h3⟩
    rcases List.mem_cons.mp (I.stkSub _ z) with z | z
    · exact absurd (Nat.lt_trans I.lt h1) (by rw [z]; exact Nat.lt_irrefl _)
    · exact I.nofs (Nat.le_of_lt h1) z
end
/-! ### the talk of a generator and who asks it -/
section
variable {α : Type}
/-- handed out: x; the asker's state a (laid down in the pins cp) goes to one with Nx -/
def YG (Xg : Cx) (fp : List Addr) (tn : Nat → Heap → Prop) (AC : α → List (Addr × Obj) → Prop) (Yd : α → V → Hp → (α → Hp → Prop) → Prop) : Protocol := fun _ _ v s kap =>
  ∃ (a : α) (x : V) (σ : L2.St) (H : Hp) (i : Nat) (cp : List (Addr × Obj)) (Nx : α → Hp → Prop), RelV x v ∧ AC a cp ∧ Inv Xg cp σ H s ∧ tn i s.heap ∧ (∀ b ∈ fp, H b = none) ∧ Yd a x H Nx ∧
    ∀ a' cp' s', Nx a' H → AC a' cp' → Inv Xg cp' σ H s' → tn i s'.heap → kap (.send .none) s'
def RG (Xg : Cx) (AC : α → List (Addr × Obj) → Prop) (End : α → Hp → Prop) : GenEnd := fun _ _ r s =>
  ((r = .ok (.ret .none) ∨ r = .ok .next) ∧ ∃ (a : α) (σ : L2.St) (H : Hp) (cp : List (Addr × Obj)), AC a cp ∧ Inv Xg cp σ H s ∧ End a H) ∨ ∃ e, r = .error e ∧ False
/-- a generator's turns -/
def tGx (J : It) (g : TG) (tt : TT) (te : TE) (σ0 : L2.St) (vs : List Nat) (End : α → Hp → Prop) (Yd : α → V → Hp → (α → Hp → Prop) → Prop) (W : Nat → Nat → α → Hp → Prop) : Prop :=
  ∀ i m a H, W i m a H → (J.stop i H ∧ End a H) ∨ (J.go i H ∧ ∃ Nx : α → Hp → Prop, (∀ a' H', Nx a' H' → ∃ m', m' < m ∧ W (i + 1) m' a' H') ∧
    ∀ x H', J.yld i H x H' → g x σ0 H' fun σ2 H2 => wipe σ2 vs = σ0 ∧ tt σ2 H2 fun b H3 => if b = true then te σ2 H3 fun y H4 => Yd a y H4 Nx else Nx a H3)
theorem wipe_wipe_some {σ σ2 : L2.St} {vs : List Nat} (h : wipe σ2 vs = σ) : ∀ (j : Nat) v, σ[j]? = some (some v) → σ2[j]? = some (some v) := fun j v e => by
  rw [← h] at e
  exact (wipe_some e).1
theorem seg_gx {X : Cx} {A A' : Around} {s_0 : Shared} {H_0 : Hp} {elt tg iter : Expr} {ifs : List Expr} {scope : Scope} {pos : Pos} {it : Addr} {fp : List Addr} {tn : Nat → Heap → Prop} {J : It} {cenv : Env} {g : TG} {tt : TT} {te : TE} {σ0 : L2.St} {vs : List Nat}
    {AC : α → List (Addr × Obj) → Prop} {End : α → Hp → Prop} {Yd : α → V → Hp → (α → Hp → Prop) → Prop} {W : Nat → Nat → α → Hp → Prop}
    (hA : A.over (.compLoop (.GeneratorExp elt [⟨tg, iter, ifs, 0⟩] scope pos) 0 (.ref it) .none cenv) [] = A') (hc : X.calm = true) (hco : cenv.scope.isCoroutine = false)
    (T : Turn X.prog X.w X.K tg J fp it tn) (pg : PG (gblk X A' s_0 H_0 cenv fp) tg g) (pt : PTs (gblk X A' s_0 H_0 cenv fp) ifs tt) (pe : PE (gblk X A' s_0 H_0 cenv fp) elt te)
    (hAC : ∀ a cp, AC a cp → ∀ p ∈ cp, ∀ b ∈ fp, p.1 ≠ b) (turn : tGx J g tt te σ0 vs End Yd W) :
    ∀ (m n i : Nat) (a : α) (H : Hp) (s₀ s : Shared) (cp : List (Addr × Obj)), m < n → W i m a H → AC a cp → Inv (gblk X A' s_0 H_0 cenv fp) cp σ0 H s → tn i s.heap → (∀ b ∈ fp, H b = none) →
      Seg (model X.prog X.w) A (RG (gblk X A' s_0 H_0 cenv fp) AC End) (YG (gblk X A' s_0 H_0 cenv fp) fp tn AC Yd) n s₀
        (.compLoop (.GeneratorExp elt [⟨tg, iter, ifs, 0⟩] scope pos) 0 (.ref it) .none cenv)
        ((model X.prog X.w).den (.compLoop (.GeneratorExp elt [⟨tg, iter, ifs, 0⟩] scope pos) 0 (.ref it) .none cenv)) [] s := by
  have stat : ∀ {a : α} {cp : List (Addr × Obj)} {σ' : L2.St} {H' : Hp} {s' : Shared}, AC a cp → Inv (gblk X A' s_0 H_0 cenv fp) cp σ' H' s' → (∀ b ∈ fp, H' b = none) → ∀ b ∈ fp, FpOk (gblk X A' s_0 H_0 cenv fp) cp H' b := fun {a cp σ' H' s'} hac I' hn b hb =>
    ⟨hn b hb, (I'.ok.exf b hb).1, I'.ok.exfs b hb, .inl hb, fun x c e => (I'.ok.exf b hb).2 x c e, fun p hp => hAC a cp hac p (by simpa using hp) b hb⟩
  intro m
  induction m using Nat.strongRecOn with
  | ind m ih =>
    intro n i a H s₀ s cp hmn w hac I st nf
    show Seg _ A _ _ _ s₀ _ ((compTurn (.GeneratorExp elt [⟨tg, iter, ifs, 0⟩] scope pos) 0 (.ref it) .none cenv).onRaise (leaving cenv)) [] s
    rw [compTurn_gen, Sem.onRaise_eq_wrap]
    refine seg_bind_wrap (wpAny_standAt ?_)
    rcases turn i m a H w with ⟨stop, hend⟩ | ⟨go, Nx, hNx, step⟩
    · refine seg_bind_wrap ?_
      rw [hA]
      refine thnF (T.done (gblk X A' s_0 H_0 cenv fp) rfl rfl rfl hc i cp s σ0 H (fun _ _ => False) I (stat hac I nf) st stop) fun r s1 ⟨hr, I1⟩ => ?_
      subst hr
      exact seg_end (.ok .next) (.inl ⟨.inr rfl, a, _, H, cp, hac, I1, hend⟩)
    · refine seg_bind_wrap ?_
      rw [hA]
      refine thnF (T.item (gblk X A' s_0 H_0 cenv fp) rfl rfl rfl hc i cp s σ0 H (fun _ _ => False) I (stat hac I nf) st go) fun r s1 ⟨u, hr, h1⟩ => ?_
      subst hr
      refine seg_bind_wrap ?_
      rw [hA]
      refine thnF h1 fun _ s2 ⟨x, H2, I2, r2, y2, st2, n2⟩ => ?_
      have I2' := I2.pinned (stat hac I2 n2) (T.obj _ _ st2)
      refine seg_bind_wrap ?_
      rw [hA]
      refine thnF (pg.run _ s2 _ H2 x u _ I2' r2 (step x H2 y2)) fun _ s3 ⟨σ3, H3, I3, hw3, q3⟩ => ?_
      refine seg_bind_wrap ?_
      rw [hA]
      refine thnF (pt.run _ s3 σ3 H3 _ I3 q3) fun b s4 ⟨H4, I4, q4⟩ => ?_
      have hl : σ0.length = σ3.length := by rw [← hw3, wipe_length]
      have fin : ∀ {s' : Shared} {H' : Hp}, Inv (gblk X A' s_0 H_0 cenv fp) (cp ++ pinsAt fp s2.heap) σ3 H' s' → Inv (gblk X A' s_0 H_0 cenv fp) cp σ0 H' s' ∧ tn (i + 1) s'.heap ∧ ∀ b ∈ fp, H' b = none := fun {s' H'} I' => by
        have pin' : ∀ b ∈ fp, ∀ o, s2.heap.get? b = some o → s'.heap.get? b = some o ∧ H' b = none := fun b hb o e =>
          let z := I'.pin (b, o) (List.mem_append_right _ (List.mem_append_right _ (mem_pinsAt hb e)))
          ⟨z.1, z.2.1⟩
        refine ⟨(I'.unpinned (pins := cp)).weak hl (wipe_wipe_some hw3), T.keep _ _ _ st2 fun b hb o e => (pin' b hb o e).1, fun b hb => ?_⟩
        obtain ⟨o, e, _⟩ := T.obj _ _ st2 b hb
        exact (pin' b hb o e).2
      cases b with
      | false =>
        simp only [Bool.false_eq_true, if_false] at q4 ⊢
        obtain ⟨m', hm, w'⟩ := hNx a H4 q4
        obtain ⟨J1, J2, J3⟩ := fin I4
        exact seg_again rfl (ih m' hm n (i + 1) a H4 s₀ s4 cp (by omega) w' hac J1 J2 J3)
      | true =>
        simp only [if_true] at q4 ⊢
        have hy : ∀ v, yieldOut cenv v = yieldValue v := fun v => by simp only [yieldOut, hco, Bool.false_eq_true, if_false]
        simp only [hy]
        rw [Sem.bind_eq_wrap', Sem.bind_eq_wrap', Sem.wrap_wrap, Sem.wrap_wrap]
        refine seg_wrap ?_
        rw [hA]
        refine thnF (pe.run _ s4 σ3 H4 _ I4 q4) fun yv s5 ⟨y, H5, I5, r5, q5⟩ => ?_
        obtain ⟨J1, J2, J3⟩ := fin I5
        -- at least one more
        cases n with
        | zero => exact absurd hmn (Nat.not_lt_zero _)
        | succ n =>
          refine seg_at (seg_yield rfl rfl rfl ⟨a, y, σ0, H5, i + 1, cp, Nx, r5, hac, J1, J2, J3, q5, fun a' cp' s' nx hac' I' st' => ?_⟩)
          obtain ⟨m', hm, w'⟩ := hNx a' H5 nx
          exact seg_again rfl (ih m' hm n (i + 1) a' H5 s' s' cp' (by omega) w' hac' I' st' J3)
end
/-! ### a generator that is made -/
section
variable {X : Cx} {pins : List (Addr × Obj)} {σ : L2.St} {H : Hp} {s : Shared}
def GenObj (o : Obj) (g : Nat) : Prop := ∃ nm qn, o.cls = .type "generator" ∧ o.data = .fields #[.int g 0, nm, qn] ∧ o.slots = #[]
theorem GenObj.isGen {o : Obj} {g : Nat} (h : GenObj o g) {a : Addr} {hp : Heap} (e : hp.get? a = some o) : hp.IsGen a g := by
  obtain ⟨nm, qn, h1, h2, h3⟩ := h
  exact ⟨o, nm, qn, e, h1, h2, h3⟩
/-- the generator u, made and not begun, in the state s5 -/
def Gx (X : Cx) (pins : List (Addr × Obj)) (σ : L2.St) (A : Around) (J : It) (g : TG) (tt : TT) (te : TE) (vs : List Nat) (H4 : Hp) (u : Value) (s5 : Shared) : Prop :=
  ∃ (A' : Around) (s_0 : Shared) (H_0 : Hp) (cenv : Env) (fp : List Addr) (ga : Addr) (gn : Nat) (go : Obj) (tn : Nat → Heap → Prop) (gs : GenState),
    u = .ref ga ∧ GenObj go gn ∧ s5.gens[gn]? = some gs ∧ gs.bare = true ∧ Inv (gblk X A' s_0 H_0 cenv fp) [(ga, go)] (wipe σ vs) H4 s5 ∧ tn 0 s5.heap ∧ (∀ b ∈ fp, H4 b = none) ∧ (∀ b ∈ fp, b < ga) ∧
    (∀ i h h', tn i h → (∀ b ∈ fp, ∀ o, h.get? b = some o → h'.get? b = some o) → tn i h') ∧ (∀ cp σ' H' s', Inv (gblk X A' s_0 H_0 cenv fp) cp σ' H' s' → Inv X pins σ H' s') ∧
    ∀ (α : Type) (AC : α → List (Addr × Obj) → Prop) (End : α → Hp → Prop) (Yd : α → V → Hp → (α → Hp → Prop) → Prop) (W : Nat → Nat → α → Hp → Prop) (m n : Nat) (a : α) (cp : List (Addr × Obj)) (s' : Shared),
      tGx J g tt te (wipe σ vs) vs End Yd W → W 0 m a H4 → m < n → (∀ a cp, AC a cp → ∀ p ∈ cp, ∀ b ∈ fp, p.1 ≠ b) → AC a cp → Inv (gblk X A' s_0 H_0 cenv fp) cp (wipe σ vs) H4 s' → tn 0 s'.heap →
      gs.Goes (model X.prog X.w) A (RG (gblk X A' s_0 H_0 cenv fp) AC End) (YG (gblk X A' s_0 H_0 cenv fp) fp tn AC Yd) n (.send .none) s'
/-- what stands about an asker -/
structure Near (A B : Around) : Prop where
  hd : B.handled = A.handled
  fr : B.frames = A.frames
  gd : B.guards = A.guards
  dp : B.depth = A.depth
  un : B.units ≤ A.units + 8
theorem gx_make {c P : Addr} {elt tg iter : Expr} {ifs : List Expr} {gpos : Pos} {scope : Scope} {own : List (Str × Nat)} {wi : TI} {g : TG} {tt : TT} {te : TE} {k : Nat} {Q' : Value → Shared → Prop} {R : It → Hp → Prop} {A : Around}
    (hr : Room (k + 1) X.A) (near : Near X.A A) (hc : X.calm = true) (hN : X.N.Nodup) (TB : GxR.TabB X.base X.mg c P) (hcode : X.env.code = .ref c) (hco : scope.isCoroutine = false) (hdot : scope.names.lookup (".0" : Str) = some NameKind.local)
    (nocell : ∀ y ∈ scope.names, y.2 ≠ .cell) (ok : BlkOk X.N X.env.scope scope own) (hi : PI X tg iter wi)
    (hg : ∀ (A' : Around) (s : Shared) (H : Hp) (C : Addr) (cl : List (Str × Addr)) (code : Value) (fp : List Addr), Room k A' → A'.guards = X.A.guards → PG (gblk X A' s H (genEnv scope cl C code builtinsNs X.env) fp) tg g)
    (ht : ∀ (A' : Around) (s : Shared) (H : Hp) (C : Addr) (cl : List (Str × Addr)) (code : Value) (fp : List Addr), Room k A' → A'.guards = X.A.guards → PTs (gblk X A' s H (genEnv scope cl C code builtinsNs X.env) fp) ifs tt)
    (he : ∀ (A' : Around) (s : Shared) (H : Hp) (C : Addr) (cl : List (Str × Addr)) (code : Value) (fp : List Addr), Room k A' → A'.guards = X.A.guards → PE (gblk X A' s H (genEnv scope cl C code builtinsNs X.env) fp) elt te)
    (hs : ∀ v, genFold iter X.env v = pure v) (I : Inv X pins σ H s) (h : wi σ H fun J H1 => GxR.TabG H1 P ∧ R J H1)
    (hQ : ∀ J H1 H2 u s5, R J H1 → GxR.Tabbed P H1 H2 → Gx X pins σ A J g tt te (own.map (·.2)) H2 u s5 → Q' u s5) :
    wpAny (model X.prog X.w) X.A (eval (.GeneratorExp elt [⟨tg, iter, ifs, 0⟩] scope gpos) X.env) Q' X.xe s := by
  have hfree : ∀ y ∈ scope.names, y.2 = .free → ∃ c, X.env.cells.lookup y.1 = some c := fun y hy e => by
    rcases ok.free y hy e with k | k
    · exact I.ok.has _ (.inl k)
    · exact I.ok.has _ (.inr k)
  refine wpAny_GeneratorExp_make hco (closure_ok hfree) nocell hdot ok.kind (by have := hr.dp; omega) ?_ hs
  refine thn (hi.run pins s σ H _ I h) fun xv s1 hx => thn hx fun itv s2 h2 => ?_
  obtain ⟨it, fp, tn, J, H2, rfl, I2, T, st2, f2, ⟨ps, hP, ht3⟩, q⟩ := h2
  refine ⟨I2.nolimit, ?_⟩
  have hPs : s2.heap.get? P = some { cls := .none, data := .fields ps } := I2.hok P _ hP
  have cd : PySem.W.CodeHd s2.heap c P := TB.code.keeps fun b u e => I2.bk b u e
  have nP : ∀ b, H2 b = none → b ≠ P := fun b e z => by
    rw [z, hP] at e
    cases e
  have cont : ∀ (code : Value) (h3 : Heap) (tk : Nat) (ps' : Array Value), Heap.ExtBut P s2.heap h3 → s2.heap.objs.size ≤ h3.objs.size → h3.get? P = some { cls := .none, data := .fields ps' } → (∃ more, ps' = ps ++ more) → TriplesOk ps'.toList →
      wpAny (model X.prog X.w) X.A (builtinsFor X.env.globals X.env.builtins) (fun bi s₄ =>
        ∀ h', h'.Ns s₄.heap.objs.size (fun y => if y = ".0" then some (Value.ref it) else none) → Heap.SameBut s₄.heap.objs.size (s₄.heap.push { cls := .type "frame", data := .dict #[] }) h' →
          Q' (.ref h'.objs.size) { s₄ with
            gens := s₄.gens.push (.fresh (.compStart (.GeneratorExp elt [⟨tg, iter, ifs, 0⟩] scope gpos) 0 (.ref it) .none (genEnv scope (cloFrom X.env.cells scope.names []) s₄.heap.objs.size code bi X.env))),
            toks := s₄.toks + 1 + 1 + 1,
            heap := h'.push { cls := .type "generator", data := .fields #[.int s₄.gens.size 0, .str "<genexpr>" (s₄.toks + 1), .str (X.env.qual ++ "<genexpr>") (s₄.toks + 1 + 1)] } }) X.xe { s2 with heap := h3, toks := tk } := by
    rintro code h3 tk ps' hx hsz hP3 ⟨more, rfl⟩ ht4
    obtain ⟨bm, ob, e1, e2, e3, e4, e5, e6, e7, e8⟩ := TB.bm
    refine wpAny_builtinsFor (m := X.mg) (by rw [I2.ok.glob]; exact (I2.mod.glob.keeps I2.bk).extBut hx TB.gP) e1 e2 (hx _ _ e4 (I2.bk _ _ e5)) e6 e7 e8 ?_
    intro h' hns hsb
    have I3 : Inv X pins σ (upd H2 P (.tbl (ps ++ more))) { s2 with heap := h3, toks := tk } := GxR.inv_tab (g' := s2.gens) (d' := s2.drawn) I2 hP (fun b o hb e => hx b o hb e) hP3 I2.bare
    have lt2 : ∀ b ∈ fp, b < s2.heap.objs.size := fun b hb => by
      obtain ⟨o, e, _⟩ := T.obj _ _ st2 b hb
      exact Heap.lt_size e
    have f3 : ∀ b ∈ fp, FpOk X pins (upd H2 P (.tbl (ps ++ more))) b ∧ b < ({ s2 with heap := h3, toks := tk } : Shared).heap.objs.size := fun b hb => by
      refine ⟨⟨?_, (f2 b hb).2⟩, Nat.lt_of_lt_of_le (lt2 b hb) hsz⟩
      rw [upd_ne (nP b (f2 b hb).1)]
      exact (f2 b hb).1
    have st3 : tn 0 h3 := T.keep _ _ _ st2 fun b hb o e => hx b o (nP b (f2 b hb).1) e
    generalize hs4 : ({ s2 with heap := h3, toks := tk } : Shared) = s4 at I3 f3 hns hsb ⊢
    have h4 : s4.heap = h3 := by rw [← hs4]
    have hsz4 : h'.objs.size = s4.heap.objs.size + 1 := by rw [hsb.1, Heap.size_push]
    have keep' : ∀ b o, s4.heap.get? b = some o → h'.get? b = some o := fun b o e => hsb.extBut b o (Nat.ne_of_lt (Heap.lt_size e)) (Heap.get?_push_of_some _ e)
    generalize hgo : ({ cls := .type "generator", data := .fields #[.int s4.gens.size 0, .str "<genexpr>" (s4.toks + 1), .str (X.env.qual ++ "<genexpr>") (s4.toks + 1 + 1)] } : Obj) = go
    have hGO : GenObj go s4.gens.size := by rw [← hgo]; exact ⟨_, _, rfl, rfl, rfl⟩
    have k5 : ∀ b o, s4.heap.get? b = some o → (h'.push go).get? b = some o := fun b o e => Heap.get?_push_of_some _ (keep' b o e)
    have pg := fun A' => hg A' s4 (upd H2 P (.tbl (ps ++ more))) s4.heap.objs.size (cloFrom X.env.cells scope.names []) code fp
    have pt := fun A' => ht A' s4 (upd H2 P (.tbl (ps ++ more))) s4.heap.objs.size (cloFrom X.env.cells scope.names []) code fp
    have pe := fun A' => he A' s4 (upd H2 P (.tbl (ps ++ more))) s4.heap.objs.size (cloFrom X.env.cells scope.names []) code fp
    generalize hce : genEnv scope (cloFrom X.env.cells scope.names []) s4.heap.objs.size code builtinsNs X.env = cenv at pg pt pe ⊢
    have hscn : cenv.scope = scope := by rw [← hce]; rfl
    generalize hA' : A.over (.compLoop (.GeneratorExp elt [⟨tg, iter, ifs, 0⟩] scope gpos) 0 (.ref it) .none cenv) [] = A'
    have hfrA : A'.frames = some (cenv :: X.stack) := by
      rw [← hA']
      show pushEnvs [cenv] A.frames = _
      rw [near.fr, I2.ok.frames]
      rfl
    have hhd : A'.handled = none := by
      rw [← hA']
      show A.handled = none
      rw [near.hd]
      exact hr.hd
    have rm : Room k A' := by
      refine ⟨hhd, ?_, ?_⟩
      · have := hr.dp
        have := near.dp
        rw [← hA']
        show A.depth + 0 + 1 + 3 * k + 5 < _
        omega
      · have := hr.un
        have := near.un
        rw [← hA']
        show A.units + 0 + 3 + 16 * k + 200 < _
        omega
    have gdA : A'.guards = X.A.guards := by
      rw [← hA']
      show pushGuards [] A.guards = _
      rw [near.gd]
      rfl
    have I5 : Inv (gblk X A' s4 (upd H2 P (.tbl (ps ++ more))) cenv fp) [(h'.objs.size, go)] (wipe σ (own.map (·.2))) (upd H2 P (.tbl (ps ++ more)))
        { s4 with gens := s4.gens.push (.fresh (.compStart (.GeneratorExp elt [⟨tg, iter, ifs, 0⟩] scope gpos) 0 (.ref it) .none cenv)), toks := s4.toks + 1 + 1 + 1, heap := h'.push go } := by
      subst hce
      refine gen_start (it := .ref it) I3 ok nocell hN f3 hhd hfrA rfl (I3.bare.push rfl) k5 (hns.push _) fun p hp => ?_
      have e : p = (h'.objs.size, go) := by simpa using hp
      subst e
      refine ⟨by show s4.heap.objs.size < h'.objs.size; omega, Heap.get?_push_size _ (by rw [← hgo]; rfl), fun v z => ?_⟩
      rw [← hgo] at z
      cases z
    refine hQ J H2 _ _ _ q ⟨⟨_, upd_same, ht4⟩, fun b hb => upd_ne hb⟩ ⟨A', s4, _, cenv, fp, h'.objs.size, s4.gens.size, go, tn, _, rfl, hGO, Array.getElem?_push_size .., rfl, I5, ?_, fun b hb => (f3 b hb).1.1, fun b hb => ?_, T.keep, fun cp σ' H' s' I' => ?_, ?_⟩
    · exact T.keep _ _ _ st3 fun b _ o e => k5 b o (by rw [h4]; exact e)
    · have := (f3 b hb).2
      rw [hsz4]
      exact Nat.lt_succ_of_lt this
    · exact I3.call' (ch := fp) I'.os I'.base I'.hok I'.bare fun b hb => ⟨(f3 b hb).1.2.2.2.1, (f3 b hb).1.2.1, (f3 b hb).1.2.2.2.2.1, (f3 b hb).1.2.2.2.2.2⟩
    · intro α AC End Yd W m n a cp s' turn w hmn hAC hac I' st'
      refine ⟨rfl, ?_⟩
      have loop := seg_gx (A := A) (pos := gpos) (iter := iter) (scope := scope) hA' hc (by rw [hscn]; exact hco) T (pg A' rm gdA) (pt A' rm gdA) (pe A' rm gdA) hAC turn m n 0 a _ s' s' cp hmn w hac I' st' fun b hb => (f3 b hb).1.1
      show Seg _ A _ _ _ s' _ ((compStart (.GeneratorExp elt [⟨tg, iter, ifs, 0⟩] scope gpos) 0 (.ref it) .none cenv).onRaise (leaving cenv)) [] s'
      unfold compStart
      rw [Sem.onRaise_eq_wrap]
      show Seg _ A _ _ _ s' _ ((ask >>= _).wrap _ _ _ _) [] s'
      refine seg_bind_wrap (wpAny_askSetting ?_)
      split
      · exact seg_again rfl loop
      · first
          | exact seg_bind_wrap (wpAny_rule (seg_bind_wrap (wpAny_standAt (seg_bind_wrap (T.self _ 0 s' _ _ st' (seg_again rfl loop))))))
          | (refine seg_bind_wrap (wpAny_rule ?_); show Seg _ A _ _ _ s' _ ((standAt iter.pos >>= _).wrap _ _ _ _) [] s'; exact seg_bind_wrap (wpAny_standAt (seg_bind_wrap (T.self _ 0 s' _ _ st' (seg_again rfl loop)))))
  cases hf : codeAmong gpos ps.toList with
  | none =>
    refine wpAny_genexprCodeX hcode (cd.code hPs ht3) (cd.tab hPs) hf fun c' h' tk hx hge hlt hco' _ htab' _ => ?_
    obtain ⟨o1, vs, f1, tf, fl, tg, inF, tx, tt, op, _, _, _, _, _, _, _, _, _, htr, _⟩ := hco'
    exact cont _ h' tk _ hx (Nat.le_trans hge (Nat.le_of_lt hlt)) htab'.2 ⟨_, rfl⟩ htr
  | some cv =>
    refine wpAny_genexprCode_hit hcode (cd.code hPs ht3) hf ?_
    exact cont cv s2.heap s2.toks ps (Heap.ExtBut.refl _ _) (Nat.le_refl _) hPs ⟨#[], by simp⟩ ht3
end
/-! ### asking -/
section
variable {α : Type} {X : Cx} {A A' : Around} {s_0 : Shared} {H_0 : Hp} {cenv : Env} {fp : List Addr} {tn : Nat → Heap → Prop} {AC : α → List (Addr × Obj) → Prop} {End : α → Hp → Prop} {Yd : α → V → Hp → (α → Hp → Prop) → Prop} {ga : Addr} {gn n : Nat} {go : Obj}
theorem next_gx {gs : GenState} {s : Shared} {Q : Option Value → Shared → Prop} {E : Value → Shared → Prop} (hh : A.handled = none) (hroom : A.depth < recursionLimit) (hl : s.heap.NoLimit) (hG : GenObj go gn) (e : s.heap.get? ga = some go) (hgs : s.gens[gn]? = some gs)
    (hgo : gs.Goes (model X.prog X.w) A.in1 (RG (gblk X A' s_0 H_0 cenv fp) AC End) (YG (gblk X A' s_0 H_0 cenv fp) fp tn AC Yd) n (.send .none) (s.setGen gn .running))
    (item : ∀ (a : α) (x : V) (σ : L2.St) (H : Hp) (i : Nat) (cp : List (Addr × Obj)) (Nx : α → Hp → Prop) (v : Value) (s1 : Shared) (gs' : GenState), RelV x v → AC a cp → Inv (gblk X A' s_0 H_0 cenv fp) cp σ H s1 → tn i s1.heap → Yd a x H Nx → s1.gens[gn]? = some gs' →
      (∀ a' cp' s', Nx a' H → AC a' cp' → Inv (gblk X A' s_0 H_0 cenv fp) cp' σ H s' → tn i s'.heap → ∃ m, n = m + 1 ∧ gs'.Goes (model X.prog X.w) A.in1 (RG (gblk X A' s_0 H_0 cenv fp) AC End) (YG (gblk X A' s_0 H_0 cenv fp) fp tn AC Yd) m (.send .none) s') → Q (some v) s1)
    (done : ∀ (a : α) (σ : L2.St) (H : Hp) (cp : List (Addr × Obj)) (s1 : Shared), AC a cp → Inv (gblk X A' s_0 H_0 cenv fp) cp σ H s1 → End a H → Q none s1) :
    wpAny (model X.prog X.w) A (pyNext (.ref ga)) Q E s := by
  have hgl : gn < s.gens.size := (Array.getElem?_eq_some_iff.mp hgs).1
  refine GenW.wpAny_gsz (n := gn + 1) hgl (next_genG (Er := fun _ _ => False) hh hl hroom (hG.isGen e) hgs hgo (fun v s₁ gs' hbare hv => ?_) (fun s₁ hp h' hk => ?_) fun e s₁ he => he.elim)
  · intro hsz
    obtain ⟨a, x, σ, H, i, cp, Nx, r, hac, I, st, nf, hy, kap⟩ := hv
    have hsz1 : gn < s₁.gens.size := by
      have q : (s₁.setGen gn gs').gens.size = s₁.gens.size := GenW.setGen_size _ _ _
      have hsz' : gn + 1 ≤ (s₁.setGen gn gs').gens.size := hsz
      omega
    refine item a x σ H i cp Nx v (s₁.setGen gn gs') gs' r hac (inv_moved I rfl (allBare_setGen I.bare hbare) fun _ _ q => q) st hy (setGen_at hsz1) fun a' cp' s' nx hac' I' st' => ?_
    have z := kap a' cp' s' nx hac' I' st'
    cases n with
    | zero => exact z.elim
    | succ m => exact ⟨m, rfl, z⟩
  · intro _
    obtain ⟨a, σ, H, cp, hac, I, q⟩ := hp
    exact done a σ H cp _ hac (inv_moved I rfl (allBare_setGen I.bare rfl) hk) q
/-- all(..) asks on -/
theorem all_gx {R : Result → Shared → Prop} {Stop : Hp → Prop} {End : Unit → Hp → Prop} (hh : A.handled = none) (hroom : A.depth < recursionLimit) (hG : GenObj go gn)
    (yes : ∀ (σ : L2.St) (H : Hp) (cp : List (Addr × Obj)) (s1 : Shared), Inv (gblk X A' s_0 H_0 cenv fp) cp σ H s1 → End () H → R (.ok (.ret (.bool true))) s1)
    (no : ∀ (σ : L2.St) (H : Hp) (cp : List (Addr × Obj)) (s1 : Shared), Inv (gblk X A' s_0 H_0 cenv fp) cp σ H s1 → Stop H → R (.ok (.ret (.bool false))) s1) :
    ∀ (n : Nat) (s : Shared), s.heap.NoLimit → s.heap.get? ga = some go → (∃ gs, s.gens[gn]? = some gs ∧ gs.Goes (model X.prog X.w) A.in1.in1 (RG (gblk X A' s_0 H_0 cenv fp) (fun _ cp => cp = [(ga, go)]) End)
      (YG (gblk X A' s_0 H_0 cenv fp) fp tn (fun _ cp => cp = [(ga, go)]) (fun _ y H Nx => ∃ b : Bool, y = .bl b ∧ if b = true then Nx () H else Stop H)) n (.send .none) (s.setGen gn .running)) →
      codeAny (model X.prog X.w) A (.builtin "all.loop" ⟨[.ref ga], []⟩) R s := by
  intro n
  induction n with
  | zero =>
    rintro s hl e ⟨gs, hgs, hgo⟩
    refine codeAny_builtin F.entry_all_loop ?_
    rw [Around.under_plainId F.plain_all_loop _]
    show wpAny _ A.in1 (pyNext (.ref ga) >>= _) _ _ s
    refine wpAny_bind (next_gx (A := A.in1) hh hroom hl hG e hgs hgo (fun a x σ H i cp Nx v s1 gs' r hac I st hy at_ kap => ?_) fun a σ H cp s1 hac I q => ?_)
    · obtain ⟨b, rfl, hb⟩ := hy
      cases (show v = Value.bool b from r)
      refine wpAny_bind (wpAny_holding (wpAny_truthy_bool ?_))
      refine wpAny_bind (wpAny_letGo ?_)
      cases b with
      | true =>
        obtain ⟨m, hm, _⟩ := kap () cp s1 hb hac I st
        cases hm
      | false =>
        simp only [Bool.false_eq_true, if_false] at hb ⊢
        exact wpAny_bind (wpAny_rule (wpAny_pure (no σ H cp s1 I hb)))
    · exact wpAny_bind (wpAny_rule (wpAny_pure (yes σ H cp s1 I q)))
  | succ n ih =>
    rintro s hl e ⟨gs, hgs, hgo⟩
    refine codeAny_builtin F.entry_all_loop ?_
    rw [Around.under_plainId F.plain_all_loop _]
    show wpAny _ A.in1 (pyNext (.ref ga) >>= _) _ _ s
    refine wpAny_bind (next_gx (A := A.in1) hh hroom hl hG e hgs hgo (fun a x σ H i cp Nx v s1 gs' r hac I st hy at_ kap => ?_) fun a σ H cp s1 hac I q => ?_)
    · obtain ⟨b, rfl, hb⟩ := hy
      cases (show v = Value.bool b from r)
      refine wpAny_bind (wpAny_holding (wpAny_truthy_bool ?_))
      refine wpAny_bind (wpAny_letGo ?_)
      cases b with
      | true =>
        simp only [if_true] at hb ⊢
        subst hac
        refine wpAny_pure ⟨plainId_quiet F.plain_all_loop _, ih s1 I.nolimit (I.pin (ga, go) (List.mem_append_right _ List.mem_cons_self)).1 ⟨gs', at_, ?_⟩⟩
        obtain ⟨m, hm, z⟩ := kap () [(ga, go)] (s1.setGen gn .running) hb rfl (inv_moved I rfl (allBare_setGen I.bare rfl) fun _ _ q => q) st
        cases hm
        exact z
      | false =>
        simp only [Bool.false_eq_true, if_false] at hb ⊢
        exact wpAny_bind (wpAny_rule (wpAny_pure (no σ H cp s1 I hb)))
    · exact wpAny_bind (wpAny_rule (wpAny_pure (yes σ H cp s1 I q)))
end
section
variable {X : Cx}
/-- all(elt for tg in iter ..) -/
def tAllX (P : Addr) (wi : TI) (g : TG) (tt : TT) (te : TE) (vs : List Nat) : TE := fun σ H Q => wi σ H fun J H1 => GxR.TabG H1 P ∧ ∀ H2, GxR.Tabbed P H1 H2 → ∃ W : Nat → Nat → Unit → Hp → Prop, (∃ m, W 0 m () H2) ∧
  tGx J g tt te (wipe σ vs) vs (fun _ H => Q (.bl true) H) (fun _ y H Nx => ∃ b : Bool, y = .bl b ∧ if b = true then Nx () H else Q (.bl false) H) W
theorem pe_allX {c P : Addr} {elt tg iter : Expr} {ifs : List Expr} {p pos gpos : Pos} {scope : Scope} {own : List (Str × Nat)} {wi : TI} {g : TG} {tt : TT} {te : TE} {k : Nat}
    (hr : Room (k + 1) X.A) (hc : X.calm = true) (hN : X.N.Nodup) (hgl : Gl X "all") (hm : X.mg "all" = none) (hb : bootBuiltins "all" = some (.builtin "all")) (TB : GxR.TabB X.base X.mg c P) (hcode : X.env.code = .ref c)
    (hco : scope.isCoroutine = false) (hdot : scope.names.lookup (".0" : Str) = some NameKind.local) (nocell : ∀ y ∈ scope.names, y.2 ≠ .cell) (ok : BlkOk X.N X.env.scope scope own) (hi : PI X tg iter wi)
    (hg : ∀ (A' : Around) (s : Shared) (H : Hp) (C : Addr) (cl : List (Str × Addr)) (code : Value) (fp : List Addr), Room k A' → A'.guards = X.A.guards → PG (gblk X A' s H (genEnv scope cl C code builtinsNs X.env) fp) tg g)
    (ht : ∀ (A' : Around) (s : Shared) (H : Hp) (C : Addr) (cl : List (Str × Addr)) (code : Value) (fp : List Addr), Room k A' → A'.guards = X.A.guards → PTs (gblk X A' s H (genEnv scope cl C code builtinsNs X.env) fp) ifs tt)
    (he : ∀ (A' : Around) (s : Shared) (H : Hp) (C : Addr) (cl : List (Str × Addr)) (code : Value) (fp : List Addr), Room k A' → A'.guards = X.A.guards → PE (gblk X A' s H (genEnv scope cl C code builtinsNs X.env) fp) elt te)
    (hs : ∀ v, genFold iter X.env v = pure v)
    (hst : starEach [.GeneratorExp elt [⟨tg, iter, ifs, 0⟩] scope gpos] X.env = (false, eval (.GeneratorExp elt [⟨tg, iter, ifs, 0⟩] scope gpos) X.env) :: starEach [] X.env := by rfl) :
    PE X (.Call (.Name "all" p) [.GeneratorExp elt [⟨tg, iter, ifs, 0⟩] scope gpos] [] pos) (tAllX P wi g tt te (own.map (·.2))) := by
  refine ⟨fun pins s σ H Q I h => ?_⟩
  refine wpAny_Call_Name_kw (ld_blt I hgl hm hb ?_)
  refine PyProof.Rows.callWith_builtin1 ?_ hst (by rfl)
  rw [hst]
  show wpAny _ _ (spliced ((false, eval (.GeneratorExp elt [⟨tg, iter, ifs, 0⟩] scope gpos) X.env) :: backTo pos (starEach [] X.env))) _ _ s
  refine Calls.spliced_cons (gx_make (A := X.A.in1.in1) hr ⟨rfl, rfl, rfl, rfl, (by show X.A.units + 1 + 1 ≤ _; omega)⟩ hc hN TB hcode hco hdot nocell ok hi hg ht he hs I h fun J H1 H2 u s5 hR hT hG => ?_)
  obtain ⟨A', s_0, H_0, cenv, fp, ga, gn, go, tn, gs, rfl, hGO, hgs, hbare, I5, st5, nf, hlt, keep, back, goes⟩ := hG
  obtain ⟨W, ⟨m, w0⟩, turn⟩ := hR H2 hT
  refine Calls.spliced_nil ?_
  have pin5 := (I5.pin (ga, go) (List.mem_append_right _ List.mem_cons_self)).1
  refine call_function_tree F.kind_all F.plain_all F.entry_all (F.args_all1 _) ?_
  unfold Builtin.«all»
  refine wpAny_bind (m := oneArg "all" _) (wpAny_pure ?_)
  refine wpAny_bind (wpAny_pyIter_gen (hGO.isGen pin5) ?_)
  refine wpAny_pure ⟨plainId_quiet F.plain_all_loop _, all_gx (A' := A') (s_0 := s_0) (H_0 := H_0) (cenv := cenv) (fp := fp) (tn := tn) (go := go) (gn := gn) (Stop := fun H => Q (.bl false) H) (End := fun _ H => Q (.bl true) H) hr.hd hr.depth hGO
    (fun σ' H' cp s1 I1 q => ⟨.bl true, H', back _ _ _ _ I1, rfl, q⟩) (fun σ' H' cp s1 I1 q => ⟨.bl false, H', back _ _ _ _ I1, rfl, q⟩) (m + 1) s5 I5.nolimit pin5 ⟨gs, hgs, ?_⟩⟩
  refine goes Unit _ _ _ W m (m + 1) () [(ga, go)] _ turn w0 (Nat.lt_succ_self _) (fun a cp hac p hp b hb z => ?_) rfl (inv_moved I5 rfl (allBare_setGen I5.bare rfl) fun _ _ q => q) st5
  subst hac
  have e : p = (ga, go) := by simpa using hp
  subst e
  exact absurd (hlt b hb) (by rw [← z]; exact Nat.lt_irrefl _)
end
/-! ### tuple(..) -/
section
variable {X : Cx} {A A' : Around} {s_0 : Shared} {H_0 : Hp} {cenv : Env} {fp : List Addr} {tn : Nat → Heap → Prop} {ga S : Addr} {gn n : Nat} {go : Obj}
/-- the asker's list S holds what is out -/
def ACl (ga : Addr) (go : Obj) (S : Addr) (ys : List V) (cp : List (Addr × Obj)) : Prop := ∃ (acc : Array Value) (c : Nat), cp = [(ga, go), (S, lstObj acc c)] ∧ Vals ys acc.toList
def YdL (ys : List V) (y : V) (H : Hp) (Nx : List V → Hp → Prop) : Prop := ys.length < sizeLine ∧ Nx (ys ++ [y]) H
theorem ext_gx {R : Result → Shared → Prop} {End : List V → Hp → Prop} {res : Value} (hh : A.handled = none) (hroom : A.depth < recursionLimit) (hG : GenObj go gn) (hSa : S ≠ ga) (far : (gblk X A' s_0 H_0 cenv fp).s_0.heap.objs.size ≤ S) (hSc : ∀ x c, cenv.cells.lookup x = some c → c ≠ S)
    (keep : ∀ i h h', tn i h → (∀ b ∈ fp, ∀ o, h.get? b = some o → h'.get? b = some o) → tn i h') (hSf : ∀ b ∈ fp, b ≠ S)
    (yes : ∀ (σ : L2.St) (H : Hp) (ys : List V) (acc : Array Value) (c : Nat) (s1 : Shared), Inv (gblk X A' s_0 H_0 cenv fp) [(ga, go), (S, lstObj acc c)] σ H s1 → Vals ys acc.toList → End ys H → R (.ok (.ret res)) s1) :
    ∀ (n : Nat) (s : Shared), s.heap.NoLimit → s.heap.get? ga = some go → (∃ gs, s.gens[gn]? = some gs ∧ gs.Goes (model X.prog X.w) A.in1.in1 (RG (gblk X A' s_0 H_0 cenv fp) (ACl ga go S) End)
      (YG (gblk X A' s_0 H_0 cenv fp) fp tn (ACl ga go S) YdL) n (.send .none) (s.setGen gn .running)) →
      codeAny (model X.prog X.w) A (.builtin "list.extend.loop" ⟨[.ref S, .ref ga, res], []⟩) R s := by
  intro n
  induction n with
  | zero =>
    rintro s hl e ⟨gs, hgs, hgo⟩
    refine codeAny_builtin F.entry_extend_loop ?_
    rw [Around.under_plainId F.plain_extend_loop _]
    show wpAny _ A.in1 (pyNext (.ref ga) >>= _) _ _ s
    refine wpAny_bind (next_gx (A := A.in1) hh hroom hl hG e hgs hgo (fun ys x σ H i cp Nx v s1 gs' r hac I st hy at_ kap => ?_) fun ys σ H cp s1 hac I q => ?_)
    · obtain ⟨acc, c, rfl, rv⟩ := hac
      have pS := I.pin (S, lstObj acc c) (List.mem_append_right _ (List.mem_cons_of_mem _ List.mem_cons_self))
      have I0 : Inv (gblk X A' s_0 H_0 cenv fp) [(ga, go)] σ H s1 := I.pins_of fun p hp => I.pin p (List.mem_append_right _ (by rw [List.mem_singleton.mp hp]; exact List.mem_cons_self))
      have I1 := I0.turned (t' := s1.toks) (h' := s1.heap.update S (Obj.mapSeq (·.push v))) (it := S) (fun b o hb q => (Heap.get?_update_other _ _ (Ne.symm hb)).trans q) pS.2.1 pS.2.2.1 (.inr far) hSc (fun p hp => by rw [List.mem_singleton.mp (show p ∈ [(ga, go)] by simpa using hp)]; exact Ne.symm hSa)
      have e2 := Heap.get?_update_self (Obj.mapSeq (·.push v)) pS.1 rfl
      obtain ⟨m, hm, _⟩ := kap (ys ++ [x]) [(ga, go), (S, _)] _ hy.2 ⟨acc.push v, _, rfl, by rw [Array.toList_push]; exact rv.append (.cons r .nil)⟩ (I1.pins_of fun p hp => by
        rcases List.mem_cons.mp hp with z | z
        · rw [z]; exact I1.pin (ga, go) (List.mem_append_right _ List.mem_cons_self)
        · rw [List.mem_singleton.mp z]; exact ⟨e2, pS.2.1, pS.2.2.1, pS.2.2.2.1, fun v q => by cases q⟩) (keep _ _ _ st fun b hb o q => (Heap.get?_update_other _ _ (Ne.symm (hSf b hb))).trans q)
      cases hm
    · obtain ⟨acc, c, rfl, rv⟩ := hac
      exact wpAny_pure (yes σ H ys acc c s1 I rv q)
  | succ n ih =>
    rintro s hl e ⟨gs, hgs, hgo⟩
    refine codeAny_builtin F.entry_extend_loop ?_
    rw [Around.under_plainId F.plain_extend_loop _]
    show wpAny _ A.in1 (pyNext (.ref ga) >>= _) _ _ s
    refine wpAny_bind (next_gx (A := A.in1) hh hroom hl hG e hgs hgo (fun ys x σ H i cp Nx v s1 gs' r hac I st hy at_ kap => ?_) fun ys σ H cp s1 hac I q => ?_)
    · obtain ⟨acc, c, rfl, rv⟩ := hac
      have pS := I.pin (S, lstObj acc c) (List.mem_append_right _ (List.mem_cons_of_mem _ List.mem_cons_self))
      have I0 : Inv (gblk X A' s_0 H_0 cenv fp) [(ga, go)] σ H s1 := I.pins_of fun p hp => I.pin p (List.mem_append_right _ (by rw [List.mem_singleton.mp hp]; exact List.mem_cons_self))
      have I1 := I0.turned (t' := s1.toks) (h' := s1.heap.update S (Obj.mapSeq (·.push v))) (it := S) (fun b o hb q => (Heap.get?_update_other _ _ (Ne.symm hb)).trans q) pS.2.1 pS.2.2.1 (.inr far) hSc (fun p hp => by rw [List.mem_singleton.mp (show p ∈ [(ga, go)] by simpa using hp)]; exact Ne.symm hSa)
      have e2 := Heap.get?_update_self (Obj.mapSeq (·.push v)) pS.1 rfl
      have hln := rv.length
      have hlt : acc.size < sizeLine := by
        have := hy.1
        rw [hln] at this
        simpa using this
      have pG := I1.pin (ga, go) (List.mem_append_right _ List.mem_cons_self)
      show wpAny _ A.in1 (updateSeq S (·.push v) >>= _) _ _ _
      refine wpAny_bind ?_
      refine wpAny_updateSeq pS.1 rfl (wpAny_pure ⟨plainId_quiet F.plain_extend_loop _, ih _ I1.nolimit pG.1 ⟨gs', at_, ?_⟩⟩) (Nat.le_of_lt hlt) (by show (acc.push v).size ≤ sizeLine + 1; rw [Array.size_push]; omega)
      obtain ⟨m, hm, z⟩ := kap (ys ++ [x]) [(ga, go), (S, _)] (({ s1 with heap := s1.heap.update S (Obj.mapSeq (·.push v)) } : Shared).setGen gn .running) hy.2 ⟨acc.push v, _, rfl, by rw [Array.toList_push]; exact rv.append (.cons r .nil)⟩ (inv_moved (I1.pins_of fun p hp => by
        rcases List.mem_cons.mp hp with z | z
        · rw [z]; exact pG
        · rw [List.mem_singleton.mp z]; exact ⟨e2, pS.2.1, pS.2.2.1, pS.2.2.2.1, fun v q => by cases q⟩) rfl (allBare_setGen (s := { s1 with heap := s1.heap.update S (Obj.mapSeq (·.push v)) }) I1.bare rfl) fun _ _ q => q) (keep _ _ _ st fun b hb o q => (Heap.get?_update_other _ _ (Ne.symm (hSf b hb))).trans q)
      cases hm
      exact z
    · obtain ⟨acc, c, rfl, rv⟩ := hac
      exact wpAny_pure (yes σ H ys acc c s1 I rv q)
end
section
variable {X : Cx} {pins : List (Addr × Obj)} {σ : L2.St} {s5 : Shared} {J : It} {g : TG} {tt : TT} {te : TE} {vs : List Nat} {H4 : Hp} {u : Value}
/-- all that a generator hands out, in a list of the asker's own -/
theorem collect_gx {A : Around} {E : Value → Shared → Prop} {Q : List Value → Shared → Prop} {End : List V → Hp → Prop} {W : Nat → Nat → List V → Hp → Prop} {m : Nat} (hh : A.handled = none) (hroom : A.depth < recursionLimit) (G : Gx X pins σ A.in1.in1 J g tt te vs H4 u s5)
    (w0 : W 0 m [] H4) (turn : tGx J g tt te (wipe σ vs) vs End YdL W)
    (hQ : ∀ (s' : Shared) (acc : Array Value) (ys : List V) (H' : Hp), Inv X pins σ H' s' → Vals ys acc.toList → End ys H' → Q acc.toList s') : wpAny (model X.prog X.w) A (collect u) Q E s5 := by
  obtain ⟨A', s_0, H_0, cenv, fp, ga, gn, go, tn, gs, rfl, hGO, hgs, hbare, I5, st5, nf, hlt, keep, back, goes⟩ := G
  have pin5 := I5.pin (ga, go) (List.mem_append_right _ List.mem_cons_self)
  have glt : ga < s5.heap.objs.size := Heap.lt_size pin5.1
  have hSI : s5.heap.objs.size ≠ ga := Nat.ne_of_gt glt
  unfold collect
  refine wpAny_bind (wpAny_runValue (codeAny_builtin F.entry_proto_collect ?_))
  rw [Around.under_plainId F.plain_proto_collect _]
  show wpAny _ A.in1 (newList [] >>= fun l => again (.builtin "list.__iadd__" ⟨[l, .ref ga], []⟩)) _ _ s5
  refine wpAny_bind (wpAny_newObj_type ?_)
  refine wpAny_pure ⟨plainId_quiet F.plain_list_iadd _, codeAny_builtin F.entry_list_iadd ?_⟩
  rw [Around.under_plainId F.plain_list_iadd _]
  show wpAny _ A.in1 (Builtin.List.listExtendWith (.ref s5.heap.objs.size) (.ref ga) (.ref s5.heap.objs.size)) _ _ _
  unfold Builtin.List.listExtendWith
  have k1 : ∀ b o, s5.heap.get? b = some o → (s5.heap.push { cls := .type "list", data := .seq ([] : List Value).toArray }).get? b = some o := fun b o e => Heap.get?_push_of_some _ e
  have hT : Shared.TypeIs { s5 with heap := s5.heap.push { cls := .type "list", data := .seq ([] : List Value).toArray } } (.ref ga) "generator" := Heap.IsGen.typeIs (s := { s5 with heap := _ }) (hGO.isGen (k1 _ _ pin5.1))
  refine wpAny_bind (wpAny_typeOf hT ?_)
  have h1 : Builtin.List.listSameRef (.ref s5.heap.objs.size) (.ref ga) = false := by simp [Builtin.List.listSameRef, hSI]
  have h2 : (Value.type "generator" == Value.type "list") = false := by decide
  have h3 : (Value.type "generator" == Value.type "tuple") = false := by decide
  simp only [h1, h2, h3, Bool.or_false, Bool.false_eq_true, if_false]
  refine wpAny_bind (wpAny_pyIter_gen (s := { s5 with heap := _ }) (hGO.isGen (k1 _ _ pin5.1)) ?_)
  refine wpAny_bind (wpAny_holding ?_)
  unfold Builtin.List.listLengthHint
  refine wpAny_bind (wpAny_specialOf hT F.gen_no_len ?_)
  show wpAny _ A.in1 (specialOf (Value.ref ga) (Str.ofString "__length_hint__") >>= _) _ _ _
  refine wpAny_bind (wpAny_specialOf hT F.gen_no_hint ?_)
  refine wpAny_pure ?_
  show wpAny _ A.in1 (rule "list.extend.makes-room" >>= fun _ => Builtin.List.listTouch (.ref s5.heap.objs.size) >>= fun _ =>
    again (.builtin "list.extend.loop" ⟨[.ref s5.heap.objs.size, .ref ga, .ref s5.heap.objs.size], []⟩)) _ _ _
  refine wpAny_bind (wpAny_rule ?_)
  have hS₁ : (s5.heap.push { cls := .type "list", data := .seq ([] : List Value).toArray }).get? s5.heap.objs.size = some { cls := .type "list", data := .seq ([] : List Value).toArray } := Heap.get?_push_size _ rfl
  refine wpAny_bind ?_
  show wpAny _ A.in1 (updateSeq s5.heap.objs.size (·.push .none) >>= fun _ => updateSeq s5.heap.objs.size (·.pop)) _ _ _
  refine wpAny_bind (wpAny_updateSeq hS₁ rfl ?_)
  have hS₂ := Heap.get?_update_self (Obj.mapSeq (·.push Value.none)) hS₁ rfl
  refine wpAny_updateSeq hS₂ rfl ?_
  have hS₃ := Heap.get?_update_self (Obj.mapSeq (·.pop)) hS₂ rfl
  obtain ⟨c3, hS₄⟩ : ∃ c, (((s5.heap.push { cls := .type "list", data := .seq ([] : List Value).toArray }).update s5.heap.objs.size (Obj.mapSeq (·.push Value.none))).update s5.heap.objs.size (Obj.mapSeq (·.pop))).get? s5.heap.objs.size = some (lstObj #[] c) := ⟨_, hS₃⟩
  have k3 : ∀ b o, s5.heap.get? b = some o → (((s5.heap.push { cls := .type "list", data := .seq ([] : List Value).toArray }).update s5.heap.objs.size (Obj.mapSeq (·.push Value.none))).update s5.heap.objs.size (Obj.mapSeq (·.pop))).get? b = some o :=
    fun b o e => (Heap.get?_update_other _ _ (Ne.symm (Nat.ne_of_lt (Heap.lt_size e)))).trans ((Heap.get?_update_other _ _ (Ne.symm (Nat.ne_of_lt (Heap.lt_size e)))).trans (k1 b o e))
  have fS : FpOk (gblk X A' s_0 H_0 cenv fp) [(ga, go)] H4 s5.heap.objs.size := I5.fpOk (Nat.le_refl _) (I5.hok.fresh (Nat.le_refl _))
  have hfS : ∀ b ∈ fp, b ≠ s5.heap.objs.size := fun b hb => Nat.ne_of_lt (Nat.lt_trans (hlt b hb) glt)
  have I6 := inv_moved (s' := { s5 with heap := ((s5.heap.push { cls := .type "list", data := .seq ([] : List Value).toArray }).update s5.heap.objs.size (Obj.mapSeq (·.push Value.none))).update s5.heap.objs.size (Obj.mapSeq (·.pop)) }) I5 rfl I5.bare k3
  refine wpAny_pure ⟨plainId_quiet F.plain_extend_loop _, ext_gx (A := A) (A' := A') (s_0 := s_0) (H_0 := H_0) (cenv := cenv) (fp := fp) (tn := tn) (go := go) (gn := gn) (End := End) hh hroom hGO hSI ?_ fS.2.2.2.2.1 keep hfS
    (fun σ' H' ys acc c s1 I1 rv q => ?_) (m + 1) _ I6.nolimit (k3 _ _ pin5.1) ⟨gs, hgs, ?_⟩⟩
  · exact Nat.le_trans I5.sz (Nat.le_refl _)
  · show wpAny _ A (load s5.heap.objs.size >>= _) _ _ s1
    have pS := (I1.pin (s5.heap.objs.size, lstObj acc c) (List.mem_append_right _ (List.mem_cons_of_mem _ List.mem_cons_self))).1
    refine wpAny_bind (wpAny_load pS ?_)
    exact wpAny_pure (hQ s1 acc ys H' (back _ _ _ _ I1) rv q)
  · refine goes (List V) (ACl ga go s5.heap.objs.size) End YdL W m (m + 1) [] [(ga, go), (s5.heap.objs.size, lstObj #[] c3)] _ turn w0 (Nat.lt_succ_self _) (fun ys cp hac p hp b hb z => ?_) ⟨#[], c3, rfl, .nil⟩
      (inv_moved (I6.pins_of fun p hp => ?_) rfl (allBare_setGen (s := { s5 with heap := _ }) I5.bare rfl) fun _ _ q => q) (keep _ _ _ st5 fun b hb o q => k3 b o q)
    · obtain ⟨acc, c, rfl, _⟩ := hac
      rcases List.mem_cons.mp hp with e | e
      · rw [e] at z
        exact absurd (hlt b hb) (by rw [← z]; exact Nat.lt_irrefl _)
      · rw [List.mem_singleton.mp e] at z
        exact hfS b hb z.symm
    · rcases List.mem_cons.mp hp with e | e
      · rw [e]
        exact I6.pin (ga, go) (List.mem_append_right _ List.mem_cons_self)
      · rw [List.mem_singleton.mp e]
        exact ⟨hS₄, fS.1, fS.2.1, fS.2.2.1, fun v q => by cases q⟩
end
section
variable {X : Cx}
/-- tuple(elt for tg in iter ..) -/
def tTupX (P : Addr) (wi : TI) (g : TG) (tt : TT) (te : TE) (vs : List Nat) : TE := fun σ H Q => wi σ H fun J H1 => GxR.TabG H1 P ∧ ∀ H2, GxR.Tabbed P H1 H2 → ∃ W : Nat → Nat → List V → Hp → Prop, (∃ m, W 0 m [] H2) ∧
  tGx J g tt te (wipe σ vs) vs (fun ys H => ys.length ≤ sizeLine ∧ ∀ p, H p = none → Q (.ref p) (upd H p (.tup ys))) YdL W
theorem pe_tupX {c P : Addr} {elt tg iter : Expr} {ifs : List Expr} {p pos gpos : Pos} {scope : Scope} {own : List (Str × Nat)} {wi : TI} {g : TG} {tt : TT} {te : TE} {k : Nat}
    (hr : Room (k + 1) X.A) (hc : X.calm = true) (hN : X.N.Nodup) (hgl : Gl X "tuple") (hm : X.mg "tuple" = none) (hb : bootBuiltins "tuple" = some (.type "tuple")) (TB : GxR.TabB X.base X.mg c P) (hcode : X.env.code = .ref c)
    (hco : scope.isCoroutine = false) (hdot : scope.names.lookup (".0" : Str) = some NameKind.local) (nocell : ∀ y ∈ scope.names, y.2 ≠ .cell) (ok : BlkOk X.N X.env.scope scope own) (hi : PI X tg iter wi)
    (hg : ∀ (A' : Around) (s : Shared) (H : Hp) (C : Addr) (cl : List (Str × Addr)) (code : Value) (fp : List Addr), Room k A' → A'.guards = X.A.guards → PG (gblk X A' s H (genEnv scope cl C code builtinsNs X.env) fp) tg g)
    (ht : ∀ (A' : Around) (s : Shared) (H : Hp) (C : Addr) (cl : List (Str × Addr)) (code : Value) (fp : List Addr), Room k A' → A'.guards = X.A.guards → PTs (gblk X A' s H (genEnv scope cl C code builtinsNs X.env) fp) ifs tt)
    (he : ∀ (A' : Around) (s : Shared) (H : Hp) (C : Addr) (cl : List (Str × Addr)) (code : Value) (fp : List Addr), Room k A' → A'.guards = X.A.guards → PE (gblk X A' s H (genEnv scope cl C code builtinsNs X.env) fp) elt te)
    (hs : ∀ v, genFold iter X.env v = pure v)
    (hst : starEach [.GeneratorExp elt [⟨tg, iter, ifs, 0⟩] scope gpos] X.env = (false, eval (.GeneratorExp elt [⟨tg, iter, ifs, 0⟩] scope gpos) X.env) :: starEach [] X.env := by rfl) :
    PE X (.Call (.Name "tuple" p) [.GeneratorExp elt [⟨tg, iter, ifs, 0⟩] scope gpos] [] pos) (tTupX P wi g tt te (own.map (·.2))) := by
  refine ⟨fun pins s σ H Q I h => ?_⟩
  refine wpAny_Call_Name_kw (ld_blt I hgl hm hb ?_)
  refine PyProof.Rows.callWith_type1 ?_ hst (by rfl)
  rw [hst]
  show wpAny _ _ (spliced ((false, eval (.GeneratorExp elt [⟨tg, iter, ifs, 0⟩] scope gpos) X.env) :: backTo pos (starEach [] X.env))) _ _ s
  refine Calls.spliced_cons (gx_make (A := X.A.in1.in1.in1.in1) hr ⟨rfl, rfl, rfl, rfl, (by show X.A.units + 1 + 1 + 1 + 1 ≤ _; omega)⟩ hc hN TB hcode hco hdot nocell ok hi hg ht he hs I h fun J H1 H2 u s5 hR hT hG => ?_)
  obtain ⟨W, ⟨m, w0⟩, turn⟩ := hR H2 hT
  refine Calls.spliced_nil ?_
  have ⟨A', s_0, H_0, cenv, fp, ga, gn, go, tn, gs, eu, hGO, hgs, hbare, I5, st5, nf, hlt, keep, back, goes⟩ := hG
  have pin5 := (I5.pin (ga, go) (List.mem_append_right _ List.mem_cons_self)).1
  rw [eu] at hG ⊢
  refine callType_codes (Q₁ := fun obj s₁ => s₁.TypeIs obj "tuple" ∧ EP X pins σ Q obj s₁) F.called_tuple (F.typeCall_tuple_1 _) F.entry_object_init ?_ fun obj s₁ h₁ =>
    ⟨h₁.1, F.args_object_init_2 obj _, object_init_meets F.called_tuple.init.lookup F.called_tuple.made (by decide) X.prog X.w X.A.in1 _ s₁ ⟨h₁.1, rfl, h₁.2⟩⟩
  refine codeAny_of_tree ?_
  show wpAny _ X.A.in1.in1 (do checkBuiltinCall "tuple.__new__" ⟨[.type "tuple", .ref ga], []⟩; again (.builtin "tuple.__new__" ⟨[.type "tuple", .ref ga], []⟩)) _ _ s5
  refine wpAny_bind (wpAny_of_eq (F.newCall_tuple_1 _) (wpAny_pure ⟨plainId_quiet F.plain_tuple_new _, codeAny_builtin F.entry_tuple_new ?_⟩))
  rw [Around.under_plainId F.plain_tuple_new _]
  have hsub := sub_tuple_self
  have hinit := init_tuple_lookup
  have hmh := madeHere_tuple
  have hTI : s5.TypeIs (.ref ga) "generator" := (hGO.isGen pin5).typeIs
  have col : ∀ {Q0 : List Value → Shared → Prop} {E0 : Value → Shared → Prop}, (∀ (s' : Shared) (acc : Array Value), (∃ (ys : List V) (H' : Hp), Inv X pins σ H' s' ∧ Vals ys acc.toList ∧ ys.length ≤ sizeLine ∧ ∀ p, H' p = none → Q (.ref p) (upd H' p (.tup ys))) → Q0 acc.toList s') →
      wpAny (model X.prog X.w) X.A.in1.in1 (collect (.ref ga)) Q0 E0 s5 := fun hq => collect_gx hr.hd hr.depth hG w0 turn (fun s' acc ys H' I' rv q => hq s' acc ⟨ys, H', I', rv, q.1, q.2⟩)
  wp_walk using wpAny_typeOf hTI, col
  rintro s' acc ⟨ys, H', I', rv, small, q⟩
  show wpAny _ _ (Builtin.Tuple.tupleExact acc.toList.toArray >>= fun v => ret v) _ _ _
  unfold Builtin.Tuple.tupleExact
  refine wpAny_bind (wpAny_newObj_type ?_ (by show acc.toList.toArray.size ≤ sizeLine; rw [List.size_toArray, ← rv.length]; exact small))
  refine wpAny_pure ?_
  have free : H' s'.heap.objs.size = none := I'.hok.fresh (Nat.le_refl _)
  refine ⟨⟨_, Heap.get?_push_size _ rfl, rfl⟩, .ref s'.heap.objs.size, upd H' s'.heap.objs.size (.tup ys), I'.laid (t' := s'.toks) (fun b u z => Heap.get?_push_of_some _ z) (Nat.le_refl _) ⟨small, acc.toList, rv, ?_⟩, rfl, q _ free⟩
  exact ⟨_, Heap.get?_push_size _ rfl, rfl, 0, rfl⟩
end
/-! ### a def by its body, its code object known -/
theorem okC {P : Program} {w : World} {K : PySem.W.Frag} {mg : Str → Option Value} {base : Heap} {x qual : Str} {st : Stmt} {f : Addr} {fd : FuncData} {N ps : List Str} {k : Nat} {sp : Sp} (F : Fun K x qual st f fd) (S : FnScope N ps (defScope st)) (len : ∀ vs H Q E, sp vs H Q E → vs.length = ps.length)
    (body : ∀ (A : Around) (outer : List Env) (s : Shared) (H : Hp) (vs : List V) (Q : VK) (E : XK), Room k (A.deeper (envOfC qual (defScope st) s.heap.objs.size f fd.code)) → sp vs H Q E →
      ∃ t, PSs (cxOf CX0 P w K mg base N qual (defScope st) f fd.code A outer s H E).nox (defBody st) t ∧ t { nx := fun _ H' => Q .non H', rt := Q } (start N vs) H) : FnOk P w K mg base CX0 (k + 1) f fd ps sp := by
  obtain ⟨oc, od, kV, doc, pm, an, cdv, ct, osl, rfl, lk, hcd⟩ := F.ex
  refine fn_of lk hcd S len fun A outer s H vs Q E hr hsp => ?_
  obtain ⟨t, h, q⟩ := body A outer s H vs Q E hr hsp
  exact ⟨t, h.nox, q⟩
/-! ### from the head's facts -/
theorem fun_of {K : PySem.W.Frag} {x qual : Str} {st : Stmt} {f : Addr} {fd : FuncData} (F : FunD K x qual (defArgs st) (defBody st) (defScope st) [] [] f fd) : Fun K x qual st f fd := by
  obtain ⟨oc, od, dV, kV, doc, pm, an, cdv, ct, osl, rfl, lk, hcd, hd, _⟩ := F.ex
  rcases hd with ⟨_, rfl⟩ | ⟨z, _⟩
  · exact ⟨⟨oc, od, kV, doc, pm, an, cdv, ct, osl, rfl, lk, hcd⟩, F.kp⟩
  · exact absurd rfl z
theorem code_of {K : PySem.W.Frag} {x qual : Str} {st : Stmt} {p : He.Defn} {fd : FuncData} (F : Fun K x qual st (He.fAd K p) fd) : fd.code = .ref (He.cT K p).1 := by
  obtain ⟨oc, od, kV, doc, pm, an, cdv, ct, osl, rfl, lk, hcd⟩ := F.ex
  obtain ⟨c, rfl⟩ := He.codeIn_ref hcd
  show Value.ref c = Value.ref (He.codeOf K p)
  rw [He.codeOf_eq lk rfl]
theorem tab_of {base : Heap} {mg : Str → Option Value} {c P : Addr} (h : LamX.TabB base mg c P) : GxR.TabB base mg c P := ⟨h.code, h.bm, h.gP⟩
/-! ### heaps whose tables grow -/
def Tabs (H : Hp) (Ps : List Addr) : Prop := ∀ P ∈ Ps, GxR.TabG H P
/-- what is no table stays; tables stay tables -/
def Gr (H H' : Hp) : Prop := (∀ b o, (∀ ps, o ≠ HO.tbl ps) → H b = some o → H' b = some o) ∧ ∀ b, GxR.TabG H b → GxR.TabG H' b
theorem Gr.refl {H : Hp} : Gr H H := ⟨fun _ _ _ e => e, fun _ e => e⟩
theorem Gr.trans {H H1 H2 : Hp} (a : Gr H H1) (b : Gr H1 H2) : Gr H H2 := ⟨fun c o n e => b.1 c o n (a.1 c o n e), fun c e => b.2 c (a.2 c e)⟩
theorem Gr.of {H H' : Hp} (h : ∀ b o, H b = some o → H' b = some o) : Gr H H' := ⟨fun b o _ e => h b o e, fun b ⟨ps, e, t⟩ => ⟨ps, h _ _ e, t⟩⟩
theorem Gr.tab {P : Addr} {H H' : Hp} (t : GxR.TabG H P) (h : GxR.Tabbed P H H') : Gr H H' := by
  obtain ⟨ps, e, _⟩ := t
  refine ⟨fun b o n q => ?_, fun b q => ?_⟩
  · by_cases hb : b = P
    · rw [hb, e] at q
      exact absurd (Option.some.inj q).symm (n ps)
    · rw [h.2 b hb]; exact q
  · by_cases hb : b = P
    · rw [hb]; exact h.1
    · obtain ⟨ps', e', t'⟩ := q
      exact ⟨ps', by rw [h.2 b hb]; exact e', t'⟩
theorem Gr.tup {H H' : Hp} (g : Gr H H') {a : Addr} {xs : List V} (h : H a = some (.tup xs)) : H' a = some (.tup xs) := g.1 a _ (fun _ z => by cases z) h
theorem Gr.lst {H H' : Hp} (g : Gr H H') {a : Addr} {xs : List V} (h : H a = some (.lst xs)) : H' a = some (.lst xs) := g.1 a _ (fun _ z => by cases z) h
theorem Gr.tabs {H H' : Hp} (g : Gr H H') {Ps : List Addr} (h : Tabs H Ps) : Tabs H' Ps := fun P hP => g.2 P (h P hP)
theorem Gr.none {H : Hp} {a : Addr} {o : HO} (n : H a = Option.none) : Gr H (upd H a o) := Gr.of fun b u e => by
  rw [upd_ne (ne_of_none e n)]
  exact e
namespace CwR
/-- behind it a token is out -/
def PEp (X : Cx) (e : Expr) (t : TE) : Prop := ∀ (pins : List (Addr × Obj)) (s : Shared) (σ : L2.St) (H : Hp) (Q : VK), Inv X pins σ H s → t σ H Q → wpAny (model X.prog X.w) X.A (eval e X.env) (fun u s' => 1 ≤ s'.toks ∧ EP X pins σ Q u s') X.xe s
theorem pep_ix {X : Cx} {a : Expr} {i : Int} {j : Nat} {p pos : Pos} {ta : TE} {r : R2} (hr : IxR X r) (ha : PE X a ta) (hs : PlainIx (.Constant (.int i) j p)) : PEp X (.Subscript a (.Constant (.int i) j p) pos) (tOp r ta (tC (.int i))) := by
  intro pins s σ H Q I h
  refine Subscript_ (thn (ha.run pins s σ H _ I h) fun v s1 ⟨x, H1, I1, r1, q1⟩ => wpAny_Constant_int ?_)
  refine wpAny_mono (PySem.wpAny_toks (hr a _ pins { s1 with toks := s1.toks + 1 } σ H1 x (.int i) v (.int i s1.toks) Q (I1.tok _) r1 ⟨_, rfl⟩ q1 (hs _ _))) (fun u s2 q => ⟨?_, q.2⟩) fun _ _ z => z.2
  have h1 : s1.toks + 1 ≤ s2.toks := q.1
  omega
theorem pep_repl {X : Cx} {o : Expr} {to : TE} {y z : Str} {j k : Nat} {c0 c1 apos pos : Pos} (ho : PEp X o to) (hyz : (y == z) = false := by decide)
    (hst : starEach [.Constant (.str y) j c0, .Constant (.str z) k c1] X.env = [(false, eval (.Constant (.str y) j c0) X.env), (false, eval (.Constant (.str z) k c1) X.env)] := by rfl)
    (hbase : attributeBase o "replace" X.env (eval o X.env) = eval o X.env := by rfl) (hline : (apos.endLine == pos.line) = true := by rfl) :
    PEp X (.Call (.Attribute o "replace" apos) [.Constant (.str y) j c0, .Constant (.str z) k c1] [] pos) (CwR.tReplC to y z) := by
  intro pins s σ H Q I h
  refine PySem.Call_method2 hbase hst hline (wpAny_mono (ho pins s σ H _ I h) (fun v s1 q => ?_) fun _ _ z => z)
  obtain ⟨hk, v', H1, I1, r1, x, e1, hb, q⟩ := q
  subst e1
  obtain ⟨tx, e2⟩ := r1
  subst e2
  refine ⟨"str", _, PySem.F.plainAttrs_str, PySem.F.slot_str_replace, PySem.F.type_str_replace, typeIs_str _ _ _, (fun _ e => nomatch e), Calls.callWith_builtin rfl (Calls.evalArgs_plain (Calls.spliced_cons ?_))⟩
  refine Calls.Constant_str (Calls.spliced_cons (Calls.Constant_str (Calls.spliced_nil ?_)))
  refine wpAny_mono (PySem.wpAny_toks (PySem.SC.replace (Q := fun u s' => EP X pins σ Q u s') (by show s1.toks ≠ 0; omega) (by show s1.toks + 1 ≠ 0; omega) (by show s1.toks ≠ s1.toks + 1; omega) hyz hb fun t' k => ⟨.str (Txt.replace x y z), H1, I1.tok k, ⟨t', rfl⟩, q⟩)) (fun u s2 q => ⟨?_, q.2⟩) fun _ _ z => z.2
  have h1 : s1.toks + 1 + 1 ≤ s2.toks := q.1
  omega
theorem pe_replP {X : Cx} {e : Expr} {t : TE} (h : PEp X e t) : PE X e t := ⟨fun pins s σ H Q I q => wpAny_mono (h pins s σ H Q I q) (fun _ _ z => z.2) fun _ _ z => z⟩
end CwR

/-! ### heaps -/
theorem same_upd {H : Hp} {p : Addr} {o : HO} (h : H p = none) : Same H (upd H p o) := fun b x e => by
  rw [upd_ne (ne_of_none e h)]
  exact e
def Fr (d l : Addr) (H H' : Hp) : Prop := ∀ b o, b ≠ d → b ≠ l → H b = some o → H' b = some o
theorem Fr.trans {d l : Addr} {H H1 H2 : Hp} (a : Fr d l H H1) (b : Fr d l H1 H2) : Fr d l H H2 := fun c o h1 h2 h => b c o h1 h2 (a c o h1 h2 h)
theorem Fr.refl {d l : Addr} {H : Hp} : Fr d l H H := fun _ _ _ _ h => h
theorem Fr.new {d l p : Addr} {H : Hp} {o : HO} (h : H p = none) : Fr d l H (upd H p o) := fun b x _ _ e => same_upd h b x e
theorem Fr.of {d l : Addr} {H H' : Hp} (h : Same H H') : Fr d l H H' := fun b x _ _ e => h b x e
theorem Fr.d {d l : Addr} {H : Hp} {o : HO} : Fr d l H (upd H d o) := fun b x h1 _ e => by rw [upd_ne h1]; exact e
theorem Fr.l {d l : Addr} {H : Hp} {o : HO} : Fr d l H (upd H l o) := fun b x _ h2 e => by rw [upd_ne h2]; exact e
def Deck (H : Hp) (d l : Addr) : Prop := d ≠ l ∧ ∃ (cs : List Int) (z : Int), H d = some (.lst [.ref l, .int z]) ∧ H l = some (.lst (cs.map V.int)) ∧ cs.length ≤ 63 ∧ 0 ≤ z ∧ z < 4294967296
theorem Deck.same {H H' : Hp} {d l : Addr} (D : Deck H d l) (s : Same H H') : Deck H' d l := by
  obtain ⟨ne, cs, z, hd, hl, r⟩ := D
  exact ⟨ne, cs, z, s _ _ hd, s _ _ hl, r⟩
theorem Deck.new {H : Hp} {d l p : Addr} {o : HO} (D : Deck H d l) (h : H p = none) : Deck (upd H p o) d l := D.same (same_upd h)
theorem Deck.ne_new {H : Hp} {d l p : Addr} (D : Deck H d l) (h : H p = none) : p ≠ d ∧ p ≠ l := by
  obtain ⟨ne, cs, z, hd, hl, r⟩ := D
  exact ⟨(ne_of_none hd h).symm, (ne_of_none hl h).symm⟩
theorem p29 : (0 : Int) < 2147483629 := by decide
theorem p47 : (0 : Int) < 2147483647 := by decide
theorem p87 : (0 : Int) < 2147483587 := by decide
theorem sl1 : 1 ≤ sizeLine := by decide
theorem sl2 : 2 ≤ sizeLine := by decide
theorem sl3 : 3 ≤ sizeLine := by decide
theorem sl4 : 4 ≤ sizeLine := by decide
theorem seqIx0 {α : Type} (x : α) (xs : List α) : seqIndex? 0 (x :: xs).length = some 0 := by
  refine (ixN_seq (n := (x :: xs).length) (i := 0) (j := 0) ?_).1
  unfold ixN
  rw [if_pos (by decide), if_pos (by rw [List.length_cons]; omega)]
  rfl
theorem dpInts {K : PySem.W.Frag} {H : Hp} : ∀ cs : List Int, DpAll K H (cs.map V.int) (cs.map PyData.int)
  | [] => .nil
  | c :: r => .cons (.int c) (dpInts r)
theorem shInts (ns : List Int) : SeqAt.shaped (.list (ns.map PyData.int)) = true := by
  unfold SeqAt.shaped
  rw [Bool.and_eq_true]
  refine ⟨?_, ?_⟩
  · simp only [PyData.canLay0, canLayAll_ints]
  · simp only [PyData.depth, depthAll_ints]
    decide
theorem at_pick {xs : List V} {j : Int} (h0 : 0 ≤ j) (h1 : j < xs.length) : ∃ x, atI xs j = some x ∧ x ∈ xs := by
  obtain ⟨k, rfl⟩ : ∃ k : Nat, j = (k : Int) := ⟨j.toNat, (Int.toNat_of_nonneg h0).symm⟩
  have hk : k < xs.length := by omega
  exact ⟨xs[k], atI_nat (List.getElem?_eq_getElem hk), List.getElem_mem hk⟩
theorem units65 {k : Nat} {A : Around} (r : Room k A) : A.units + 65 < cLine := by have := r.un; omega
def rLenK (K : PySem.W.Frag) : List V → Hp → VK → Prop := fun xs H Q => ∃ p ys, xs = [.ref p] ∧ (SqL K H p ys ∨ SqT K H p ys) ∧ Q (.int ys.length) H
def rTupK (K : PySem.W.Frag) : List V → Hp → VK → Prop := fun xs H Q => ∃ p ys, xs = [.ref p] ∧ ((SqL K H p ys ∧ ∀ l, H l = none → Q (.ref l) (upd H l (.tup ys))) ∨ (SqT K H p ys ∧ Q (.ref p) H))
def rLstK (K : PySem.W.Frag) : List V → Hp → VK → Prop := fun xs H Q => ∃ p ys, xs = [.ref p] ∧ (SqL K H p ys ∨ SqT K H p ys) ∧ ∀ l, H l = none → Q (.ref l) (upd H l (.lst ys))
/-- joining ways behind a test, behind an expression -/
def tCutT (t : TT) : TT := fun σ H Q => ∃ Mid : Bool → Hp → Prop, t σ H Mid ∧ ∀ b H1, Mid b H1 → Q b H1
theorem pt_cut {X : Cx} {e : Expr} {t : TT} (h : PT X e t) : PT X e (tCutT t) := ⟨fun pins s σ H Q I hw => by
  obtain ⟨Mid, h1, q⟩ := hw
  exact thn (h.run pins s σ H _ I h1) fun c s1 ⟨H1, I1, m⟩ => ⟨H1, I1, q _ _ m⟩⟩
def tCutE (t : TE) : TE := fun σ H Q => ∃ Mid : VK, t σ H Mid ∧ ∀ v H1, Mid v H1 → Q v H1
theorem pe_cut {X : Cx} {e : Expr} {t : TE} (h : PE X e t) : PE X e (tCutE t) := ⟨fun pins s σ H Q I hw => by
  obtain ⟨Mid, h1, q⟩ := hw
  exact thn (h.run pins s σ H _ I h1) fun u s1 ⟨v, H1, I1, r, m⟩ => ⟨v, H1, I1, r, q _ _ m⟩⟩

/-! ### data made by the law or the program: numbers, truths, texts, lists and tuples of these -/
mutual
inductive Tk (H : Hp) : V → PyData → Prop
  | bl (b : Bool) : Tk H (.bl b) (.bool b)
  | int (i : Int) : Tk H (.int i) (.int i)
  | str (x : Str) : Tk H (.str x) (.str x)
  | lst {a : Addr} {xs : List V} {ds : List PyData} : H a = some (.lst xs) → TkAll H xs ds → Tk H (.ref a) (.list ds)
  | tup {a : Addr} {xs : List V} {ds : List PyData} : H a = some (.tup xs) → TkAll H xs ds → Tk H (.ref a) (.tuple ds)
inductive TkAll (H : Hp) : List V → List PyData → Prop
  | nil : TkAll H [] []
  | cons {v : V} {vs : List V} {d : PyData} {ds : List PyData} : Tk H v d → TkAll H vs ds → TkAll H (v :: vs) (d :: ds)
end
theorem TkAll.length {H : Hp} : ∀ {vs : List V} {ds : List PyData}, TkAll H vs ds → vs.length = ds.length
  | _, _, .nil => rfl
  | _, _, .cons _ t => by rw [List.length_cons, List.length_cons, t.length]
mutual
theorem Tk.same {H H' : Hp} (s : Same H H') : ∀ {v : V} {d : PyData}, Tk H v d → Tk H' v d
  | _, _, .bl b => .bl b
  | _, _, .int i => .int i
  | _, _, .str x => .str x
  | _, _, .lst h t => .lst (s _ _ h) (t.same s)
  | _, _, .tup h t => .tup (s _ _ h) (t.same s)
theorem TkAll.same {H H' : Hp} (s : Same H H') : ∀ {vs : List V} {ds : List PyData}, TkAll H vs ds → TkAll H' vs ds
  | _, _, .nil => .nil
  | _, _, .cons h t => .cons (h.same s) (t.same s)
end
theorem TkAll.get {H : Hp} : ∀ {xs : List V} {ds : List PyData} {j : Nat} {x : V}, TkAll H xs ds → xs[j]? = some x → ∃ d, ds[j]? = some d ∧ Tk H x d
  | _, _, _, _, .nil, h => by simp at h
  | _, _, 0, _, .cons (d := d) a _, h => by
    cases (Option.some.inj h)
    exact ⟨d, rfl, a⟩
  | _, _, j + 1, _, .cons _ t, h => t.get h
theorem TkAll.append {H : Hp} : ∀ {xs ys : List V} {ds es : List PyData}, TkAll H xs ds → TkAll H ys es → TkAll H (xs ++ ys) (ds ++ es)
  | _, _, _, _, .nil, t => t
  | _, _, _, _, .cons a r, t => .cons a (r.append t)
theorem TkAll.ints {H : Hp} : ∀ ns : List Int, TkAll H (ns.map V.int) (ns.map PyData.int)
  | [] => .nil
  | n :: r => .cons (.int n) (TkAll.ints r)
theorem Tk.int_inv {H : Hp} {v : V} {i : Int} (h : Tk H v (.int i)) : v = .int i := by cases h; rfl
theorem Tk.tup_inv {H : Hp} {v : V} {ds : List PyData} (h : Tk H v (.tuple ds)) : ∃ a xs, v = .ref a ∧ H a = some (.tup xs) ∧ TkAll H xs ds := by
  cases h with
  | tup h t => exact ⟨_, _, rfl, h, t⟩
theorem Tk.lst_inv {H : Hp} {v : V} {ds : List PyData} (h : Tk H v (.list ds)) : ∃ a xs, v = .ref a ∧ H a = some (.lst xs) ∧ TkAll H xs ds := by
  cases h with
  | lst h t => exact ⟨_, _, rfl, h, t⟩
theorem TkAll.int_inv {H : Hp} : ∀ {vs : List V} {ns : List Int}, TkAll H vs (ns.map PyData.int) → vs = ns.map V.int
  | _, [], .nil => rfl
  | _, n :: r, .cons h t => by rw [List.map_cons, h.int_inv, t.int_inv]
/-- heaps without one place -/
def hd1 (p : Addr) (H : Hp) : Hp := fun b => if b = p then none else H b
theorem hd1_le {p : Addr} {H : Hp} : Same (hd1 p H) H := fun b o e => by
  unfold hd1 at e
  by_cases h : b = p
  · rw [if_pos h] at e; cases e
  · rw [if_neg h] at e; exact e
theorem hd1_same {p : Addr} {H H' : Hp} (s : Same H H') : Same (hd1 p H) (hd1 p H') := fun b o e => by
  unfold hd1 at e ⊢
  by_cases h : b = p
  · rw [if_pos h] at e; cases e
  · rw [if_neg h] at e ⊢; exact s _ _ e
theorem hd1_upd {p : Addr} {H : Hp} {o : HO} : Same (hd1 p H) (hd1 p (upd H p o)) := fun b x e => by
  unfold hd1 at e ⊢
  by_cases h : b = p
  · rw [if_pos h] at e; cases e
  · rw [if_neg h] at e ⊢; rw [upd_ne h]; exact e
theorem hd1_at {p b : Addr} {H : Hp} (h : b ≠ p) : hd1 p H b = H b := if_neg h
theorem hd1_of {p : Addr} {H H' : Hp} (s : Same H H') (n : H p = none) : Same H (hd1 p H') := fun b o e => by
  rw [hd1_at (ne_of_none e n)]
  exact s _ _ e
theorem same_of_hd1 {p : Addr} {H H' : Hp} {o : HO} (s : Same H (hd1 p H')) : Same H (upd H' p o) := fun b x e => by
  have z := s b x e
  unfold hd1 at z
  by_cases h : b = p
  · rw [if_pos h] at z; cases z
  · rw [if_neg h] at z; rw [upd_ne h]; exact z

/-! ### tables and gates -/
def tabOf (bs : List Bool) : Str := ⟨(bs.map fun b => if b = true then 49 else 48).toArray⟩
def plc (ws : List Int) : Int := ws.foldl (fun p w => 2 * p + w) 0
def gateM (bs : List Bool) (ws : List Int) : Int := if bs.getD (plc ws).toNat false = true then 1 else 0
theorem plc_snoc (ws : List Int) (w : Int) : plc (ws ++ [w]) = 2 * plc ws + w := by
  unfold plc
  rw [List.foldl_append]
  rfl
theorem plc_take {ws : List Int} {i : Nat} {u : Int} (h : ws[i]? = some u) : plc (ws.take (i + 1)) = 2 * plc (ws.take i) + u := by
  rw [List.take_add_one, h]
  exact plc_snoc _ _
theorem plc_bd : ∀ (n : Nat) (ws : List Int), ws.length = n → (∀ w ∈ ws, w = 0 ∨ w = 1) → 0 ≤ plc ws ∧ plc ws < 2 ^ n := by
  intro n
  induction n with
  | zero =>
    intro ws h _
    cases List.eq_nil_of_length_eq_zero h
    decide
  | succ n ih =>
    intro ws h hw
    have hne : ws ≠ [] := fun z => by rw [z] at h; cases h
    obtain ⟨r, x, rfl⟩ : ∃ r x, ws = r ++ [x] := ⟨ws.dropLast, ws.getLast hne, (List.dropLast_concat_getLast hne).symm⟩
    have hr := ih r (by rw [List.length_append] at h; simpa using h) fun w h' => hw w (List.mem_append_left _ h')
    have hx := hw x (by simp)
    rw [plc_snoc, Int.pow_succ]
    omega
theorem gate01 (bs : List Bool) (ws : List Int) : gateM bs ws = 0 ∨ gateM bs ws = 1 := by
  unfold gateM
  split
  · exact .inr rfl
  · exact .inl rfl
theorem int_sign (b : Bool) : PySem.intText? ⟨#[if b = true then 49 else 48]⟩ = some (if b = true then 1 else 0) := by
  cases b <;> decide +kernel
def spGate (K : PySem.W.Frag) : Sp := fun vs H Q _ => ∃ (bs : List Bool) (la : Addr) (ws : List Int), vs = [.str (tabOf bs), .ref la] ∧ SqL K H la (ws.map V.int) ∧ (∀ w ∈ ws, w = 0 ∨ w = 1) ∧ bs.length = 2 ^ ws.length ∧ ws.length ≤ 3 ∧ Q (.int (gateM bs ws)) H
theorem gate_read {bs : List Bool} {ws : List Int} (hw : ∀ w ∈ ws, w = 0 ∨ w = 1) (hb : bs.length = 2 ^ ws.length) (h3 : ws.length ≤ 3) : ∃ b : Bool, 0 ≤ plc ws ∧ plc ws < 2 ^ 63 ∧ plc ws < (tabOf bs).length ∧ (tabOf bs).cps[(plc ws).toNat]? = some (if b = true then 49 else 48) ∧ gateM bs ws = if b = true then 1 else 0 := by
  obtain ⟨p0, p1⟩ := plc_bd _ ws rfl hw
  have p8 : plc ws < 8 := by
    have : (2 : Int) ^ ws.length ≤ 8 := by
      have : ws.length = 0 ∨ ws.length = 1 ∨ ws.length = 2 ∨ ws.length = 3 := by omega
      rcases this with h | h | h | h <;> rw [h] <;> decide
    omega
  have hlt : (plc ws).toNat < bs.length := by
    have : ((2 ^ ws.length : Nat) : Int) = (2 : Int) ^ ws.length := by simp
    omega
  refine ⟨bs[(plc ws).toNat], p0, by omega, ?_, ?_, ?_⟩
  · have : (tabOf bs).length = bs.length := by simp [tabOf, Str.length]
    rw [this]
    omega
  · simp [tabOf, List.getElem?_eq_getElem hlt]
  · unfold gateM
    rw [List.getD_eq_getElem?_getD, List.getElem?_eq_getElem hlt]
    rfl

/-! ### walks -/
theorem gx_tup {α : Type} {K : PySem.W.Frag} {a : Addr} {xs : List V} {g : TG} {tt : TT} {te : TE} {vs : List Nat} {σ0 : L2.St} {End : α → Hp → Prop} {Yd : α → V → Hp → (α → Hp → Prop) → Prop} {a0 : α} {H0 : Hp} (Pv : Nat → α → Hp → Prop) (h0 : Pv 0 a0 H0)
    (hl : ∀ i c H, i ≤ xs.length → Pv i c H → SqT K H a xs)
    (hs : ∀ i x c H, xs[i]? = some x → Pv i c H → g x σ0 H fun σ2 H2 => wipe σ2 vs = σ0 ∧ tt σ2 H2 fun b H3 => if b = true then te σ2 H3 fun y H4 => Yd c y H4 (Pv (i + 1)) else Pv (i + 1) c H3) (hd : ∀ c H, Pv xs.length c H → End c H) :
    ∃ W : Nat → Nat → α → Hp → Prop, (∃ m, W 0 m a0 H0) ∧ tGx (Itt K a) g tt te σ0 vs End Yd W := by
  refine ⟨fun i m c H => m = xs.length - i ∧ i ≤ xs.length ∧ Pv i c H, ⟨xs.length, rfl, Nat.zero_le _, h0⟩, ?_⟩
  rintro i m c H ⟨rfl, hi, p⟩
  by_cases hlt : i < xs.length
  · have hx : xs[i]? = some xs[i] := List.getElem?_eq_getElem hlt
    refine .inr ⟨⟨xs, xs[i], hl i c H hi p, hx⟩, Pv (i + 1), fun c' H' p' => ⟨xs.length - (i + 1), by omega, rfl, hlt, p'⟩, fun x H' y => ?_⟩
    obtain ⟨rfl, y⟩ := y
    exact hs i x c _ (y xs (hl i c _ hi p)) p
  · have e : i = xs.length := by omega
    subst e
    exact .inl ⟨⟨xs, hl _ c H hi p, Nat.le_refl _⟩, hd c H p⟩
theorem lc_zipT {K : PySem.W.Frag} {a b : Addr} {xs ys : List V} {g : TG} {tt : TT} {te : TE} {vs : List Nat} {σ : L2.St} {H1 : Hp} {D : Addr} {Qd : Hp → Prop} (el : xs.length = ys.length) (Pv : Nat → Hp → Prop) (h0 : Pv 0 (upd H1 D (.lst []))) (hl : ∀ i H, i ≤ xs.length → Pv i H → SqT K H a xs ∧ SqT K H b ys)
    (hs : ∀ i x y T H, xs[i]? = some x → ys[i]? = some y → H T = none → Pv i H → g (.ref T) (wipe σ vs) (upd H T (.tup [x, y])) fun σ2 H2 => wipe σ2 vs = wipe σ vs ∧ tt σ2 H2 fun b H3 =>
      if b = true then te σ2 H3 fun y H4 => ∃ acc, H4 D = some (.lst acc) ∧ acc.length < sizeLine ∧ Pv (i + 1) (upd H4 D (.lst (acc ++ [y]))) else Pv (i + 1) H3) (hd : ∀ H, Pv xs.length H → Qd H) :
    ∃ W : Nat → Nat → Hp → Prop, (∃ m, W 0 m (upd H1 D (.lst []))) ∧ ∀ i m H, W i m H →
      ((RZ.ItzT K a b).stop i H ∧ Qd H) ∨ ((RZ.ItzT K a b).go i H ∧ ∃ Nx : Hp → Prop, (∀ H', Nx H' → ∃ m', m' < m ∧ W (i + 1) m' H') ∧ ∀ x H', (RZ.ItzT K a b).yld i H x H' → g x (wipe σ vs) H' fun σ2 H2 => wipe σ2 vs = wipe σ vs ∧ tt σ2 H2 fun b H3 =>
        if b = true then te σ2 H3 fun y H4 => ∃ acc, H4 D = some (.lst acc) ∧ acc.length < sizeLine ∧ Nx (upd H4 D (.lst (acc ++ [y]))) else Nx H3) := by
  refine ⟨fun i m H => m = xs.length - i ∧ i ≤ xs.length ∧ Pv i H, ⟨xs.length, by simp, Nat.zero_le _, h0⟩, ?_⟩
  rintro i m H ⟨rfl, hi, p⟩
  obtain ⟨qx, qy⟩ := hl i H hi p
  by_cases hlt : i < xs.length
  · have hx : xs[i]? = some xs[i] := List.getElem?_eq_getElem hlt
    have hy : ys[i]? = some (ys[i]'(by omega)) := List.getElem?_eq_getElem _
    refine .inr ⟨⟨xs, ys, _, _, qx, qy, hx, hy⟩, Pv (i + 1), fun H' p' => ⟨xs.length - (i + 1), by omega, rfl, hlt, p'⟩, fun x H' y => ?_⟩
    obtain ⟨T, x1, y1, rfl, nT, rfl, e1, e2⟩ := y
    exact hs i x1 y1 T H (e1 xs qx) (e2 ys qy) nT p
  · have e : i = xs.length := by omega
    subst e
    exact .inl ⟨⟨xs, ys, qx, qy, .inl (Nat.le_refl _)⟩, hd H p⟩

/-! ### enumerate(tuple) -/
theorem draws_tuple {P : Program} {w : World} {A : Around} (hA : A.handled = none) (it a : Addr) (items : Array Value) (hne : a ≠ it) : Draws P w A it [it, a] items.size (fun i v => items[i]? = some v) (fun i h => h.IsTupleIter it a i ∧ h.IsTuple a items) where
  live := fun _ _ st => let ⟨o, ho, _⟩ := st.1; ⟨o, ho⟩
  frame := fun _ _ _ st hk => ⟨st.1.at fun o e => hk it (by simp) o e, by
    obtain ⟨o, ho, r⟩ := st.2
    exact ⟨o, hk a (by simp) o ho, r⟩⟩
  item := fun i s Q E hi st hQ => by
    refine RZ.nextOf_tuple_item st.1 st.2 (x := items[i]) (by simp [hi]) fun h' hit' hs' => ?_
    refine hQ _ h' s.toks (by simp [hi]) ⟨hit', ?_⟩ hs'
    obtain ⟨o, ho, r⟩ := st.2
    exact ⟨o, hs'.extBut a o hne ho, r⟩
  done := fun s Q E st hE => RZ.nextOf_tuple_end hA st.1 st.2 (by simp) hE
open PySem.AutoSeq1 in
set_option maxHeartbeats 1000000 in
theorem meets_enumerate_newT (l : Addr) (items : Array Value) (o : Obj) (hc : o.cls = .type "tuple") (n : Nat) (hd : o.data = .seq items n) :
    Meets (Builtin.«enumerate.__new__» ⟨[.type "enumerate", .ref l], []⟩) (fun _ R s => s.heap.get? l = some o ∧
      R (.ok (.ret (.ref (s.heap.push { cls := .type "tuple_iterator", data := .fields #[.ref l, .int 0 0] }).objs.size)))
        { s with heap := (s.heap.push { cls := .type "tuple_iterator", data := .fields #[.ref l, .int 0 0] }).push { cls := .type "enumerate", data := .fields #[.none, .bool false, .ref s.heap.objs.size, rawInt 0, .none, .none] } }) :=
  .of_wp fun prog w A R s h => by
    obtain ⟨hp, g, d, tk, os⟩ := s; obtain ⟨hl, h⟩ := h
    have hsub := sub_enumerate
    have hL : Heap.IsTuple (Shared.heap ⟨hp, g, d, tk, os⟩) l items := ⟨_, hl, hc, n, hd⟩
    wp_walk using wpAny_loadPart' hl
    refine wpAny_stack_any fun st => wpAny_pure ?_
    split
    · rename_i c _ _ _ _ _
      cases (c == Value.type "enumerate")
      · wp_walk using wpAny_loadPart' hl, wpAny_pyIter_tuple hL
        exact ⟨_, rfl, h⟩
      · wp_walk using wpAny_loadPart' hl, wpAny_pyIter_tuple hL
        exact ⟨_, rfl, h⟩
    · wp_walk using wpAny_loadPart' hl, wpAny_pyIter_tuple hL
      exact ⟨_, rfl, h⟩
theorem call_enumerate_tuple {prog : Program} {w : World} {A : Around} {E : Value → Shared → Prop} {s : Shared} {l : Addr} {items : Array Value} {Q : Value → Shared → Prop} (hL : s.heap.IsTuple l items)
    (h : ∀ h', IsEnum h' (s.heap.objs.size + 1) s.heap.objs.size 0 .none → h'.IsTupleIter s.heap.objs.size l 0 → h'.objs.size = s.heap.objs.size + 2 →
      (∀ b o, s.heap.get? b = some o → h'.get? b = some o) → Q (.ref (s.heap.objs.size + 1)) { s with heap := h' }) :
    wpAny (model prog w) A (call (.type "enumerate") [.ref l]) Q E s := by
  obtain ⟨o, hl, hc, n, hd⟩ := hL
  refine callType_new F.called_enumerate (by decide) (F.typeCall_enumerate_1 _) (F.newCall_enumerate_1 _) (fun obj => F.args_object_init_2 obj _) F.entry_enumerate_new
    (meets_enumerate_newT l items o hc n hd) ⟨hl, ?_⟩
  have hz : (s.heap.push { cls := .type "tuple_iterator", data := .fields #[.ref l, .int 0 0] }).objs.size = s.heap.objs.size + 1 := Heap.size_push ..
  show _ ∧ _
  rw [hz]
  have he : IsEnum ((s.heap.push { cls := .type "tuple_iterator", data := .fields #[.ref l, .int 0 0] }).push
      { cls := .type "enumerate", data := .fields #[.none, .bool false, .ref s.heap.objs.size, rawInt 0, .none, .none] }) (s.heap.objs.size + 1) s.heap.objs.size 0 .none := by
    have := Heap.get?_push_size (s.heap.push { cls := .type "tuple_iterator", data := .fields #[.ref l, .int 0 0] })
      (o := { cls := .type "enumerate", data := .fields #[.none, .bool false, .ref s.heap.objs.size, rawInt 0, .none, .none] }) rfl
    rw [hz] at this; exact this
  refine ⟨⟨_, he, rfl⟩, h _ he ⟨_, Heap.get?_push_of_some _ (Heap.get?_push_size _ rfl), rfl, rfl⟩ (by rw [Heap.size_push, hz]) fun b o x => Heap.get?_push_of_some _ (Heap.get?_push_of_some _ x)⟩
/-- the tuple at a, each item in a new pair -/
def IteT (K : PySem.W.Frag) (a : Addr) : It :=
  ⟨fun i H => ∃ (xs : List V) (x : V), SqT K H a xs ∧ xs[i]? = some x, fun i H v H' => ∃ T x, v = .ref T ∧ H T = none ∧ H' = upd H T (.tup [.int (i : Nat), x]) ∧ ∀ xs, SqT K H a xs → xs[i]? = some x, fun i H => ∃ xs : List V, SqT K H a xs ∧ xs.length = i⟩
theorem turn_enumT {P : Program} {w : World} {K : PySem.W.Frag} {elts : List Expr} {kk : Nat} {tpos : Pos} (a e it : Addr) :
    Turn P w K (.Tuple elts kk tpos) (IteT K a) [e, it] e (fun i h => (∃ old, IsEnum h e it ((i : Nat) : Int) old) ∧ h.IsTupleIter it a i ∧ e ≠ it) where
  mem := by simp
  obj := fun i h st b hb => by
    obtain ⟨⟨old, he⟩, ⟨o, ho, hc, hd⟩, _⟩ := st
    have e' : b = e ∨ b = it := by simpa using hb
    rcases e' with z | z
    · rw [z]; exact ⟨_, he, fun v q => nomatch q⟩
    · rw [z]; exact ⟨o, ho, fun v q => by rw [hd] at q; cases q⟩
  keep := fun i h h' st k => let ⟨⟨old, he⟩, hi, hne⟩ := st; ⟨⟨old, k e (by simp) _ he⟩, hi.at fun o q => k it (by simp) o q, hne⟩
  item := by
    intro X hP hw hK hc i pins s σ H E I hf st hg
    subst hP hw hK
    obtain ⟨⟨old, he⟩, hit, hne⟩ := st
    obtain ⟨xs, x, hq, hx⟩ := hg
    obtain ⟨its, rv, p, hz⟩ := I.tuple hq
    obtain ⟨u, hu, ru⟩ := rv.get hx
    have hel : e < s.heap.objs.size := Heap.lt_size he
    have hil : it < s.heap.objs.size := by obtain ⟨_, q, _⟩ := hit; exact Heap.lt_size q
    have hpt : s.heap.IsTuple a its.toArray := p
    have hai : a ≠ it := fun z => by
      obtain ⟨o1, h1, c1, _⟩ := hpt
      obtain ⟨o2, h2, c2, _⟩ := hit
      rw [z, h2] at h1
      cases h1
      rw [c2] at c1
      exact absurd (Value.type.inj c1) (by decide)
    have hae : e ≠ a := fun z => by
      obtain ⟨o1, h1, c1, _⟩ := hpt
      rw [← z, he] at h1
      cases h1
      exact absurd (Value.type.inj c1) (by decide)
    have hil2 : i < its.toArray.size := by
      rw [List.size_toArray]
      exact (List.getElem?_eq_some_iff.mp hu).1
    refine wpAny_pyNext_enum_itemD (draws_tuple (A := X.A.in1) (I.ok.hd hc) it a its.toArray hai) he ⟨hit, hpt⟩ hil2 hne (by simp only [List.mem_cons, List.not_mem_nil, or_false, not_or]; exact ⟨hne, hae⟩) fun y h' tk hy ho hst hT hsz hk => ?_
    have hyu : y = u := by
      have : its[i]? = some y := by simpa using hy
      rw [hu] at this
      exact (Option.some.inj this).symm
    subst hyu
    have hit' := hst.1
    refine ⟨_, rfl, wpAny_letOwnedTupleGo_enum (s := { s with heap := h', toks := tk + 1 }) ho fun h'' he' sb => ?_⟩
    have hT2 : h''.get? s.heap.objs.size = some { cls := .type "tuple", data := .seq #[.int i tk, y] } := (sb.2 _ (Nat.ne_of_gt hel)).trans hT
    have new : ObjOk X.prog X.w (upd H s.heap.objs.size (.tup [.int (i : Nat), x])) h'' s.heap.objs.size (.tup [.int (i : Nat), x]) :=
      ⟨by show 2 ≤ sizeLine; decide, [.int i tk, y], .cons ⟨_, rfl⟩ (.cons ru .nil), ⟨_, hT2, rfl, _, rfl⟩⟩
    have I1 : Inv X pins σ (upd H s.heap.objs.size (.tup [.int (i : Nat), x])) { s with heap := h'', toks := tk + 1 } :=
      I.turnedNew (ch := [e, it]) (fun b ob hb q => (sb.2 b (fun z => hb (by simp [z]))).trans (hk b ob (fun z => hb (by simp [z])) (fun z => hb (by simp [z])) q)) hf (Nat.le_refl _) new
    refine ⟨.ref s.heap.objs.size, _, I1, rfl, ⟨_, x, rfl, I.hok.fresh (Nat.le_refl _), rfl, fun ys hy => by rw [I.tuple_inj hy hq]; exact hx⟩, ⟨⟨y, ?_⟩, hit'.at fun o q => (sb.2 it (Ne.symm hne)).trans q, hne⟩, fun b hb => ?_⟩
    · have e1 : ((i + 1 : Nat) : Int) = (i : Int) + 1 := by omega
      rw [e1]; exact he'
    · have hb' : b < s.heap.objs.size := by
        have e' : b = e ∨ b = it := by simpa using hb
        rcases e' with z | z
        · rw [z]; exact hel
        · rw [z]; exact hil
      rw [upd_ne (Nat.ne_of_lt hb')]
      exact (hf b hb).1
  done := by
    intro X hP hw hK hc i pins s σ H E I hf st hg
    subst hP hw hK
    obtain ⟨⟨old, he⟩, hit, hne⟩ := st
    obtain ⟨xs, hq, hx⟩ := hg
    obtain ⟨its, rv, p, hz⟩ := I.tuple hq
    obtain ⟨f0, f1, f2, f3, f4, f5⟩ := hf it (by simp)
    have hl := rv.length
    have hpt : s.heap.IsTuple a its.toArray := p
    have hai : a ≠ it := fun z => by
      obtain ⟨o1, h1, c1, _⟩ := hpt
      obtain ⟨o2, h2, c2, _⟩ := hit
      rw [z, h2] at h1
      cases h1
      rw [c2] at c1
      exact absurd (Value.type.inj c1) (by decide)
    have hn : i = its.toArray.size := by rw [List.size_toArray]; omega
    exact wpAny_pyNext_enum_endD (draws_tuple (A := X.A.in1) (I.ok.hd hc) it a its.toArray hai) he (by rw [← hn]; exact ⟨hit, hpt⟩) fun h' eb => ⟨rfl, I.turned (t' := s.toks) (fun b o hb q => eb b o hb q) f0 f1 f3 f4 f5⟩
  self := fun A i s Q E st h => let ⟨⟨_, he⟩, _⟩ := st; wpAny_pyIter_enum he h
def iEnumT (K : PySem.W.Frag) (ta : TA) : TI := fun σ H R => ta σ H fun vs H1 => ∃ a xs, vs = [.ref a] ∧ SqT K H1 a xs ∧ R (IteT K a) H1
theorem pi_enumT {X : Cx} {e : Expr} {ta : TA} {p pos tpos : Pos} {elts : List Expr} {kk : Nat} (hg : Gl X "enumerate") (hm : X.mg "enumerate" = none) (ha : PA X [e] ta) (hs : starEach [e] X.env = [(false, eval e X.env)] := by rfl) :
    PI X (.Tuple elts kk tpos) (.Call (.Name "enumerate" p) [e] [] pos) (iEnumT X.K ta) := by
  refine ⟨fun pins s σ H R I h => ?_⟩
  refine Call_ (ld_blt I hg hm boot_enumerate (PyProof.Rows.callWith_type1 (thn (ha.run pos pins s σ H _ I h) fun us s1 ⟨vs, H1, I1, r1, q1⟩ => ?_) hs rfl))
  obtain ⟨a, xs, ex, hq, q⟩ := q1
  subst ex
  cases r1 with
  | cons r rr =>
    cases rr
    cases r
    obtain ⟨its, rv, p', hz⟩ := I1.tuple hq
    refine call_enumerate_tuple p' fun h' he hit hsz hk => wpAny_pyIter_enum he ?_
    have I2 : Inv X pins σ H1 { s1 with heap := h' } := I1.kept (t' := s1.toks) hk
    refine ⟨s1.heap.objs.size + 1, [s1.heap.objs.size + 1, s1.heap.objs.size], _, _, H1, rfl, I2, turn_enumT a (s1.heap.objs.size + 1) s1.heap.objs.size, ⟨⟨.none, he⟩, hit, Nat.succ_ne_self _⟩, fun b hb => ?_, q⟩
    have e' : b = s1.heap.objs.size + 1 ∨ b = s1.heap.objs.size := by simpa using hb
    have hle : s1.heap.objs.size ≤ b := by
      rcases e' with z | z
      · rw [z]; exact Nat.le_add_right _ _
      · rw [z]; exact Nat.le_refl _
    exact I1.fpOk hle (I1.hok.fresh hle)
theorem gx_enum {α : Type} {K : PySem.W.Frag} {a : Addr} {xs : List V} {g : TG} {tt : TT} {te : TE} {vs : List Nat} {σ0 : L2.St} {End : α → Hp → Prop} {Yd : α → V → Hp → (α → Hp → Prop) → Prop} {a0 : α} {H0 : Hp} (Pv : Nat → α → Hp → Prop) (h0 : Pv 0 a0 H0)
    (hl : ∀ i c H, i ≤ xs.length → Pv i c H → SqT K H a xs)
    (hs : ∀ i x T c H, xs[i]? = some x → H T = none → Pv i c H → g (.ref T) σ0 (upd H T (.tup [.int (i : Nat), x])) fun σ2 H2 => wipe σ2 vs = σ0 ∧ tt σ2 H2 fun b H3 => if b = true then te σ2 H3 fun y H4 => Yd c y H4 (Pv (i + 1)) else Pv (i + 1) c H3) (hd : ∀ c H, Pv xs.length c H → End c H) :
    ∃ W : Nat → Nat → α → Hp → Prop, (∃ m, W 0 m a0 H0) ∧ tGx (IteT K a) g tt te σ0 vs End Yd W := by
  refine ⟨fun i m c H => m = xs.length - i ∧ i ≤ xs.length ∧ Pv i c H, ⟨xs.length, rfl, Nat.zero_le _, h0⟩, ?_⟩
  rintro i m c H ⟨rfl, hi, p⟩
  by_cases hlt : i < xs.length
  · have hx : xs[i]? = some xs[i] := List.getElem?_eq_getElem hlt
    refine .inr ⟨⟨xs, xs[i], hl i c H hi p, hx⟩, Pv (i + 1), fun c' H' p' => ⟨xs.length - (i + 1), by omega, rfl, hlt, p'⟩, fun x H' y => ?_⟩
    obtain ⟨T, x1, rfl, nT, rfl, e1⟩ := y
    exact hs i x1 T c H (e1 xs (hl i c _ hi p)) nT p
  · have e : i = xs.length := by omega
    subst e
    exact .inl ⟨⟨xs, hl _ c H hi p, rfl⟩, hd c H p⟩
theorem gx_str {α : Type} {z : Str} {g : TG} {tt : TT} {te : TE} {vs : List Nat} {σ0 : L2.St} {End : α → Hp → Prop} {Yd : α → V → Hp → (α → Hp → Prop) → Prop} {a0 : α} {H0 : Hp} (Pv : Nat → α → Hp → Prop) (h0 : Pv 0 a0 H0)
    (hs : ∀ i x c H, z.cps[i]? = some x → Pv i c H → g (.str ⟨#[x]⟩) σ0 H fun σ2 H2 => wipe σ2 vs = σ0 ∧ tt σ2 H2 fun b H3 => if b = true then te σ2 H3 fun y H4 => Yd c y H4 (Pv (i + 1)) else Pv (i + 1) c H3) (hd : ∀ c H, Pv z.cps.size c H → End c H) :
    ∃ W : Nat → Nat → α → Hp → Prop, (∃ m, W 0 m a0 H0) ∧ tGx (Its z) g tt te σ0 vs End Yd W := by
  refine ⟨fun i m c H => m = z.cps.size - i ∧ i ≤ z.cps.size ∧ Pv i c H, ⟨z.cps.size, rfl, Nat.zero_le _, h0⟩, ?_⟩
  rintro i m c H ⟨rfl, hi, p⟩
  by_cases hlt : i < z.cps.size
  · refine .inr ⟨hlt, Pv (i + 1), fun c' H' p' => ⟨z.cps.size - (i + 1), by omega, rfl, hlt, p'⟩, fun x H' y => ?_⟩
    obtain ⟨rfl, ch, hc, rfl⟩ := y
    exact hs i ch c _ hc p
  · have e : i = z.cps.size := by omega
    subst e
    exact .inl ⟨Nat.le_refl _, hd c H p⟩

/-! ### nets, and the words of nets -/
abbrev Gt := List Bool × List Nat
def gD (g : Gt) : PyData := .tuple [.str (tabOf g.1), .tuple ((g.2.map Int.ofNat).map PyData.int)]
def netD (many : Int) (gs : List Gt) : PyData := .tuple [.int many, .tuple (gs.map gD)]
def rowD (r : List Int) : PyData := .tuple (r.map PyData.int)
def chD (a b : List Int) : PyData := .tuple [rowD a, rowD b]
def GtOk (n : Nat) (g : Gt) : Prop := g.1.length = 2 ^ g.2.length ∧ 1 ≤ g.2.length ∧ g.2.length ≤ 3 ∧ ∀ i ∈ g.2, i < n
def NetOk (n : Nat) (gs : List Gt) : Prop := ∀ k g, gs[k]? = some g → GtOk (n + k) g
def Row01 (r : List Int) : Prop := ∀ x ∈ r, x = 0 ∨ x = 1
mutual
theorem Tk.gr {H H' : Hp} (s : Gr H H') : ∀ {v : V} {d : PyData}, Tk H v d → Tk H' v d
  | _, _, .bl b => .bl b
  | _, _, .int i => .int i
  | _, _, .str x => .str x
  | _, _, .lst h t => .lst (s.lst h) (t.gr s)
  | _, _, .tup h t => .tup (s.tup h) (t.gr s)
theorem TkAll.gr {H H' : Hp} (s : Gr H H') : ∀ {vs : List V} {ds : List PyData}, TkAll H vs ds → TkAll H' vs ds
  | _, _, .nil => .nil
  | _, _, .cons h t => .cons (h.gr s) (t.gr s)
end
theorem Tk.row_inv {H : Hp} {v : V} {r : List Int} (h : Tk H v (rowD r)) : ∃ a, v = .ref a ∧ H a = some (.tup (r.map V.int)) := by
  obtain ⟨a, xs, rfl, ha, t⟩ := h.tup_inv
  rw [t.int_inv] at ha
  exact ⟨a, rfl, ha⟩
theorem Tk.ch_inv {H : Hp} {v : V} {a b : List Int} (h : Tk H v (chD a b)) : ∃ c ra rb, v = .ref c ∧ H c = some (.tup [.ref ra, .ref rb]) ∧ H ra = some (.tup (a.map V.int)) ∧ H rb = some (.tup (b.map V.int)) := by
  obtain ⟨c, xs, rfl, hc, t⟩ := h.tup_inv
  cases t with
  | cons h1 t => cases t with
    | cons h2 t =>
      cases t
      obtain ⟨ra, rfl, ha⟩ := h1.row_inv
      obtain ⟨rb, rfl, hb⟩ := h2.row_inv
      exact ⟨c, ra, rb, rfl, hc, ha, hb⟩
theorem Tk.net_inv {H : Hp} {v : V} {m : Int} {gs : List Gt} (h : Tk H v (netD m gs)) : ∃ n g xs, v = .ref n ∧ H n = some (.tup [.int m, .ref g]) ∧ H g = some (.tup xs) ∧ TkAll H xs (gs.map gD) := by
  obtain ⟨n, xs, rfl, hn, t⟩ := h.tup_inv
  cases t with
  | cons h1 t => cases t with
    | cons h2 t =>
      cases t
      cases h1
      obtain ⟨g, ys, rfl, hg, t2⟩ := h2.tup_inv
      exact ⟨n, g, ys, rfl, hn, hg, t2⟩
theorem Tk.gt_inv {H : Hp} {v : V} {g : Gt} (h : Tk H v (gD g)) : ∃ a i, v = .ref a ∧ H a = some (.tup [.str (tabOf g.1), .ref i]) ∧ H i = some (.tup ((g.2.map Int.ofNat).map V.int)) := by
  obtain ⟨a, xs, rfl, ha, t⟩ := h.tup_inv
  cases t with
  | cons h1 t => cases t with
    | cons h2 t =>
      cases t
      cases h1
      obtain ⟨i, rfl, hi⟩ := (show Tk H _ (rowD (g.2.map Int.ofNat)) from h2).row_inv
      exact ⟨a, i, rfl, ha, hi⟩
theorem TkAll.at {H : Hp} {α : Type} {f : α → PyData} {xs : List V} {ds : List α} (t : TkAll H xs (ds.map f)) {j : Nat} {v : V} (h : xs[j]? = some v) : ∃ x, ds[j]? = some x ∧ Tk H v (f x) := by
  obtain ⟨dx, hdx, tx⟩ := t.get h
  rw [List.getElem?_map] at hdx
  cases hz : ds[j]? with
  | none => rw [hz] at hdx; cases hdx
  | some x =>
    rw [hz] at hdx
    cases Option.some.inj hdx
    exact ⟨x, rfl, tx⟩
theorem TkAll.at' {H : Hp} {α : Type} {f : α → PyData} {xs : List V} {ds : List α} (t : TkAll H xs (ds.map f)) {j : Nat} {x : α} (h : ds[j]? = some x) : ∃ v, xs[j]? = some v ∧ Tk H v (f x) := by
  have hl := t.length
  rw [List.length_map] at hl
  have hj := (List.getElem?_eq_some_iff.mp h).1
  obtain ⟨y, hy, ty⟩ := t.at (List.getElem?_eq_getElem (l := xs) (i := j) (by omega))
  cases Option.some.inj (h.symm.trans hy)
  exact ⟨_, List.getElem?_eq_getElem _, ty⟩
theorem grow_upd {H H' : Hp} {p : Addr} {o : HO} (g : Gr H H') (n : H' p = none) : Gr H (upd H' p o) := g.trans (Gr.none n)
/-- no table, no older list: only the list at D is written -/
def GrD (D : Addr) (H H' : Hp) : Prop := Gr H (hd1 D H')
theorem GrD.gr {D : Addr} {H H' : Hp} (g : GrD D H H') : Gr H H' := g.trans (Gr.of hd1_le)
theorem TabG_hd1 {D P : Addr} {H : Hp} (h : GxR.TabG H P) (n : D ≠ P) : GxR.TabG (hd1 D H) P := by
  obtain ⟨ps, e, t⟩ := h
  exact ⟨ps, by rw [hd1_at (Ne.symm n)]; exact e, t⟩
theorem GrD.new {D : Addr} {H : Hp} {o : HO} (n : H D = none) : GrD D H (upd H D o) := Gr.of (hd1_of (same_upd n) n)
theorem hd1_gr {D : Addr} {H H' : Hp} (g : Gr H H') (hD : ∀ P, GxR.TabG H P → D ≠ P) : Gr (hd1 D H) (hd1 D H') := by
  refine ⟨fun b o n e => ?_, fun b t => ?_⟩
  · have hb : b ≠ D := fun z => by
      unfold hd1 at e
      rw [if_pos z] at e; cases e
    rw [hd1_at hb] at e ⊢
    exact g.1 b o n e
  · obtain ⟨ps, e, t⟩ := t
    have e' := hd1_le _ _ e
    exact TabG_hd1 (g.2 b ⟨ps, e', t⟩) (hD b ⟨ps, e', t⟩)
theorem GrD.then {D : Addr} {H H1 H2 : Hp} {xs : List V} (a : GrD D H H1) (hD : H1 D = some (.lst xs)) (b : Gr H1 H2) : GrD D H H2 := a.trans (hd1_gr b fun P ⟨ps, e, _⟩ z => by
  rw [← z, hD] at e
  cases e)
theorem GrD.set {D : Addr} {H H1 : Hp} {o : HO} (a : GrD D H H1) : GrD D H (upd H1 D o) := a.trans (Gr.of hd1_upd)

end Gk

set_option Elab.async false
set_option linter.all false
set_option maxRecDepth 100000
set_option maxHeartbeats 1000000
namespace Gk
open PySem PySem.Spec PyProof.Rows L2
/-! ### data of tuples alone: no list that is written can harm it -/
mutual
def noL : PyData → Bool
  | .list _ => false
  | .tuple ds => noLs ds
  | _ => true
def noLs : List PyData → Bool
  | [] => true
  | d :: r => noL d && noLs r
end
def Ts (H H' : Hp) : Prop := ∀ b xs, H b = some (HO.tup xs) → H' b = some (.tup xs)
theorem Ts.refl {H : Hp} : Ts H H := fun _ _ e => e
theorem Ts.trans {H H1 H2 : Hp} (a : Ts H H1) (b : Ts H1 H2) : Ts H H2 := fun c xs e => b c xs (a c xs e)
theorem Ts.same {H H' : Hp} (s : Same H H') : Ts H H' := fun b xs e => s _ _ e
theorem Ts.gr {H H' : Hp} (s : Gr H H') : Ts H H' := fun b xs e => s.tup e
theorem Ts.new {H : Hp} {p : Addr} {o : HO} (h : H p = none) : Ts H (upd H p o) := Ts.same (same_upd h)
theorem Ts.set {H : Hp} {p : Addr} {xs ys : List V} (h : H p = some (.lst xs)) : Ts H (upd H p (.lst ys)) := fun b zs e => by
  rw [upd_ne (ne_of e h (by intro z; cases z))]
  exact e
mutual
theorem Tk.ts {H H' : Hp} (s : Ts H H') : ∀ {v : V} {d : PyData}, Tk H v d → noL d = true → Tk H' v d
  | _, _, .bl b, _ => .bl b
  | _, _, .int i, _ => .int i
  | _, _, .str x, _ => .str x
  | _, _, .lst h t, n => by cases n
  | _, _, .tup h t, n => .tup (s _ _ h) (t.ts s n)
theorem TkAll.ts {H H' : Hp} (s : Ts H H') : ∀ {vs : List V} {ds : List PyData}, TkAll H vs ds → noLs ds = true → TkAll H' vs ds
  | _, _, .nil, _ => .nil
  | _, _, .cons (d := d) (ds := ds) h t, n => by
    have n' : noL d = true ∧ noLs ds = true := Bool.and_eq_true_iff.mp n
    exact .cons (h.ts s n'.1) (t.ts s n'.2)
end
theorem noLs_map {α : Type} {f : α → PyData} (h : ∀ x, noL (f x) = true) : ∀ l : List α, noLs (l.map f) = true
  | [] => rfl
  | x :: r => by
    show (noL (f x) && noLs (r.map f)) = true
    rw [h x, noLs_map h r]
    rfl
theorem noL_row (r : List Int) : noL (rowD r) = true := noLs_map (fun _ => rfl) r
theorem noL_gate (g : Gt) : noL (gD g) = true := by
  show (true && (noLs ((g.2.map Int.ofNat).map PyData.int) && true)) = true
  rw [noLs_map (fun _ => rfl)]
  rfl
theorem noL_gates (gs : List Gt) : noLs (gs.map gD) = true := noLs_map noL_gate gs
theorem noL_net (m : Int) (gs : List Gt) : noL (netD m gs) = true := by
  show (true && (noLs (gs.map gD) && true)) = true
  rw [noL_gates]
  rfl
theorem noL_ch (a b : List Int) : noL (chD a b) = true := by
  show (noL (rowD a) && (noL (rowD b) && true)) = true
  rw [noL_row, noL_row]
  rfl

section
variable {P : Program} {w : World} {K : PySem.W.Frag} {mg : Str → Option Value} {base : Heap}
/-! ### the deck of k26 to k33: a dict -/
abbrev kC : Key := Sum.inr "cells"
abbrev kA : Key := Sum.inr "at"
abbrev kS : Key := Sum.inr "sum"
def deckKv (l : Addr) (z y : Int) : List (Key × V) := [(kC, .ref l), (kA, .int z), (kS, .int y)]
def DeckE (H : Hp) (d l : Addr) (n : Int) : Prop := d ≠ l ∧ ∃ (cs : List Int) (z y : Int), H d = some (.dK (deckKv l z y)) ∧ H l = some (.lst (cs.map V.int)) ∧ cs.length ≤ 63 ∧ 0 ≤ z ∧ z ≤ n
theorem DeckE.mono {H : Hp} {d l : Addr} {n m : Int} (D : DeckE H d l n) (h : n ≤ m) : DeckE H d l m := by
  obtain ⟨ne, cs, z, y, h1, h2, h3, h4, h5⟩ := D
  exact ⟨ne, cs, z, y, h1, h2, h3, h4, by omega⟩
theorem DeckE.same {H H' : Hp} {d l : Addr} {n : Int} (D : DeckE H d l n) (s : Same H H') : DeckE H' d l n := by
  obtain ⟨ne, cs, z, y, hd, hl, r⟩ := D
  exact ⟨ne, cs, z, y, s _ _ hd, s _ _ hl, r⟩
theorem DeckE.upd {H : Hp} {d l p : Addr} {n : Int} {o : HO} (D : DeckE H d l n) (h1 : p ≠ d) (h2 : p ≠ l) : DeckE (upd H p o) d l n := by
  obtain ⟨ne, cs, z, y, hd, hl, r⟩ := D
  exact ⟨ne, cs, z, y, by rw [upd_ne h1.symm]; exact hd, by rw [upd_ne h2.symm]; exact hl, r⟩
theorem DeckE.off {H : Hp} {d l p : Addr} {n : Int} (D : DeckE H d l n) (h : H p = none) : p ≠ d ∧ p ≠ l := by
  obtain ⟨ne, cs, z, y, hd, hl, r⟩ := D
  exact ⟨(ne_of_none hd h).symm, (ne_of_none hl h).symm⟩
theorem Ts.frE {H H' : Hp} {d l : Addr} {n : Int} (D : DeckE H d l n) (f : Fr d l H H') : Ts H H' := fun b xs e => by
  obtain ⟨ne, cs, z, y, hd, hl, r⟩ := D
  exact f b _ (ne_of e hd (by intro z; cases z)) (ne_of e hl (by intro z; cases z)) e
theorem Fr.upd {d l p : Addr} {H H' : Hp} {o : HO} (f : Fr d l H H') (h : H p = none) : Fr d l H (upd H' p o) := fun b u h1 h2 e => by
  rw [upd_ne (ne_of_none e h)]
  exact f b u h1 h2 e
theorem cut63 {ns : List Int} (h : ns.length ≤ 63) : cutV (ns.map V.int) none (some 63) = ns.map V.int := by
  unfold cutV
  have e : HT.sIx (ns.map V.int).length (ns.map V.int).length (some 63) = min 63 (ns.map V.int).length := HT.sIx_nat _ _ 63
  rw [HT.sIx_none, e, List.length_map, List.drop_zero]
  apply List.take_of_length_le
  rw [List.length_map]
  omega
def sp_deck (K : PySem.W.Frag) : Sp := fun vs H Q _ => ∃ (a : Addr) (ns : List Int), vs = [.ref a] ∧ SqL K H a (ns.map V.int) ∧ ns.length ≤ 63 ∧ ∀ H' d l, Same H H' → DeckE H' d l 0 → Q (.ref d) H'
theorem ok_deck (T : Tx K mg) : FnOk P w K mg base CX0 1 T.f_deck T.fd_deck ["_law_script"] (sp_deck K) := by
  refine T.F_deck.ok sc_deck (fun vs H Q E h => ?_) (fun cdv A outer s H vs Q E hr h => ?_)
  · obtain ⟨a, ns, rfl, _⟩ := h
    rfl
  · obtain ⟨a, ns, rfl, hS, hlen, q⟩ := h
    refine ⟨_, (pss_cons (ps_set (i := 1) sc_deck.nd rfl (by first | exact .inl rfl | exact .inr rfl) (pe_callTy call_list_of (by rfl) T.m_list (by decide +kernel) (pa_cons (pe_slice sl_list (pv 0) po_none (po_some pe_int)) pa_nil))) (pss_one (ps_ret (pe_disp (pps_cons pe_str (pv 1) (pps_cons pe_str pe_int (pps_cons pe_str (pe_op op_add (pe_op op_mod (pe_callB (cr_sum rfl) (by rfl) T.m_sum (by decide +kernel) (pa_cons (pv 1) pa_nil)) pe_int) (pe_callB call_len_seq (by rfl) T.m_len PySem.boot_len (pa_cons (pv 1) pa_nil))) pps_nil))) (by rfl) (by rfl) (fun z => by cases z) (by decide))))), ?_⟩
    refine ⟨.ref a, rfl, 63, rfl, a, _, rfl, hS, fun c1 n1 => ?_⟩
    rw [cut63 hlen]
    have s1 := same_upd (o := HO.lst (ns.map V.int)) n1
    refine ⟨c1, _, rfl, .inl (SqL.of upd_same), fun l nl => ?_⟩
    have s2 := same_upd (o := HO.lst (ns.map V.int)) nl
    have hl := upd_same (H := upd H c1 (.lst (ns.map V.int))) (a := l) (o := .lst (ns.map V.int))
    generalize upd (upd H c1 (.lst (ns.map V.int))) l (.lst (ns.map V.int)) = H2 at s2 hl ⊢
    refine fun d nd => ?_
    have s3 := same_upd (o := HO.dK []) nd
    refine ⟨.ref l, rfl, .ref l, rfl, l, ns, rfl, SqL.of (s3 _ _ hl), _, _, rfl, rfl, p29, .ref l, rfl, l, _, rfl, .inl (SqL.of (s3 _ _ hl)), _, _, rfl, rfl, upd_same, deckKv l 0 (ns.sum % 2147483629 + ((ns.map V.int).length : Nat)), rfl, by show 3 ≤ 15; decide, ?_⟩
    have ne := ne_of_none hl nd
    refine q _ d l ((s1.trans s2).trans fun b o e => ?_) ⟨ne.symm, ns, 0, _, upd_same, ?_, hlen, Int.le_refl _, Int.le_refl _⟩
    · rw [upd_ne (ne_of_none e nd)]
      exact s3 _ _ e
    · rw [upd_ne ne]
      exact s3 _ _ hl
def sp_draw (K : PySem.W.Frag) : Sp := fun vs H Q _ => ∃ (d l : Addr) (m n : Int), vs = [.ref d, .int m] ∧ DeckE H d l n ∧ n < 1000000000 ∧ 0 < m ∧ m < 1073741824 ∧ ∀ H' v, DeckE H' d l (n + 1) → Fr d l H H' → 0 ≤ v → v < m → Q (.int v) H'
theorem ok_draw (T : Tx K mg) : FnOk P w K mg base CX0 1 T.f_draw T.fd_draw ["_law_deck_here", "_law_most"] (sp_draw K) := by
  refine T.F_draw.ok sc_draw (fun vs H Q E h => ?_) (fun cdv A outer s H vs Q E hr h => ?_)
  · obtain ⟨d, l, m, n, rfl, _⟩ := h
    rfl
  · obtain ⟨d, l, m, n, rfl, D, hn, hm0, hm1, q⟩ := h
    obtain ⟨ne, cs, z, y, hd, hl, hcs, hz0, hz1⟩ := D
    refine ⟨_, (pss_cons (ps_dput (hu_of hr) (pv 0) pe_str (pe_op op_add (pe_dget (hu_of hr) (pv 0) pe_str (fun _ _ => rfl)) pe_int) rfl) (pss_cons (ps_set (i := 2) sc_draw.nd rfl (by first | exact .inl rfl | exact .inr rfl) (pe_dget (hu_of hr) (pv 0) pe_str (fun _ _ => rfl))) (pss_cons (ps_set (i := 3) sc_draw.nd rfl (by first | exact .inl rfl | exact .inr rfl) (pe_dget (hu_of hr) (pv 0) pe_str (fun _ _ => rfl))) (pss_cons (ps_set (i := 4) sc_draw.nd rfl (by first | exact .inl rfl | exact .inr rfl) (pe_op op_add (pe_dget (hu_of hr) (pv 0) pe_str (fun _ _ => rfl)) (pv 2))) (pss_cons (ps_if (pt_cmpR (op_neD hr.units) (pv 3) (pe_lst pa_nil) (nomark _)) (pss_cons (ps_set (i := 4) sc_draw.nd rfl (by first | exact .inl rfl | exact .inr rfl) (pe_bm PySem.F.plainAttrs_list PySem.F.slot_list_pop PySem.F.type_list_pop mt_popAt (pv 3) (pa_cons pe_int pa_nil))) (pss_one (ps_if (pt_cmpR op_ge (pv 4) (pe_op op_pow pe_int pe_int) (nomark _)) (pss_cons (ps_expr (pe_bm PySem.F.plainAttrs_list PySem.F.slot_list_insert PySem.F.type_list_insert mt_insert (pv 3) (pa_cons pe_int (pa_cons (pe_op op_fdiv (pv 4) (pv 1)) pa_nil)))) (pss_one (ps_ret (pe_op op_mod (pv 4) (pv 1))))) pss_nil))) pss_nil) (pss_cons (ps_set (i := 5) sc_draw.nd rfl (by first | exact .inl rfl | exact .inr rfl) (pe_op op_mod (pe_op op_add (pe_op op_add (pe_op op_mul (pe_op op_mod (pv 4) pe_int) pe_int) (pe_op op_mul (pe_op op_mul pe_int (pv 2)) (pv 2))) pe_int) pe_int)) (pss_cons (ps_set (i := 5) sc_draw.nd rfl (by first | exact .inl rfl | exact .inr rfl) (pe_op op_mod (pe_op op_mul (pv 5) (pv 5)) pe_int)) (pss_one (ps_ret (pe_op op_mod (pe_op op_fdiv (pe_op op_mod (pe_op op_mul (pv 5) (pe_op op_add (pv 5) pe_int)) pe_int) pe_int) (pv 1))))))))))), ?_⟩
    have gA : ∀ {H : Hp} {z y : Int}, H d = some (.dK (deckKv l z y)) → DGet H d (.str "at") (some (.int z)) := fun {H z y} h => DGet.k (k := kA) h
    have gC : ∀ {H : Hp} {z y : Int}, H d = some (.dK (deckKv l z y)) → DGet H d (.str "cells") (some (.ref l)) := fun {H z y} h => DGet.k (k := kC) h
    have gS : ∀ {H : Hp} {z y : Int}, H d = some (.dK (deckKv l z y)) → DGet H d (.str "sum") (some (.int y)) := fun {H z y} h => DGet.k (k := kS) h
    refine ⟨.ref d, rfl, d, .int z, rfl, gA hd, _, _, rfl, rfl, .ref d, rfl, d, _, rfl, DPut.k (k := kA) hd (by show 3 < sizeLine; decide), ?_⟩
    have hd1 : (upd H d (.dK (deckKv l (z + 1) y))) d = some (.dK (deckKv l (z + 1) y)) := upd_same
    have hl1 : (upd H d (.dK (deckKv l (z + 1) y))) l = some (.lst (cs.map V.int)) := by rw [upd_ne ne.symm]; exact hl
    have fr1 : Fr d l H (upd H d (.dK (deckKv l (z + 1) y))) := Fr.d
    have hz2 : 0 ≤ z + 1 := by omega
    have hz3 : z + 1 ≤ n + 1 := by omega
    have hz4 : z + 1 < 2000000000 := by omega
    show tSeq _ _ _ _ (upd H d (.dK (deckKv l (z + 1) y)))
    generalize upd H d (.dK (deckKv l (z + 1) y)) = H1 at hd1 hl1 fr1 ⊢
    generalize z + 1 = z' at hd1 hz2 hz3 hz4
    refine ⟨.ref d, rfl, d, .int z', rfl, gA hd1, .ref d, rfl, d, .ref l, rfl, gC hd1, .ref d, rfl, d, .int y, rfl, gS hd1, .int z', rfl, _, _, rfl, rfl, ?_⟩
    have tail : ∀ (sd : Int), 0 ≤ (sd % 2147483647 * 48271 + 69621 * z' * z' + 7919) % 2147483629 ∧ (sd % 2147483647 * 48271 + 69621 * z' * z' + 7919) % 2147483629 < 2147483629 := fun sd => ⟨Int.emod_nonneg _ (by decide), Int.emod_lt_of_pos _ (by decide)⟩
    refine ⟨.ref l, rfl, Nat.zero_le _, fun p np => ?_⟩
    have fr2 : Fr d l H (upd H1 p (.lst [])) := fr1.trans (Fr.new np)
    have hd2 := same_upd (o := .lst []) np _ _ hd1
    have hl2 := same_upd (o := .lst []) np _ _ hl1
    refine ⟨.list (cs.map .int), .list [], .lst (SqL.of hl2) (dpInts cs), .lst (SqL.of upd_same) .nil, shInts cs, rfl, _, rfl, ?_⟩
    generalize upd H1 p (.lst []) = H2 at fr2 hd2 hl2 ⊢
    cases cs with
    | nil =>
      refine iteF ?_
      refine ⟨.int _, rfl, _, _, rfl, rfl, p47, _, 48271, rfl, rfl, .inr ⟨by decide, by decide⟩, .int z', rfl, 69621, z', rfl, rfl, .inl ⟨by decide, by decide⟩, .int z', rfl, _, z', rfl, rfl, .inr ⟨by omega, by omega⟩, _, _, rfl, rfl, _, _, rfl, rfl, _, _, rfl, rfl, p29, ?_⟩
      dsimp only
      obtain ⟨u0, u1⟩ := tail (y + z')
      generalize ((y + z') % 2147483647 * 48271 + 69621 * z' * z' + 7919) % 2147483629 = u at u0 u1 ⊢
      refine ⟨.int u, rfl, .int u, rfl, u, u, rfl, rfl, .inl ⟨by omega, by omega⟩, _, _, rfl, rfl, p87, ?_⟩
      dsimp only
      have v0 := Int.emod_nonneg (u * u) (show (2147483587 : Int) ≠ 0 by decide)
      have v1 := Int.emod_lt_of_pos (u * u) (show (0 : Int) < 2147483587 by decide)
      generalize (u * u) % 2147483587 = v at v0 v1 ⊢
      refine ⟨.int v, rfl, .int v, rfl, v, 69621, rfl, rfl, v, _, rfl, rfl, .inl ⟨by omega, by omega⟩, _, _, rfl, rfl, (show (0 : Int) < 2147483563 by decide), _, 8, rfl, rfl, ⟨by decide, by decide⟩, .int m, rfl, _, _, rfl, rfl, hm0, ?_⟩
      exact q _ _ ⟨ne, [], z', y, hd2, hl2, hcs, hz2, hz3⟩ fr2 (Int.emod_nonneg _ (by omega)) (Int.emod_lt_of_pos _ hm0)
    | cons c r =>
      have en : PyData.eqv (.list ((c :: r).map PyData.int)) (.list []) = false := rfl
      rw [en]
      refine iteT ?_
      have hr : r.length + 1 ≤ 63 := hcs
      refine ⟨.ref l, rfl, .inl ⟨rfl, _, SqL.of hl2⟩, l, _, 0, 0, .int c, rfl, rfl, hl2, by decide, by decide, seqIx0 _ _, rfl, ?_⟩
      have hd3 : (upd H2 l (.lst (r.map V.int))) d = some (.dK (deckKv l z' y)) := by rw [upd_ne ne]; exact hd2
      have hl3 : (upd H2 l (.lst (r.map V.int))) l = some (.lst (r.map V.int)) := upd_same
      have fr3 : Fr d l H (upd H2 l (.lst (r.map V.int))) := fr2.trans Fr.l
      show tSeq _ _ _ _ (upd H2 l (.lst (r.map V.int)))
      generalize upd H2 l (.lst (r.map V.int)) = H3 at hd3 hl3 fr3 ⊢
      refine ⟨.int c, rfl, _, _, rfl, rfl, ⟨by decide, by decide, by decide⟩, _, _, rfl, rfl, _, rfl, ite2 (fun _ => ?_) (fun _ => ?_)⟩
      · refine ⟨.ref l, rfl, .inl ⟨rfl, _, SqL.of hl3⟩, .int c, rfl, .int m, rfl, _, _, rfl, rfl, ⟨hm0, hm1⟩, l, _, 0, _, rfl, rfl, hl3, ?_, by decide, by decide, ?_⟩
        · rw [List.length_map]
          exact Nat.lt_of_lt_of_le (show r.length < 64 by omega) (by decide)
        · refine ⟨.int c, rfl, .int m, rfl, _, _, rfl, rfl, hm0, ?_⟩
          refine q _ _ ⟨ne, c / m :: r, z', y, (by rw [upd_ne ne]; exact hd3), ?_, hr, hz2, hz3⟩ (fr3.trans Fr.l) (Int.emod_nonneg _ (by omega)) (Int.emod_lt_of_pos _ hm0)
          rw [upd_same]
          simp
      · refine ⟨.int c, rfl, _, _, rfl, rfl, p47, _, 48271, rfl, rfl, .inr ⟨by decide, by decide⟩, .int z', rfl, 69621, z', rfl, rfl, .inl ⟨by decide, by decide⟩, .int z', rfl, _, z', rfl, rfl, .inr ⟨by omega, by omega⟩, _, _, rfl, rfl, _, _, rfl, rfl, _, _, rfl, rfl, p29, ?_⟩
        dsimp only
        obtain ⟨u0, u1⟩ := tail c
        generalize (c % 2147483647 * 48271 + 69621 * z' * z' + 7919) % 2147483629 = u at u0 u1 ⊢
        refine ⟨.int u, rfl, .int u, rfl, u, u, rfl, rfl, .inl ⟨by omega, by omega⟩, _, _, rfl, rfl, p87, ?_⟩
        dsimp only
        have v0 := Int.emod_nonneg (u * u) (show (2147483587 : Int) ≠ 0 by decide)
        have v1 := Int.emod_lt_of_pos (u * u) (show (0 : Int) < 2147483587 by decide)
        generalize (u * u) % 2147483587 = v at v0 v1 ⊢
        refine ⟨.int v, rfl, .int v, rfl, v, 69621, rfl, rfl, v, _, rfl, rfl, .inl ⟨by omega, by omega⟩, _, _, rfl, rfl, (show (0 : Int) < 2147483563 by decide), _, 8, rfl, rfl, ⟨by decide, by decide⟩, .int m, rfl, _, _, rfl, rfl, hm0, ?_⟩
        exact q _ _ ⟨ne, r, z', y, hd3, hl3, by omega, hz2, hz3⟩ fr3 (Int.emod_nonneg _ (by omega)) (Int.emod_lt_of_pos _ hm0)

end
end Gk

set_option Elab.async false
set_option linter.all false
set_option maxRecDepth 100000
set_option maxHeartbeats 1000000
namespace Gk
open PySem PySem.Spec PyProof.Rows L2
/-! ### slices and sums of tuples: what is told stands in a heap that has grown -/
theorem cut_all {xs : List V} {lo hi : Option Int} (h : HT.sIx xs.length 0 lo = 0 ∧ HT.sIx xs.length xs.length hi = xs.length) : cutV xs lo hi = xs := by
  unfold cutV
  rw [h.1, h.2, List.drop_zero, Nat.sub_zero, List.take_length]
theorem same_refl {H : Hp} : Same H H := fun _ _ e => e
theorem slA {K : PySem.W.Frag} {a : Addr} {xs : List V} {lo hi : Option Int} {H : Hp} {Q : VK} (h : H a = some (.tup xs)) (q : ∀ p H', Same H H' → H' p = some (.tup (cutV xs lo hi)) → Q (.ref p) H') : rSlA K (.ref a) lo hi H Q :=
  ⟨a, xs, rfl, SqT.of h, fun w => q a H same_refl (by rw [cut_all w]; exact h), fun _ p np => q p _ (same_upd np) upd_same⟩
theorem slAn {K : PySem.W.Frag} {a : Addr} {xs : List V} {lo : Option Int} {H : Hp} {Q : VK} {σ : L2.St} (h : H a = some (.tup xs)) (q : ∀ p H', Same H H' → H' p = some (.tup (cutV xs lo none)) → Q (.ref p) H') : tNoPart σ H (fun u H3 => rSlA K (.ref a) lo u H3 Q) := slA h q
theorem catA {K : PySem.W.Frag} {a b : Addr} {xs ys : List V} {H : Hp} {Q : VK} (ha : H a = some (.tup xs)) (hb : H b = some (.tup ys)) (hl : xs.length + ys.length ≤ sizeLine) (q : ∀ p H', Same H H' → H' p = some (.tup (xs ++ ys)) → Q (.ref p) H') : rCatA K (.ref a) (.ref b) H Q :=
  ⟨a, b, xs, ys, rfl, rfl, SqT.of ha, SqT.of hb, hl, fun e => q b H same_refl (by rw [e]; exact hb), fun _ e => q a H same_refl (by rw [e, List.append_nil]; exact ha), fun _ _ p np => q p _ (same_upd np) upd_same⟩
theorem cut_to {xs : List V} {k : Nat} : cutV xs none (some (k : Int)) = xs.take k := by
  unfold cutV
  rw [HT.sIx_none, HT.sIx_nat, List.drop_zero, Nat.sub_zero]
  apply List.ext_getElem?
  intro i
  rw [List.getElem?_take, List.getElem?_take]
  by_cases h : i < k
  · rw [if_pos h]
    by_cases h2 : i < xs.length
    · rw [if_pos (by omega)]
    · rw [List.getElem?_eq_none (by omega)]
      split <;> rfl
  · rw [if_neg h, if_neg (by omega)]
theorem cut_from {xs : List V} {k : Nat} : cutV xs (some (k : Int)) none = xs.drop k := by
  unfold cutV
  rw [HT.sIx_none, HT.sIx_nat]
  by_cases h : k ≤ xs.length
  · rw [Nat.min_eq_left h]
    exact List.take_of_length_le (by rw [List.length_drop]; exact Nat.le_refl _)
  · rw [Nat.min_eq_right (by omega), Nat.sub_self, List.take_zero, List.drop_eq_nil_of_le (by omega)]
theorem TkAll.take {H : Hp} : ∀ {xs : List V} {ds : List PyData} (k : Nat), TkAll H xs ds → TkAll H (xs.take k) (ds.take k)
  | _, _, 0, _ => by rw [List.take_zero, List.take_zero]; exact .nil
  | _, _, _ + 1, .nil => .nil
  | _, _, k + 1, .cons a t => .cons a (t.take k)
theorem TkAll.drop {H : Hp} : ∀ {xs : List V} {ds : List PyData} (k : Nat), TkAll H xs ds → TkAll H (xs.drop k) (ds.drop k)
  | _, _, 0, t => t
  | _, _, _ + 1, .nil => .nil
  | _, _, k + 1, .cons _ t => t.drop k
theorem set_put {α : Type} {l : List α} {i : Nat} {x : α} (h : i < l.length) : (l.take i ++ [x]) ++ l.drop (i + 1) = l.set i x := by
  rw [List.set_eq_take_append_cons_drop, if_pos h, List.append_assoc]
  rfl
def rJoinK (K : PySem.W.Frag) : V → List V → Hp → VK → Prop := fun x xs H Q => ∃ a p, ∃ ys : List Str, x = .str a ∧ xs = [.ref p] ∧ (SqL K H p (ys.map V.str) ∨ SqT K H p (ys.map V.str)) ∧ (ys.map (·.length)).sum + ys.length * a.length ≤ 16777216 ∧ Q (.str (Txt.join a ys)) H

section
variable {P : Program} {w : World} {K : PySem.W.Frag} {mg : Str → Option Value} {base : Heap}
/-! ### all choices -/
def stepC {α : Type} (cs : List (List α)) (os : List α) : List (List α) := cs.flatMap fun c => os.map fun o => c ++ [o]
def chs {α : Type} (ls : List (List α)) : List (List α) := ls.foldl stepC [[]]
theorem chs_snoc {α : Type} (ls : List (List α)) (os : List α) : chs (ls ++ [os]) = stepC (chs ls) os := by
  unfold chs
  rw [List.foldl_append]
  rfl
theorem stepC_snoc {α : Type} (cs : List (List α)) (c : List α) (os : List α) : stepC (cs ++ [c]) os = stepC cs os ++ os.map fun o => c ++ [o] := by
  unfold stepC
  rw [List.flatMap_append]
  simp
theorem stepC_len {α : Type} (cs : List (List α)) (os : List α) : (stepC cs os).length = cs.length * os.length := by
  induction cs with
  | nil => simp [stepC]
  | cons c r ih =>
    have : stepC (c :: r) os = (os.map fun o => c ++ [o]) ++ stepC r os := by simp [stepC]
    rw [this, List.length_append, List.length_map, ih, List.length_cons, Nat.succ_mul]
    omega
theorem chs_len {α : Type} (m : Nat) (hm : 1 ≤ m) : ∀ (n : Nat) (ls : List (List α)), ls.length = n → (∀ l ∈ ls, l.length ≤ m) → (chs ls).length ≤ m ^ n := by
  intro n
  induction n with
  | zero =>
    intro ls h _
    cases List.eq_nil_of_length_eq_zero h
    exact Nat.le_refl _
  | succ n ih =>
    intro ls h hl
    have hne : ls ≠ [] := fun z => by rw [z] at h; cases h
    obtain ⟨r, x, rfl⟩ : ∃ r x, ls = r ++ [x] := ⟨ls.dropLast, ls.getLast hne, (List.dropLast_concat_getLast hne).symm⟩
    have hr := ih r (by rw [List.length_append] at h; simpa using h) fun l h' => hl l (List.mem_append_left _ h')
    rw [chs_snoc, stepC_len, Nat.pow_succ]
    exact Nat.mul_le_mul hr (hl x (by simp))
theorem chs_width {α : Type} : ∀ (ls : List (List α)) (c : List α), c ∈ chs ls → c.length = ls.length := by
  have key : ∀ (n : Nat) (ls : List (List α)), ls.length = n → ∀ c ∈ chs ls, c.length = n := by
    intro n
    induction n with
    | zero =>
      intro ls h c hc
      cases List.eq_nil_of_length_eq_zero h
      cases List.mem_singleton.mp hc
      rfl
    | succ n ih =>
      intro ls h c hc
      have hne : ls ≠ [] := fun z => by rw [z] at h; cases h
      obtain ⟨r, x, rfl⟩ : ∃ r x, ls = r ++ [x] := ⟨ls.dropLast, ls.getLast hne, (List.dropLast_concat_getLast hne).symm⟩
      rw [chs_snoc] at hc
      obtain ⟨c0, h0, hc⟩ := List.mem_flatMap.mp hc
      obtain ⟨o, _, rfl⟩ := List.mem_map.mp hc
      rw [List.length_append, ih r (by rw [List.length_append] at h; simpa using h) c0 h0]
      rfl
  exact fun ls c h => key _ ls rfl c h
theorem chs_map {α β : Type} (f : α → β) : ∀ (n : Nat) (ls : List (List α)), ls.length = n → chs (ls.map (List.map f)) = (chs ls).map (List.map f) := by
  intro n
  induction n with
  | zero =>
    intro ls h
    cases List.eq_nil_of_length_eq_zero h
    rfl
  | succ n ih =>
    intro ls h
    have hne : ls ≠ [] := fun z => by rw [z] at h; cases h
    obtain ⟨r, x, rfl⟩ : ∃ r x, ls = r ++ [x] := ⟨ls.dropLast, ls.getLast hne, (List.dropLast_concat_getLast hne).symm⟩
    rw [List.map_append, List.map_singleton, chs_snoc, chs_snoc, ih r (by rw [List.length_append] at h; simpa using h)]
    unfold stepC
    rw [List.flatMap_map, List.map_flatMap]
    congr 1
    funext c
    simp
def sp_choices_of (K : PySem.W.Frag) : Sp := fun vs H Q _ => ∃ (la : Addr) (xs : List V) (os : List (List PyData)), vs = [.ref la] ∧ H la = some (.lst xs) ∧ TkAll H xs (os.map PyData.list) ∧ os.length ≤ 3 ∧ (∀ o ∈ os, o.length ≤ 13) ∧ ∀ r H', Same H H' → Tk H' (.ref r) (.tuple ((chs os).map PyData.tuple)) → Q (.ref r) H'
theorem ok_choices_of (T : Tx K mg) : FnOk P w K mg base CX0 1 T.f_choices_of T.fd_choices_of ["lists"] (sp_choices_of K) := by
  refine T.F_choices_of.ok sc_choices_of (fun vs H Q E h => ?_) (fun cdv A outer s H vs Q E hr h => ?_)
  · obtain ⟨la, xs, os, rfl, _⟩ := h
    rfl
  · obtain ⟨la, xs, os, rfl, hla, tk, o3, o8, q⟩ := h
    have big : ∀ i, i ≤ os.length → (chs (os.take i)).length ≤ 2197 := fun i hi => by
      have h1 := chs_len 13 (by decide) i (os.take i) (by rw [List.length_take]; omega) fun l hl => o8 l (List.mem_of_mem_take hl)
      have h2 : 13 ^ i ≤ 13 ^ 3 := Nat.pow_le_pow_right (by decide) (by omega)
      omega
    refine ⟨_, (pss_cons (ps_set (i := 1) sc_choices_of.nd rfl (by first | exact .inl rfl | exact .inr rfl) (pe_lst (pa_cons (pe_tup pa_nil) pa_nil))) (pss_cons (ps_for PassesOwn.never rfl (pi_list (pv 0)) (pg_name (i := 2) sc_choices_of.nd rfl (by first | exact .inl rfl | exact .inr rfl)) (pss_one (ps_setLc2 (i := 1) (own := [("choice", 3), ("option", 4)]) (vs1 := [4]) (by rfl) sc_choices_of.nd rfl rfl (sw_true rfl rfl rfl (by decide +kernel)) (pi_list (pv 1)) (blkOk_by (own := [("choice", 3), ("option", 4)]) (N := ["lists", "choices", "options", "choice", "option"]) (sc := defScope s_choices_of) (by decide +kernel)) (by decide) (fun _ _ _ _ _ => (pg_name (i := 3) sc_choices_of.nd rfl (by first | exact .inl rfl | exact .inr rfl))) (fun _ _ _ _ _ => pts_nil) (fun _ _ _ _ _ => (show PI _ _ _ (iList K _) from pi_list (pv 2))) (fun _ _ _ _ _ => (pg_name (i := 4) sc_choices_of.nd rfl (by first | exact .inl rfl | exact .inr rfl))) (fun _ _ _ _ _ => pts_nil) (fun _ _ _ _ _ => (pe_op (show OpR _ _ (rCatA K) from op_catA) (pv 3) (pe_tup (pa_cons (pv 4) pa_nil))))))) (pss_one (ps_ret (pe_callTy call_tuple_of (by rfl) T.m_tuple (by decide +kernel) (pa_cons (pv 1) pa_nil)))))), ?_⟩
    refine ⟨Nat.zero_le _, fun t0 n0 => ⟨sl1, fun c0 nc0 => ?_⟩⟩
    refine ⟨.ref la, rfl, la, rfl, ⟨_, SqL.of (same_upd nc0 _ _ (same_upd n0 _ _ hla))⟩, for_list (K := K) (a := la) (xs := xs) (fun i σ H' => ∃ ca y2, σ = [some (.ref la), some (.ref ca), y2, none, none] ∧ Same H H' ∧ Tk H' (.ref ca) (.list ((chs (os.take i)).map PyData.tuple)))
      ⟨c0, none, rfl, (same_upd n0).trans (same_upd nc0), .lst upd_same (.cons (.tup (same_upd nc0 _ _ upd_same) .nil) .nil)⟩ (fun i σ H' _ ⟨_, _, _, z, _⟩ => SqL.of (z _ _ hla)) ?_ ?_⟩
    · rintro i x σ H1 hx ⟨ca, y2, rfl, s1, tc⟩
      obtain ⟨dx, hdx, tx⟩ := tk.get hx
      obtain ⟨op, hop, rfl⟩ : ∃ op, os[i]? = some op ∧ dx = .list op := by
        rw [List.getElem?_map] at hdx
        cases hz : os[i]? with
        | none => rw [hz] at hdx; cases hdx
        | some op => rw [hz] at hdx; exact ⟨op, rfl, (Option.some.inj hdx).symm⟩
      obtain ⟨oa, ys, rfl, hoa, ty⟩ := tx.lst_inv
      obtain ⟨ca', cs, e, hca, tcs⟩ := tc.lst_inv
      cases e
      have hi : i < os.length := (List.getElem?_eq_some_iff.mp hop).1
      have o8' := o8 op (List.mem_of_getElem? hop)
      have ytake : chs (os.take (i + 1)) = stepC (chs (os.take i)) op := by
        rw [List.take_add_one, hop]
        exact chs_snoc _ _
      have bigN := big (i + 1) hi
      rw [ytake] at bigN
      refine ⟨.ref ca, rfl, ca, rfl, ⟨_, SqL.of hca⟩, fun D nD => ?_⟩
      have lcs : cs.length = (chs (os.take i)).length := by rw [tcs.length, List.length_map]
      -- both walks
      refine ⟨fun k m H' => m = cs.length - k ∧ k ≤ cs.length ∧ Same H1 (hd1 D H') ∧ ∃ acc, H' D = some (.lst acc) ∧ TkAll (hd1 D H') acc ((stepC ((chs (os.take i)).take k) op).map PyData.tuple), ⟨_, rfl, Nat.zero_le _, hd1_of (same_upd nD) nD, [], upd_same, .nil⟩, ?_⟩
      rintro k m H2 ⟨rfl, hk, s2, acc, hD, ta⟩
      have hca2 := hd1_le _ _ (s2 _ _ hca)
      by_cases hlt : k < cs.length
      · obtain ⟨c, hc⟩ : ∃ c, (chs (os.take i))[k]? = some c := ⟨_, List.getElem?_eq_getElem (by omega)⟩
        have htk : (chs (os.take i)).take (k + 1) = (chs (os.take i)).take k ++ [c] := by
          rw [List.take_add_one, hc]
          rfl
        refine .inr ⟨⟨cs, cs[k], SqL.of hca2, List.getElem?_eq_getElem hlt⟩, fun H' => Same H1 (hd1 D H') ∧ ∃ acc, H' D = some (.lst acc) ∧ TkAll (hd1 D H') acc ((stepC ((chs (os.take i)).take (k + 1)) op).map PyData.tuple), fun σ' ⟨z1, z2⟩ => ⟨cs.length - (k + 1), by omega, rfl, by omega, z1, z2⟩, fun x H' hy => ?_⟩
        obtain ⟨rfl, hy⟩ := hy
        have hx2 : cs[k]? = some x := hy cs (SqL.of hca2)
        obtain ⟨dc, hdc, tx2⟩ := tcs.get hx2
        obtain rfl : dc = .tuple c := by
          rw [List.getElem?_map, hc] at hdc
          exact (Option.some.inj hdc).symm
        obtain ⟨xa, zs, rfl, hxa, tz⟩ := tx2.tup_inv
        refine ⟨rfl, ?_⟩
        have hoa2 := hd1_le _ _ (s2 _ _ (s1 _ _ hoa))
        refine ⟨.ref oa, rfl, oa, rfl, ⟨_, SqL.of hoa2⟩, ?_⟩
        refine ⟨fun j n H' => n = ys.length - j ∧ j ≤ ys.length ∧ Same H1 (hd1 D H') ∧ ∃ acc, H' D = some (.lst acc) ∧ TkAll (hd1 D H') acc ((stepC ((chs (os.take i)).take k) op ++ (op.take j).map fun o => c ++ [o]).map PyData.tuple), ⟨_, rfl, Nat.zero_le _, s2, acc, hD, by rw [List.take_zero, List.map_nil, List.append_nil]; exact ta⟩, ?_⟩
        rintro j n H3 ⟨rfl, hj, s3, acc3, hD3, ta3⟩
        have hoa3 := hd1_le _ _ (s3 _ _ (s1 _ _ hoa))
        have lys : ys.length = op.length := ty.length
        by_cases hjl : j < ys.length
        · obtain ⟨ov, hov⟩ : ∃ ov, op[j]? = some ov := ⟨_, List.getElem?_eq_getElem (by omega)⟩
          refine .inr ⟨⟨ys, ys[j], SqL.of hoa3, List.getElem?_eq_getElem hjl⟩, fun H' => Same H1 (hd1 D H') ∧ ∃ acc, H' D = some (.lst acc) ∧ TkAll (hd1 D H') acc ((stepC ((chs (os.take i)).take k) op ++ (op.take (j + 1)).map fun o => c ++ [o]).map PyData.tuple), fun σ' ⟨z1, z2⟩ => ⟨ys.length - (j + 1), by omega, rfl, by omega, z1, z2⟩, fun y Hn hy => ?_⟩
          obtain ⟨rfl, hy⟩ := hy
          have hy2 : ys[j]? = some y := hy ys (SqL.of hoa3)
          obtain ⟨dy, hdy, ty2⟩ := ty.get hy2
          cases Option.some.inj (hdy.symm.trans hov)
          refine ⟨rfl, ?_⟩
          -- choice + (option,)
          have hxa3 := hd1_le _ _ (s3 _ _ hxa)
          refine ⟨.ref xa, rfl, y, rfl, sl1, fun t nt => ?_⟩
          have st := same_upd (o := .tup [y]) nt
          have ntD : t ≠ D := (ne_of_none hD3 nt).symm
          have sD := hd1_same (p := D) st
          have ty3 : Tk (hd1 D Hn) y ov := ty2.same (s1.trans s3)
          have tz3 : TkAll (hd1 D Hn) zs c := tz.same s3
          have lacc : acc3.length < sizeLine := by
            have h1 := ta3.length
            rw [List.length_map, List.length_append, stepC_len, List.length_map, List.length_take, List.length_take] at h1
            have h2 : min k (chs (os.take i)).length * op.length ≤ 2197 * 13 := Nat.mul_le_mul (by have := big i (by omega); omega) o8'
            have : sizeLine = 16777216 := by decide
            omega
          have done : ∀ (H4 : Hp) (p : Addr), Same (hd1 D Hn) (hd1 D H4) → H4 D = some (.lst acc3) → p ≠ D → H4 p = some (.tup (zs ++ [y])) → TkAll (hd1 D H4) zs c → Tk (hd1 D H4) y ov → ∃ acc, H4 D = some (.lst acc) ∧ acc.length < sizeLine ∧ Same H1 (hd1 D (upd H4 D (.lst (acc ++ [.ref p])))) ∧ ∃ acc', (upd H4 D (.lst (acc ++ [.ref p]))) D = some (.lst acc') ∧ TkAll (hd1 D (upd H4 D (.lst (acc ++ [.ref p])))) acc' ((stepC ((chs (os.take i)).take k) op ++ (op.take (j + 1)).map fun o => c ++ [o]).map PyData.tuple) := fun H4 p s4 h4 np hp tzz tyy => by
            refine ⟨acc3, h4, lacc, (s3.trans s4).trans hd1_upd, acc3 ++ [.ref p], upd_same, ?_⟩
            rw [List.take_add_one, hov]
            show TkAll _ _ ((_ ++ (op.take j ++ [ov]).map _).map _)
            rw [List.map_append (l₁ := op.take j), ← List.append_assoc, List.map_append]
            refine ((ta3.same s4).same hd1_upd).append (.cons (.tup (xs := zs ++ [y]) ?_ ((tzz.same hd1_upd).append (.cons (tyy.same hd1_upd) .nil))) .nil)
            rw [hd1_at np, upd_ne np]
            exact hp
          have lz : zs.length + 1 ≤ sizeLine := by
            have h1 := (Tk.tup hxa tz)
            have h2 := tz.length
            have h3 : c.length ≤ 8 := by
              have := chs_width (os.take i) c (List.mem_of_getElem? hc)
              have h8 : os.length ≤ 8 := by omega
              rw [this, List.length_take]
              omega
            have : sizeLine = 16777216 := by decide
            omega
          refine ⟨xa, t, zs, [y], rfl, rfl, SqT.of (st _ _ hxa3), SqT.of upd_same, lz, fun ez => ?_, (fun _ z => by cases z), fun nz _ p np => ?_⟩
          · subst ez
            exact done _ t sD (st _ _ hD3) ntD upd_same (tz3.same sD) (ty3.same sD)
          · have sp := same_upd (o := .tup (zs ++ [y])) np
            have sDp := hd1_same (p := D) sp
            have npD : p ≠ D := (ne_of_none (st _ _ hD3) np).symm
            exact done _ p (sD.trans sDp) (sp _ _ (st _ _ hD3)) npD upd_same ((tz3.same sD).same sDp) ((ty3.same sD).same sDp)
        · have ej : j = ys.length := by omega
          refine .inl ⟨⟨ys, SqL.of hoa3, by omega⟩, s3, acc3, hD3, ?_⟩
          rw [htk, stepC_snoc]
          rw [ej, lys, List.take_length] at ta3
          exact ta3
      · have ek : k = cs.length := by omega
        refine .inl ⟨⟨cs, SqL.of hca2, by omega⟩, ?_⟩
        refine ⟨D, _, rfl, fun b o e => hd1_le _ _ (s2 _ _ (s1 _ _ e)), ?_⟩
        rw [ytake]
        refine .lst hD ?_
        rw [ek, lcs, List.take_length] at ta
        exact ta.same hd1_le
    · rintro σ H1 ⟨ca, y2, rfl, s1, tc⟩
      have lx : xs.length = os.length := by rw [tk.length, List.length_map]
      rw [lx, List.take_length] at tc
      obtain ⟨ca', cs, e, hca, tcs⟩ := tc.lst_inv
      cases e
      refine ⟨.ref ca, rfl, ca, cs, rfl, .inl ⟨SqL.of hca, fun r nr => ?_⟩⟩
      exact q r _ (s1.trans (same_upd nr)) (.tup upd_same (tcs.same (same_upd nr)))

end
/-! ### counts of changes: all of them, their places, what can still come -/
theorem snoc_ind {α : Type} {P : List α → Prop} (h0 : P []) (hs : ∀ r x, P r → P (r ++ [x])) (l : List α) : P l := by
  have key : ∀ m : List α, P m.reverse := by
    intro m
    induction m with
    | nil => exact h0
    | cons x r ih => rw [List.reverse_cons]; exact hs _ _ ih
  have := key l.reverse
  rwa [List.reverse_reverse] at this
def cnt (ns : List Nat) : Nat := ns.foldl (fun m n => m * (n + 1)) 1
def idx (ns c : List Nat) : Nat := (ns.zip c).foldl (fun a p => a * (p.1 + 1) + p.2) 0
def every (ns : List Nat) : List (List Nat) := chs (ns.map fun n => List.range (n + 1))
def Le (c ns : List Nat) : Prop := c.length = ns.length ∧ ∀ (p x n : Nat), c[p]? = some x → ns[p]? = some n → x ≤ n
theorem cnt_snoc (r : List Nat) (n : Nat) : cnt (r ++ [n]) = cnt r * (n + 1) := by
  unfold cnt
  rw [List.foldl_append]
  rfl
theorem cnt_pos (ns : List Nat) : 1 ≤ cnt ns := by
  induction ns using snoc_ind with
  | h0 => exact Nat.le_refl 1
  | hs r x ih =>
    rw [cnt_snoc]
    exact Nat.mul_le_mul ih (show 1 ≤ x + 1 by omega)
theorem idx_snoc {r c : List Nat} {n x : Nat} (h : c.length = r.length) : idx (r ++ [n]) (c ++ [x]) = idx r c * (n + 1) + x := by
  unfold idx
  rw [List.zip_append h.symm, List.foldl_append]
  rfl
theorem every_snoc (r : List Nat) (n : Nat) : every (r ++ [n]) = stepC (every r) (List.range (n + 1)) := by
  unfold every
  rw [List.map_append]
  exact chs_snoc _ _
theorem stepC_at {α : Type} (os : List α) : ∀ (cs : List (List α)) (i j : Nat) (c : List α) (o : α), cs[i]? = some c → os[j]? = some o → (stepC cs os)[i * os.length + j]? = some (c ++ [o])
  | [], i, j, c, o, hc, ho => by simp at hc
  | c0 :: r, 0, j, c, o, hc, ho => by
    have e : stepC (c0 :: r) os = (os.map fun o => c0 ++ [o]) ++ stepC r os := by simp [stepC]
    have hj := (List.getElem?_eq_some_iff.mp ho).1
    cases Option.some.inj hc
    rw [e, List.getElem?_append_left (by rw [List.length_map]; omega), List.getElem?_map, Nat.zero_mul, Nat.zero_add, ho]
    rfl
  | c0 :: r, i + 1, j, c, o, hc, ho => by
    have e : stepC (c0 :: r) os = (os.map fun o => c0 ++ [o]) ++ stepC r os := by simp [stepC]
    have k : (i + 1) * os.length + j = os.length + (i * os.length + j) := by rw [Nat.succ_mul]; omega
    rw [e, k, List.getElem?_append_right (by rw [List.length_map]; omega), List.length_map, Nat.add_sub_cancel_left]
    exact stepC_at os r i j c o hc ho
theorem every_len (ns : List Nat) : (every ns).length = cnt ns := by
  induction ns using snoc_ind with
  | h0 => rfl
  | hs r x ih => rw [every_snoc, stepC_len, List.length_range, ih, cnt_snoc]
theorem Le.snoc {c r : List Nat} {n : Nat} (h : Le c (r ++ [n])) : ∃ c0 x, c = c0 ++ [x] ∧ Le c0 r ∧ x ≤ n := by
  have hl := h.1
  rw [List.length_append] at hl
  have hne : c ≠ [] := fun z => by rw [z] at hl; simp at hl
  obtain ⟨c0, x, rfl⟩ : ∃ r x, c = r ++ [x] := ⟨c.dropLast, c.getLast hne, (List.dropLast_concat_getLast hne).symm⟩
  have l0 : c0.length = r.length := by rw [List.length_append] at hl; simpa using hl
  refine ⟨c0, x, rfl, ⟨l0, fun p y m hy hm => ?_⟩, ?_⟩
  · have p1 := (List.getElem?_eq_some_iff.mp hy).1
    refine h.2 p y m ?_ ?_
    · rw [List.getElem?_append_left p1]; exact hy
    · rw [List.getElem?_append_left (by omega)]; exact hm
  · refine h.2 r.length x n ?_ ?_
    · rw [List.getElem?_append_right (by omega), l0, Nat.sub_self]; rfl
    · rw [List.getElem?_append_right (by omega), Nat.sub_self]; rfl
theorem Le.push {c r : List Nat} {n x : Nat} (h : Le c r) (hx : x ≤ n) : Le (c ++ [x]) (r ++ [n]) := by
  refine ⟨by rw [List.length_append, List.length_append, h.1]; rfl, fun p y m hy hm => ?_⟩
  by_cases hp : p < r.length
  · rw [List.getElem?_append_left (by rw [h.1]; exact hp)] at hy
    rw [List.getElem?_append_left hp] at hm
    exact h.2 p y m hy hm
  · have p2 := (List.getElem?_eq_some_iff.mp hm).1
    rw [List.length_append] at p2
    have : p = r.length := by simp at p2; omega
    subst this
    rw [List.getElem?_append_right (by rw [h.1]; omega), h.1, Nat.sub_self] at hy
    rw [List.getElem?_append_right (by omega), Nat.sub_self] at hm
    cases Option.some.inj hy
    cases Option.some.inj hm
    exact hx
theorem every_at (ns : List Nat) : ∀ c, Le c ns → (every ns)[idx ns c]? = some c := by
  induction ns using snoc_ind with
  | h0 =>
    intro c h
    have : c = [] := List.eq_nil_of_length_eq_zero h.1
    subst this
    rfl
  | hs r n ih =>
    intro c h
    obtain ⟨c0, x, rfl, h0, hx⟩ := h.snoc
    rw [every_snoc, idx_snoc h0.1]
    have := stepC_at (List.range (n + 1)) (every r) (idx r c0) x c0 x (ih c0 h0) (by rw [List.getElem?_range (by omega)])
    rwa [List.length_range] at this
theorem every_idx (ns : List Nat) : ∀ (at_ : Nat) (c : List Nat), (every ns)[at_]? = some c → Le c ns ∧ idx ns c = at_ := by
  induction ns using snoc_ind with
  | h0 =>
    intro at_ c h
    cases at_ with
    | zero =>
      have : ([] : List Nat) = c := Option.some.inj h
      subst this
      exact ⟨⟨rfl, fun p x n hx => by simp at hx⟩, rfl⟩
    | succ k => cases (show (none : Option (List Nat)) = some c from h)
  | hs r n ih =>
    intro at_ c h
    have hlt := (List.getElem?_eq_some_iff.mp h).1
    rw [every_len, cnt_snoc] at hlt
    have hq : at_ / (n + 1) < cnt r := Nat.div_lt_of_lt_mul (by rw [Nat.mul_comm]; exact hlt)
    obtain ⟨c0, hc0⟩ : ∃ c0, (every r)[at_ / (n + 1)]? = some c0 := ⟨_, List.getElem?_eq_getElem (by rw [every_len]; exact hq)⟩
    have hx : at_ % (n + 1) < n + 1 := Nat.mod_lt _ (by omega)
    have key := stepC_at (List.range (n + 1)) (every r) (at_ / (n + 1)) (at_ % (n + 1)) c0 (at_ % (n + 1)) hc0 (by rw [List.getElem?_range hx])
    have e : at_ / (n + 1) * (n + 1) + at_ % (n + 1) = at_ := by rw [Nat.mul_comm]; exact Nat.div_add_mod _ _
    rw [List.length_range, e] at key
    rw [every_snoc] at h
    cases Option.some.inj (key.symm.trans h)
    obtain ⟨h1, h2⟩ := ih _ _ hc0
    exact ⟨h1.push (by omega), by rw [idx_snoc h1.1, h2, e]⟩
def inc (c : List Nat) (p : Nat) : List Nat := c.set p (c.getD p 0 + 1)
theorem idx_inc (ns : List Nat) : ∀ (c : List Nat) (p : Nat), c.length = ns.length → p < ns.length → idx ns (inc c p) = idx ns c + cnt (ns.drop (p + 1)) := by
  induction ns using snoc_ind with
  | h0 => intro c p h hp; simp at hp
  | hs r n ih =>
    intro c p h hp
    have hne : c ≠ [] := fun z => by rw [z] at h; simp at h
    obtain ⟨c0, x, rfl⟩ : ∃ r x, c = r ++ [x] := ⟨c.dropLast, c.getLast hne, (List.dropLast_concat_getLast hne).symm⟩
    have l0 : c0.length = r.length := by rw [List.length_append, List.length_append] at h; simpa using h
    rw [List.length_append] at hp
    have hp : p < r.length + 1 := hp
    by_cases hpr : p < r.length
    · have e1 : inc (c0 ++ [x]) p = inc c0 p ++ [x] := by
        unfold inc
        rw [List.set_append_left _ _ (by omega), List.getD_eq_getElem?_getD, List.getElem?_append_left (by omega), ← List.getD_eq_getElem?_getD]
      have l1 : (inc c0 p).length = r.length := by unfold inc; rw [List.length_set, l0]
      rw [e1, idx_snoc l1, idx_snoc l0, ih c0 p l0 hpr, List.drop_append_of_le_length (by omega), cnt_snoc, Nat.add_mul]
      omega
    · have : p = r.length := by omega
      subst this
      have e1 : inc (c0 ++ [x]) r.length = c0 ++ [x + 1] := by
        unfold inc
        rw [List.getD_eq_getElem?_getD, ← l0, List.getElem?_append_right (Nat.le_refl _), Nat.sub_self, List.set_append_right _ _ (Nat.le_refl _), Nat.sub_self]
        rfl
      rw [e1, idx_snoc l0, idx_snoc l0, List.drop_eq_nil_of_le (by rw [List.length_append]; simp)]
      rfl
/-! ### worths by counts -/
def tw (f : Int) (c : Nat) : Int := if c % 2 = 0 then f else 1 - f
theorem tw01 {f : Int} (h : f = 0 ∨ f = 1) (c : Nat) : tw f c = 0 ∨ tw f c = 1 := by
  unfold tw
  split <;> omega
theorem tw_succ {f : Int} (c : Nat) : tw f (c + 1) = 1 - tw f c := by
  unfold tw
  by_cases h : c % 2 = 0
  · rw [if_pos h, if_neg (by omega)]
  · rw [if_neg h, if_pos (by omega)]
    omega
def wsOf (fs : List Int) (c : List Nat) : List Int := List.zipWith tw fs c
def Wc (bs : List Bool) (fs : List Int) (c : List Nat) : Int := gateM bs (wsOf fs c)
def xr (a b : Int) : Int := if a = b then 0 else 1
def mx0 (l : List Int) : Int := l.foldl max 0
theorem mx_ge : ∀ (l : List Int) (m : Int), m ≤ l.foldl max m ∧ ∀ y ∈ l, y ≤ l.foldl max m
  | [], m => ⟨Int.le_refl _, fun y hy => by cases hy⟩
  | x :: r, m => by
    obtain ⟨h1, h2⟩ := mx_ge r (max m x)
    rw [List.foldl_cons]
    refine ⟨by omega, fun y hy => ?_⟩
    rcases List.mem_cons.mp hy with rfl | hy
    · omega
    · exact h2 y hy
theorem mx_in : ∀ (l : List Int) (m : Int), l.foldl max m = m ∨ l.foldl max m ∈ l
  | [], m => .inl rfl
  | x :: r, m => by
    rw [List.foldl_cons]
    rcases mx_in r (max m x) with h | h
    · rw [h]
      by_cases hx : m ≤ x
      · rw [Int.max_eq_right hx]; exact .inr (List.mem_cons_self ..)
      · rw [Int.max_eq_left (by omega)]; exact .inl rfl
    · exact .inr (List.mem_cons_of_mem _ h)
theorem mx0_nonneg (l : List Int) : 0 ≤ mx0 l := (mx_ge l 0).1
theorem mx0_of {l : List Int} {m : Int} (h0 : ∀ y ∈ l, 0 ≤ y) (h1 : l = [] → m = 0) (h2 : l ≠ [] → m ∈ l ∧ ∀ y ∈ l, y ≤ m) : m = mx0 l := by
  by_cases hl : l = []
  · rw [h1 hl, hl]; rfl
  · obtain ⟨a, b⟩ := h2 hl
    have k1 := (mx_ge l 0).2 m a
    have k2 := h0 m a
    unfold mx0
    rcases mx_in l 0 with z | z
    · omega
    · have := b _ z
      omega
theorem mx0_le {l : List Int} {m : Int} (h0 : 0 ≤ m) (h : ∀ y ∈ l, y ≤ m) : mx0 l ≤ m := by
  unfold mx0
  rcases mx_in l 0 with z | z
  · omega
  · exact h _ z
/-! ### the greatest that can still come -/
def nexts (ns c : List Nat) : List Nat := (List.range ns.length).filter fun p => decide (c.getD p 0 < ns.getD p 0)
def grF (bs : List Bool) (fs : List Int) (ns : List Nat) : Nat → List Nat → Int
  | 0, _ => 0
  | k + 1, c => mx0 ((nexts ns c).map fun p => grF bs fs ns k (inc c p) + xr (Wc bs fs c) (Wc bs fs (inc c p)))
def rem (ns c : List Nat) : Nat := (List.zipWith (· - ·) ns c).sum
def gr (bs : List Bool) (fs : List Int) (ns c : List Nat) : Int := grF bs fs ns (rem ns c) c
theorem rem_inc : ∀ (ns c : List Nat) (p : Nat), c.length = ns.length → p < ns.length → c.getD p 0 < ns.getD p 0 → rem ns (inc c p) + 1 = rem ns c
  | [], c, p, h, hp, _ => by simp at hp
  | n :: r, [], p, h, hp, _ => by simp at h
  | n :: r, x :: s, 0, h, hp, hx => by
    have hx : x < n := hx
    show (n - (x + 1)) + rem r s + 1 = (n - x) + rem r s
    omega
  | n :: r, x :: s, p + 1, h, hp, hx => by
    have := rem_inc r s p (by simpa using h) (by simpa using hp) hx
    show (n - x) + rem r (inc s p) + 1 = (n - x) + rem r s
    omega
theorem next_iff {ns c : List Nat} {p : Nat} : p ∈ nexts ns c ↔ p < ns.length ∧ c.getD p 0 < ns.getD p 0 := by
  unfold nexts
  rw [List.mem_filter, List.mem_range, decide_eq_true_eq]
theorem gr_eq {bs : List Bool} {fs : List Int} {ns c : List Nat} (h : c.length = ns.length) : gr bs fs ns c = mx0 ((nexts ns c).map fun p => gr bs fs ns (inc c p) + xr (Wc bs fs c) (Wc bs fs (inc c p))) := by
  unfold gr
  cases hk : rem ns c with
  | zero =>
    have : nexts ns c = [] := by
      refine List.eq_nil_iff_forall_not_mem.mpr fun p hp => ?_
      obtain ⟨h1, h2⟩ := next_iff.mp hp
      have := rem_inc ns c p h h1 h2
      omega
    rw [this]
    rfl
  | succ k =>
    show mx0 _ = _
    congr 1
    refine List.map_congr_left fun p hp => ?_
    obtain ⟨h1, h2⟩ := next_iff.mp hp
    have := rem_inc ns c p h h1 h2
    have e : rem ns (inc c p) = k := by omega
    rw [e]
theorem xr01 (a b : Int) : xr a b = 0 ∨ xr a b = 1 := by
  unfold xr
  split
  · exact .inl rfl
  · exact .inr rfl
theorem gr_nonneg (bs : List Bool) (fs : List Int) (ns c : List Nat) : 0 ≤ gr bs fs ns c := by
  unfold gr
  cases rem ns c with
  | zero => exact Int.le_refl _
  | succ k => exact mx0_nonneg _
theorem grF_le (bs : List Bool) (fs : List Int) (ns : List Nat) : ∀ (k : Nat) (c : List Nat), grF bs fs ns k c ≤ k
  | 0, _ => Int.le_refl _
  | k + 1, c => by
    refine mx0_le (by omega) fun y hy => ?_
    obtain ⟨p, _, rfl⟩ := List.mem_map.mp hy
    have h1 := grF_le bs fs ns k (inc c p)
    have h2 := xr01 (Wc bs fs c) (Wc bs fs (inc c p))
    omega
theorem inc_len (c : List Nat) (p : Nat) : (inc c p).length = c.length := by unfold inc; rw [List.length_set]
theorem Le.inc {c ns : List Nat} {p : Nat} (h : Le c ns) (hp : p ∈ nexts ns c) : Le (inc c p) ns := by
  obtain ⟨h1, h2⟩ := next_iff.mp hp
  refine ⟨by rw [inc_len, h.1], fun q x n hx hn => ?_⟩
  unfold Gk.inc at hx
  rw [List.getElem?_set] at hx
  by_cases hq : p = q
  · subst hq
    rw [if_pos rfl, if_pos (by rw [h.1]; exact h1)] at hx
    have := Option.some.inj hx
    rw [List.getD_eq_getElem?_getD (l := ns), hn] at h2
    have : c.getD p 0 < n := h2
    omega
  · rw [if_neg hq] at hx
    exact h.2 q x n hx hn

end Gk

set_option Elab.async false
set_option linter.all false
set_option maxRecDepth 100000
set_option maxHeartbeats 1000000
set_option pp.maxSteps 1500
set_option pp.deepTerms false
namespace Gk
open PySem PySem.Spec PyProof.Rows L2
section
variable {P : Program} {w : World} {K : PySem.W.Frag} {mg : Str → Option Value} {base : Heap}
theorem ok_table_worth (T : Tx K mg) : FnOk P w K mg base CX0 1 T.f_table_worth T.fd_table_worth ["table", "worths"] (spGate K) := by
  refine T.F_table_worth.ok sc_table_worth (fun vs H Q E h => ?_) (fun cdv A outer s H vs Q E hr h => ?_)
  · obtain ⟨bs, la, ws, rfl, _⟩ := h
    rfl
  · obtain ⟨bs, la, ws, rfl, hS, hw, hb, h3, q⟩ := h
    obtain ⟨b, p0, p1, p2, p3, p4⟩ := gate_read hw hb h3
    refine ⟨_, (pss_cons (ps_set (i := 2) sc_table_worth.nd rfl (by first | exact .inl rfl | exact .inr rfl) pe_int) (pss_cons (ps_for PassesOwn.never rfl (pi_list (pv 1)) (pg_name (i := 3) sc_table_worth.nd rfl (by first | exact .inl rfl | exact .inr rfl)) (pss_one (ps_set (i := 2) sc_table_worth.nd rfl (by first | exact .inl rfl | exact .inr rfl) (pe_op op_add (pe_op op_mul pe_int (pv 2)) (pv 3))))) (pss_one (ps_ret (pe_callTy call_int_str (by rfl) T.m_int (by decide +kernel) (pa_cons (pe_item_str (pv 0) (pv 2) (fun _ _ => rfl)) pa_nil)))))), ?_⟩
    refine ⟨.ref la, rfl, la, rfl, ⟨_, hS⟩, for_list (K := K) (a := la) (xs := ws.map V.int) (fun i σ H' => ∃ y, σ = [some (.str (tabOf bs)), some (.ref la), some (.int (plc (ws.take i))), y] ∧ H' = H) ⟨none, rfl, rfl⟩ (fun i σ H' _ ⟨_, _, e⟩ => by rw [e]; exact hS) ?_ ?_⟩
    · rintro i x σ H' hx ⟨y, rfl, rfl⟩
      obtain ⟨u, hu, rfl⟩ : ∃ u, ws[i]? = some u ∧ x = V.int u := by
        rw [List.getElem?_map] at hx
        cases hz : ws[i]? with
        | none => rw [hz] at hx; cases hx
        | some u => rw [hz] at hx; exact ⟨u, rfl, (Option.some.inj hx).symm⟩
      refine ⟨.int (plc (ws.take i)), rfl, 2, _, rfl, rfl, .inl ⟨by decide, by decide⟩, .int u, rfl, _, _, rfl, rfl, some (.int u), ?_, rfl⟩
      rw [plc_take hu]
      rfl
    · rintro σ H' ⟨y, rfl, rfl⟩
      rw [List.length_map, List.take_length]
      refine ⟨.str (tabOf bs), rfl, .int (plc ws), rfl, _, _, _, rfl, rfl, p0, p1, p2, p3, _, _, rfl, int_sign b, (show 1 ≤ 640 by decide), ?_⟩
      rw [← p4]
      exact q

def natV (ns : List Nat) : List V := (ns.map Int.ofNat).map V.int
theorem natV_len (ns : List Nat) : (natV ns).length = ns.length := by unfold natV; rw [List.length_map, List.length_map]
theorem natV_at {ns : List Nat} {i n : Nat} (h : ns[i]? = some n) : (natV ns)[i]? = some (.int (Int.ofNat n)) := by
  unfold natV
  rw [List.getElem?_map, List.getElem?_map, h]
  rfl
theorem natV_inv {ns : List Nat} {i : Nat} {v : V} (h : (natV ns)[i]? = some v) : ∃ n, ns[i]? = some n ∧ v = .int (Int.ofNat n) := by
  unfold natV at h
  rw [List.getElem?_map, List.getElem?_map] at h
  cases hz : ns[i]? with
  | none => rw [hz] at h; cases h
  | some n => rw [hz] at h; exact ⟨n, rfl, (Option.some.inj h).symm⟩
theorem natV_drop (ns : List Nat) (k : Nat) : (natV ns).drop k = natV (ns.drop k) := by
  unfold natV
  rw [List.map_drop, List.map_drop]
/-- numbers of changes as they may be handed in: at most three, at most twelve each -/
def Few (ns : List Nat) : Prop := ns.length ≤ 3 ∧ ∀ n ∈ ns, n ≤ 12
theorem Few.drop {ns : List Nat} (h : Few ns) (k : Nat) : Few (ns.drop k) := ⟨by rw [List.length_drop]; have := h.1; omega, fun n hn => h.2 n (List.mem_of_mem_drop hn)⟩
theorem Few.take {ns : List Nat} (h : Few ns) (k : Nat) : Few (ns.take k) := ⟨by rw [List.length_take]; have := h.1; omega, fun n hn => h.2 n (List.mem_of_mem_take hn)⟩
theorem cnt_take {ns : List Nat} {i n : Nat} (h : ns[i]? = some n) : cnt (ns.take (i + 1)) = cnt (ns.take i) * (n + 1) := by
  rw [List.take_add_one, h]
  exact cnt_snoc _ _
theorem cnt_le (ns : List Nat) : (∀ n ∈ ns, n ≤ 12) → cnt ns ≤ 13 ^ ns.length := by
  induction ns using snoc_ind with
  | h0 => intro _; exact Nat.le_refl _
  | hs r x ih =>
    intro h
    rw [cnt_snoc, List.length_append, Nat.pow_add]
    have hx := h x (by simp)
    exact Nat.mul_le_mul (ih fun n hn => h n (List.mem_append_left _ hn)) (show x + 1 ≤ 13 by omega)
theorem cnt_few {ns : List Nat} (h : Few ns) : cnt ns ≤ 2197 := Nat.le_trans (cnt_le ns h.2) (Nat.pow_le_pow_right (n := 13) (by decide) h.1)
def sp_many_counts (K : PySem.W.Frag) : Sp := fun vs H Q _ => ∃ (a : Addr) (ns : List Nat), vs = [.ref a] ∧ H a = some (.tup (natV ns)) ∧ Few ns ∧ Q (.int (cnt ns : Nat)) H
theorem ok_many_counts (T : Tx K mg) : FnOk P w K mg base CX0 1 T.f_many_counts T.fd_many_counts ["numbers"] (sp_many_counts K) := by
  refine T.F_many_counts.ok sc_many_counts (fun vs H Q E h => ?_) (fun cdv A outer s H vs Q E hr h => ?_)
  · obtain ⟨a, ns, rfl, _⟩ := h
    rfl
  · obtain ⟨a, ns, rfl, ha, few, q⟩ := h
    refine ⟨_, (pss_cons (ps_set (i := 1) sc_many_counts.nd rfl (by first | exact .inl rfl | exact .inr rfl) pe_int) (pss_cons (ps_for PassesOwn.never rfl (pi_tup (pv 0)) (pg_name (i := 2) sc_many_counts.nd rfl (by first | exact .inl rfl | exact .inr rfl)) (pss_one (ps_aug (i := 1) sc_many_counts.nd rfl (by first | exact .inl rfl | exact .inr rfl) (pe_op op_add (pv 2) pe_int) iop_mul))) (pss_one (ps_ret (pv 1))))), ?_⟩
    refine ⟨.ref a, rfl, a, rfl, ⟨_, SqT.of ha⟩, for_tup (K := K) (a := a) (xs := natV ns) (fun i σ H' => ∃ y2, σ = [some (.ref a), some (.int (cnt (ns.take i) : Nat)), y2] ∧ H' = H) ⟨_, rfl, rfl⟩ (fun i σ H' _ ⟨_, _, e⟩ => by rw [e]; exact SqT.of ha) ?_ ?_⟩
    · rintro i v σ H1 hv ⟨y2, rfl, rfl⟩
      obtain ⟨n, hn, rfl⟩ := natV_inv hv
      have n12 := few.2 n (List.mem_of_getElem? hn)
      refine ⟨.int (cnt (ns.take i) : Nat), rfl, .int (Int.ofNat n), rfl, _, _, rfl, rfl, _, _, rfl, rfl, .inr ⟨by show _ ≤ (n : Int) + 1; omega, by show (n : Int) + 1 < _; omega⟩, some (.int (Int.ofNat n)), ?_, rfl⟩
      rw [cnt_take hn]
      show [_, some (V.int (((cnt (ns.take i) : Nat) : Int) * ((n : Int) + 1))), _] = _
      push_cast
      rfl
    · rintro σ H1 ⟨y2, rfl, rfl⟩
      rw [natV_len, List.take_length]
      exact ⟨_, rfl, q⟩
def strides (ns : List Nat) (k : Nat) : List Nat := (List.range k).map fun p => cnt (ns.drop (p + 1))
def sp_strides_of (K : PySem.W.Frag) : Sp := fun vs H Q _ => ∃ (a : Addr) (ns : List Nat), vs = [.ref a] ∧ H a = some (.tup (natV ns)) ∧ Few ns ∧ ∀ r H', Same H H' → H' r = some (.lst (natV (strides ns ns.length))) → Q (.ref r) H'
theorem ok_strides_of (T : Tx K mg) : FnOk P w K mg base CX0 2 T.f_strides_of T.fd_strides_of ["numbers"] (sp_strides_of K) := by
  refine T.F_strides_of.ok sc_strides_of (fun vs H Q E h => ?_) (fun cdv A outer s H vs Q E hr h => ?_)
  · obtain ⟨a, ns, rfl, _⟩ := h
    rfl
  · obtain ⟨a, ns, rfl, ha, few, q⟩ := h
    refine ⟨_, (pss_one (ps_ret (pe_lc (own := [("place", 1)]) (by rfl) sc_strides_of.nd (pi_range1 (by rfl) T.m_range (pa_cons (pe_callB call_len_seq (by rfl) T.m_len PySem.boot_len (pa_cons (pv 0) pa_nil)) pa_nil)) (blkOk_by (own := [("place", 1)]) (N := ["numbers", "place"]) (sc := defScope s_strides_of) (by decide +kernel)) (fun _ _ _ _ _ => (pg_name (i := 1) sc_strides_of.nd rfl (by first | exact .inl rfl | exact .inr rfl))) (fun _ _ _ _ _ => pts_nil) (fun _ _ _ _ _ => (pe_call (ok_many_counts T) (hr.mono (by decide)) (by rfl) T.g_many_counts T.F_many_counts.kp T.b_many_counts .nil pass0 (pa_cons (pe_slice (show SlR _ (rSlA K) from sl_tupA) (pv 0) (po_some (pe_op op_add (pv 1) pe_int)) po_none) pa_nil)))))), ?_⟩
    have f3 := few.1
    refine ⟨.ref a, rfl, a, _, rfl, .inr (SqT.of ha), _, rfl, ?_, ?_, fun D nD => ?_⟩
    · rw [natV_len]
      omega
    · rw [natV_len]
      omega
    refine lc_range (lo := 0) (n := ((natV ns).length : Int).toNat) (fun k H' => Same H (hd1 D H') ∧ H' D = some (.lst (natV (strides ns k)))) ⟨hd1_of (same_upd nD) nD, upd_same⟩ ?_ ?_
    · rintro k H2 hk ⟨s2, h2⟩
      rw [natV_len] at hk
      have hk : k < ns.length := by omega
      have ek : (0 : Int) + (k : Int) = (k : Int) := Int.zero_add _
      rw [ek]
      have ha2 := hd1_le _ _ (s2 _ _ ha)
      refine ⟨rfl, .ref a, rfl, .int (k : Nat), rfl, _, _, rfl, rfl, ((k + 1 : Nat) : Int), rfl, ?_⟩
      refine slAn ha2 fun p H3 s3 h3 => ?_
      rw [cut_from, natV_drop] at h3
      refine ⟨p, ns.drop (k + 1), rfl, h3, few.drop _, ?_⟩
      refine ⟨_, s3 _ _ h2, ?_, (s2.trans (hd1_same s3)).trans hd1_upd, ?_⟩
      · rw [natV_len]
        unfold strides
        rw [List.length_map, List.length_range]
        exact Nat.lt_of_lt_of_le (show k < 8 by omega) (by decide)
      · rw [upd_same]
        unfold strides natV
        rw [List.range_succ, List.map_append, List.map_append, List.map_append]
        rfl
    · rintro H2 ⟨s2, h2⟩
      have e : ((natV ns).length : Int).toNat = ns.length := by rw [natV_len]; omega
      rw [e] at h2
      exact q D H2 (fun b o e => hd1_le _ _ (s2 _ _ e)) h2
/-! ### a worth by counts -/
theorem xor_tw : ∀ (f : Int) (c : Nat), (f = 0 ∨ f = 1) → c ≤ 12 → Builtin.bitXor f (Builtin.bitAnd (Int.ofNat c) 1) = tw f c := by
  have key : ((List.range 13).all fun c => decide (Builtin.bitXor 0 (Builtin.bitAnd (Int.ofNat c) 1) = tw 0 c) && decide (Builtin.bitXor 1 (Builtin.bitAnd (Int.ofNat c) 1) = tw 1 c)) = true := by decide +kernel
  intro f c hf hc
  have h := List.all_eq_true.mp key c (List.mem_range.mpr (by omega))
  rw [Bool.and_eq_true] at h
  rcases hf with rfl | rfl
  · exact of_decide_eq_true h.1
  · exact of_decide_eq_true h.2
theorem xor_xr {a b : Int} (ha : a = 0 ∨ a = 1) (hb : b = 0 ∨ b = 1) : Builtin.bitXor a b = xr a b := by
  rcases ha with rfl | rfl <;> rcases hb with rfl | rfl <;> decide +kernel
theorem wsOf_len {fs : List Int} {c : List Nat} (h : c.length = fs.length) : (wsOf fs c).length = fs.length := by
  unfold wsOf
  rw [List.length_zipWith, h, Nat.min_self]
theorem ws01 {fs : List Int} {c : List Nat} (h : Row01 fs) : ∀ w ∈ wsOf fs c, w = 0 ∨ w = 1 := by
  intro w hw
  unfold wsOf at hw
  obtain ⟨i, hi⟩ := List.getElem?_of_mem hw
  rw [List.getElem?_zipWith] at hi
  cases hf : fs[i]? with
  | none => rw [hf] at hi; cases hi
  | some f =>
    cases hc : c[i]? with
    | none => rw [hf, hc] at hi; cases hi
    | some n =>
      rw [hf, hc] at hi
      cases Option.some.inj hi
      exact tw01 (h f (List.mem_of_getElem? hf)) n
def sp_worth_by (K : PySem.W.Frag) : Sp := fun vs H Q _ => ∃ (bs : List Bool) (fa ca : Addr) (fs : List Int) (c : List Nat), vs = [.str (tabOf bs), .ref fa, .ref ca] ∧ H fa = some (.tup (fs.map V.int)) ∧ H ca = some (.tup (natV c)) ∧ Row01 fs ∧ Few c ∧ c.length = fs.length ∧ bs.length = 2 ^ fs.length ∧ ∀ H', Same H H' → Q (.int (Wc bs fs c)) H'
theorem ok_worth_by (T : Tx K mg) : FnOk P w K mg base CX0 2 T.f_worth_by T.fd_worth_by ["table", "firsts", "counts"] (sp_worth_by K) := by
  refine T.F_worth_by.ok sc_worth_by (fun vs H Q E h => ?_) (fun cdv A outer s H vs Q E hr h => ?_)
  · obtain ⟨bs, fa, ca, fs, c, rfl, _⟩ := h
    rfl
  · obtain ⟨bs, fa, ca, fs, c, rfl, hfa, hca, f01, few, lc, lb, q⟩ := h
    refine ⟨_, (pss_one (ps_ret (pe_call (ok_table_worth T) (hr.mono (by decide)) (by rfl) T.g_table_worth T.F_table_worth.kp T.b_table_worth .nil pass0 (pa_cons (pv 0) (pa_cons (pe_lc (own := [("first", 3), ("count", 4)]) (by rfl) sc_worth_by.nd (RZ.pi_zipA (by rfl) T.m_zip (pa_cons (pv 1) (pa_cons (pv 2) pa_nil))) (blkOk_by (own := [("first", 3), ("count", 4)]) (N := ["table", "firsts", "counts", "first", "count"]) (sc := defScope s_worth_by) (by decide +kernel)) (fun _ _ _ _ _ => (show PG _ _ (gTup K 2 _) from pg_tup rfl (pgs_cons (pg_name (i := 3) sc_worth_by.nd rfl (by first | exact .inl rfl | exact .inr rfl)) (pgs_cons (pg_name (i := 4) sc_worth_by.nd rfl (by first | exact .inl rfl | exact .inr rfl)) pgs_nil)))) (fun _ _ _ _ _ => pts_nil) (fun _ _ _ _ _ => (pe_op op_xor (pv 3) (pe_op op_and (pv 4) pe_int)))) pa_nil))))), ?_⟩
    have hl3 := few.1
    have wl := wsOf_len lc
    refine ⟨.str (tabOf bs), rfl, .ref fa, rfl, .ref ca, rfl, fa, ca, _, _, rfl, .inr ⟨SqT.of hfa, SqT.of hca, fun D nD => ?_⟩⟩
    refine lc_zipT (K := K) (a := fa) (b := ca) (xs := fs.map V.int) (ys := natV c) (by rw [List.length_map, natV_len]; exact lc.symm)
      (fun i H' => Same H (hd1 D H') ∧ H' D = some (.lst (((wsOf fs c).take i).map V.int))) ⟨hd1_of (same_upd nD) nD, upd_same⟩ (fun i H' _ hP => ⟨SqT.of (hd1_le _ _ (hP.1 _ _ hfa)), SqT.of (hd1_le _ _ (hP.1 _ _ hca))⟩) ?_ ?_
    · rintro i x y Tq H1 hx hy nT ⟨s1, hD⟩
      obtain ⟨n, hn, rfl⟩ := natV_inv hy
      rw [List.getElem?_map] at hx
      cases hf : fs[i]? with
      | none => rw [hf] at hx; cases hx
      | some f =>
        rw [hf] at hx
        cases Option.some.inj hx
        have hw : (wsOf fs c)[i]? = some (tw f n) := by
          unfold wsOf
          rw [List.getElem?_zipWith, hf, hn]
        refine ⟨Tq, _, rfl, SqT.of upd_same, rfl, _, _, rfl, _, _, rfl, rfl, rfl, ?_⟩
        refine ⟨.int f, rfl, .int (Int.ofNat n), rfl, _, _, rfl, rfl, _, _, rfl, rfl, _, same_upd nT _ _ hD, ?_, (s1.trans (hd1_same (same_upd nT))).trans hd1_upd, ?_⟩
        · rw [List.length_map, List.length_take]
          exact Nat.lt_of_lt_of_le (show _ < 8 by omega) (by decide)
        · dsimp only
          rw [upd_same, List.take_add_one, hw, xor_tw f n (f01 f (List.mem_of_getElem? hf)) (few.2 n (List.mem_of_getElem? hn))]
          show some (HO.lst (_ ++ [_])) = some (HO.lst ((_ ++ [_]).map V.int))
          rw [List.map_append]
          rfl
    · rintro H1 ⟨s1, hD⟩
      rw [List.length_map, List.take_of_length_le (by omega)] at hD
      exact ⟨bs, D, wsOf fs c, rfl, SqL.of hD, ws01 f01, by rw [wl]; exact lb, by omega, q _ fun b o e => hd1_le _ _ (s1 _ _ e)⟩

end
end Gk

set_option Elab.async false
set_option linter.all false
set_option maxRecDepth 100000
set_option maxHeartbeats 1000000
set_option pp.maxSteps 1500
set_option pp.deepTerms false
namespace Gk
open PySem PySem.Spec PyProof.Rows L2
/-! ### walks over enumerate of a tuple -/
theorem for_enumT {K : PySem.W.Frag} {a : Addr} {xs : List V} {g : TG} {tb : TS} {D : Ends} {σ : L2.St} {H : Hp} (Pv : Nat → L2.St → Hp → Prop) (h0 : Pv 0 σ H) (hl : ∀ i σ H, i ≤ xs.length → Pv i σ H → SqT K H a xs)
    (hs : ∀ (i : Nat) (x : V) (T : Addr) (σ : L2.St) (H : Hp), xs[i]? = some x → H T = none → Pv i σ H → g (.ref T) σ (upd H T (.tup [.int (i : Nat), x])) fun σ2 H2 => tb { D with nx := Pv (i + 1), ct := Pv (i + 1), bk := D.nx } σ2 H2) (hd : ∀ σ H, Pv xs.length σ H → D.nx σ H) :
    ∃ W : Nat → Nat → L2.St → Hp → Prop, (∃ m, W 0 m σ H) ∧ ∀ i m σ H, W i m σ H →
      ((IteT K a).stop i H ∧ D.nx σ H) ∨ ((IteT K a).go i H ∧ ∃ N : L2.St → Hp → Prop, (∀ σ' H', N σ' H' → ∃ m', m' < m ∧ W (i + 1) m' σ' H') ∧ ∀ x H', (IteT K a).yld i H x H' → g x σ H' fun σ2 H2 => tb { D with nx := N, ct := N, bk := D.nx } σ2 H2) := by
  refine ⟨fun i m σ H => m = xs.length - i ∧ i ≤ xs.length ∧ Pv i σ H, ⟨xs.length, rfl, Nat.zero_le _, h0⟩, ?_⟩
  rintro i m σ H ⟨rfl, hi, p⟩
  have q := hl i σ H hi p
  by_cases hlt : i < xs.length
  · have hx : xs[i]? = some xs[i] := List.getElem?_eq_getElem hlt
    refine .inr ⟨⟨xs, xs[i], q, hx⟩, Pv (i + 1), fun σ' H' p' => ⟨xs.length - (i + 1), by omega, rfl, hlt, p'⟩, fun x H' y => ?_⟩
    obtain ⟨T, x1, rfl, nT, rfl, e1⟩ := y
    exact hs i x1 T σ H (e1 xs q) nT p
  · have e : i = xs.length := by omega
    subst e
    exact .inl ⟨⟨xs, q, rfl⟩, hd σ H p⟩
theorem lc_enumT {K : PySem.W.Frag} {a : Addr} {xs : List V} {g : TG} {tt : TT} {te : TE} {vs : List Nat} {σ : L2.St} {H1 : Hp} {D : Addr} {Qd : Hp → Prop} (Pv : Nat → Hp → Prop) (h0 : Pv 0 (upd H1 D (.lst []))) (hl : ∀ i H, i ≤ xs.length → Pv i H → SqT K H a xs)
    (hs : ∀ i x T H, xs[i]? = some x → H T = none → Pv i H → g (.ref T) (wipe σ vs) (upd H T (.tup [.int (i : Nat), x])) fun σ2 H2 => wipe σ2 vs = wipe σ vs ∧ tt σ2 H2 fun b H3 =>
      if b = true then te σ2 H3 fun y H4 => ∃ acc, H4 D = some (.lst acc) ∧ acc.length < sizeLine ∧ Pv (i + 1) (upd H4 D (.lst (acc ++ [y]))) else Pv (i + 1) H3) (hd : ∀ H, Pv xs.length H → Qd H) :
    ∃ W : Nat → Nat → Hp → Prop, (∃ m, W 0 m (upd H1 D (.lst []))) ∧ ∀ i m H, W i m H →
      ((IteT K a).stop i H ∧ Qd H) ∨ ((IteT K a).go i H ∧ ∃ Nx : Hp → Prop, (∀ H', Nx H' → ∃ m', m' < m ∧ W (i + 1) m' H') ∧ ∀ x H', (IteT K a).yld i H x H' → g x (wipe σ vs) H' fun σ2 H2 => wipe σ2 vs = wipe σ vs ∧ tt σ2 H2 fun b H3 =>
        if b = true then te σ2 H3 fun y H4 => ∃ acc, H4 D = some (.lst acc) ∧ acc.length < sizeLine ∧ Nx (upd H4 D (.lst (acc ++ [y]))) else Nx H3) := by
  refine ⟨fun i m H => m = xs.length - i ∧ i ≤ xs.length ∧ Pv i H, ⟨xs.length, by simp, Nat.zero_le _, h0⟩, ?_⟩
  rintro i m H ⟨rfl, hi, p⟩
  have qx := hl i H hi p
  by_cases hlt : i < xs.length
  · have hx : xs[i]? = some xs[i] := List.getElem?_eq_getElem hlt
    refine .inr ⟨⟨xs, _, qx, hx⟩, Pv (i + 1), fun H' p' => ⟨xs.length - (i + 1), by omega, rfl, hlt, p'⟩, fun x H' y => ?_⟩
    obtain ⟨T, x1, rfl, nT, rfl, e1⟩ := y
    exact hs i x1 T H (e1 xs qx) nT p
  · have e : i = xs.length := by omega
    subst e
    exact .inl ⟨⟨xs, qx, rfl⟩, hd H p⟩

section
variable {P : Program} {w : World} {K : PySem.W.Frag} {mg : Str → Option Value} {base : Heap}
def kI (k : Nat) : PyData := .int (Int.ofNat k)
def cD (c : List Nat) : PyData := .tuple (c.map kI)
def opD (n : Nat) : PyData := .list ((List.range (n + 1)).map kI)
def stepD (bs : List Bool) (fs : List Int) (ns c : List Nat) (p : Nat) : PyData := .tuple [.int (Int.ofNat p), .int (Int.ofNat (idx ns (inc c p))), .int (xr (Wc bs fs c) (Wc bs fs (inc c p)))]
def stepsAt (bs : List Bool) (fs : List Int) (ns c : List Nat) : PyData := .list ((nexts ns c).map (stepD bs fs ns c))
theorem kI_map (c : List Nat) : c.map kI = (c.map Int.ofNat).map PyData.int := by rw [List.map_map]; rfl
theorem Tk.c_inv {H : Hp} {v : V} {c : List Nat} (h : Tk H v (cD c)) : ∃ a, v = .ref a ∧ H a = some (.tup (natV c)) := by
  obtain ⟨a, xs, rfl, ha, t⟩ := h.tup_inv
  rw [kI_map] at t
  rw [t.int_inv] at ha
  exact ⟨a, rfl, ha⟩
theorem every_D (ns : List Nat) : (chs (ns.map fun n => (List.range (n + 1)).map kI)).map PyData.tuple = (every ns).map cD := by
  have e : (ns.map fun n => (List.range (n + 1)).map kI) = (ns.map fun n => List.range (n + 1)).map (List.map kI) := by rw [List.map_map]; rfl
  rw [e, chs_map kI _ _ rfl, List.map_map]
  rfl
theorem Few.of_le {c ns : List Nat} (h : Le c ns) (f : Few ns) : Few c := by
  refine ⟨by rw [h.1]; exact f.1, fun x hx => ?_⟩
  obtain ⟨i, hi⟩ := List.getElem?_of_mem hx
  have hl := (List.getElem?_eq_some_iff.mp hi).1
  have hn : ns[i]? = some (ns[i]'(by rw [← h.1]; exact hl)) := List.getElem?_eq_getElem _
  have h1 := h.2 i x _ hi hn
  have h2 := f.2 _ (List.mem_of_getElem? hn)
  omega
def nextsTo (ns c : List Nat) (j : Nat) : List Nat := (List.range j).filter fun p => decide (c.getD p 0 < ns.getD p 0)
theorem nextsTo_succ (ns c : List Nat) (j : Nat) : nextsTo ns c (j + 1) = nextsTo ns c j ++ if c.getD j 0 < ns.getD j 0 then [j] else [] := by
  unfold nextsTo
  rw [List.range_succ, List.filter_append, List.filter_cons, List.filter_nil]
  by_cases h : c.getD j 0 < ns.getD j 0
  · rw [if_pos h, decide_eq_true h, if_pos rfl]
  · rw [if_neg h, decide_eq_false h, if_neg Bool.false_ne_true]
theorem nextsTo_len (ns c : List Nat) (j : Nat) : (nextsTo ns c j).length ≤ j := by
  have := List.length_filter_le (fun p => decide (c.getD p 0 < ns.getD p 0)) (List.range j)
  rw [List.length_range] at this
  exact this
def sp_steps_from (K : PySem.W.Frag) : Sp := fun vs H Q _ => ∃ (bs : List Bool) (fa na : Addr) (fs : List Int) (ns : List Nat), vs = [.str (tabOf bs), .ref fa, .ref na] ∧ H fa = some (.tup (fs.map V.int)) ∧ H na = some (.tup (natV ns)) ∧ Row01 fs ∧ Few ns ∧ ns.length = fs.length ∧ bs.length = 2 ^ fs.length ∧ ∀ r H', Same H H' → Tk H' (.ref r) (.list ((every ns).map (stepsAt bs fs ns))) → Q (.ref r) H'
theorem ok_steps_from (T : Tx K mg) : FnOk P w K mg base CX0 3 T.f_steps_from T.fd_steps_from ["table", "firsts", "numbers"] (sp_steps_from K) := by
  refine T.F_steps_from.ok sc_steps_from (fun vs H Q E h => ?_) (fun cdv A outer s H vs Q E hr h => ?_)
  · obtain ⟨bs, fa, na, fs, ns, rfl, _⟩ := h
    rfl
  · obtain ⟨bs, fa, na, fs, ns, rfl, hfa, hna, f01, few, lc, lb, q⟩ := h
    refine ⟨_, (pss_cons (ps_set (i := 3) sc_steps_from.nd rfl (by first | exact .inl rfl | exact .inr rfl) (pe_call (ok_choices_of T) (hr.mono (by decide)) (by rfl) T.g_choices_of T.F_choices_of.kp T.b_choices_of .nil pass0 (pa_cons (pe_lc (own := [("number", 9)]) (by rfl) sc_steps_from.nd (pi_tup (pv 2)) (blkOk_by (own := [("number", 9)]) (N := ["table", "firsts", "numbers", "every", "worths", "strides", "steps", "at", "counts", "number", "place", "count"]) (sc := defScope s_steps_from) (by decide +kernel)) (fun _ _ _ _ _ => (pg_name (i := 9) sc_steps_from.nd rfl (by first | exact .inl rfl | exact .inr rfl))) (fun _ _ _ _ _ => pts_nil) (fun _ _ _ _ _ => (pe_listRg rfl (by rfl) T.m_list (prg_1 (by rfl) T.m_range (pe_op op_add (pv 9) pe_int))))) pa_nil))) (pss_cons (ps_set (i := 4) sc_steps_from.nd rfl (by first | exact .inl rfl | exact .inr rfl) (pe_lc (own := [("counts", 8)]) (by rfl) sc_steps_from.nd (pi_tup (pv 3)) (blkOk_by (own := [("counts", 8)]) (N := ["table", "firsts", "numbers", "every", "worths", "strides", "steps", "at", "counts", "number", "place", "count"]) (sc := defScope s_steps_from) (by decide +kernel)) (fun _ _ _ _ _ => (pg_name (i := 8) sc_steps_from.nd rfl (by first | exact .inl rfl | exact .inr rfl))) (fun _ _ _ _ _ => pts_nil) (fun _ _ _ _ _ => (pe_call (ok_worth_by T) (hr.mono (by decide)) (by rfl) T.g_worth_by T.F_worth_by.kp T.b_worth_by .nil pass0 (pa_cons (pv 0) (pa_cons (pv 1) (pa_cons (pv 8) pa_nil))))))) (pss_cons (ps_set (i := 5) sc_steps_from.nd rfl (by first | exact .inl rfl | exact .inr rfl) (pe_call (ok_strides_of T) (hr.mono (by decide)) (by rfl) T.g_strides_of T.F_strides_of.kp T.b_strides_of .nil pass0 (pa_cons (pv 2) pa_nil))) (pss_cons (ps_set (i := 6) sc_steps_from.nd rfl (by first | exact .inl rfl | exact .inr rfl) (pe_lst pa_nil)) (pss_cons (ps_for PassesOwn.never rfl (pi_enumT (by rfl) T.m_enumerate (pa_cons (pv 3) pa_nil)) (pg_tup rfl (pgs_cons (pg_name (i := 7) sc_steps_from.nd rfl (by first | exact .inl rfl | exact .inr rfl)) (pgs_cons (pg_name (i := 8) sc_steps_from.nd rfl (by first | exact .inl rfl | exact .inr rfl)) pgs_nil))) (pss_one (ps_expr (pe_bm PySem.F.plainAttrs_list PySem.F.slot_list_append PySem.F.type_list_append mt_append (pv 6) (pa_cons (pe_lc (own := [("place", 10), ("count", 11)]) (by rfl) sc_steps_from.nd (pi_enumT (by rfl) T.m_enumerate (pa_cons (pv 8) pa_nil)) (blkOk_by (own := [("place", 10), ("count", 11)]) (N := ["table", "firsts", "numbers", "every", "worths", "strides", "steps", "at", "counts", "number", "place", "count"]) (sc := defScope s_steps_from) (by decide +kernel)) (fun _ _ _ _ _ => (show PG _ _ (gTup K 2 _) from pg_tup rfl (pgs_cons (pg_name (i := 10) sc_steps_from.nd rfl (by first | exact .inl rfl | exact .inr rfl)) (pgs_cons (pg_name (i := 11) sc_steps_from.nd rfl (by first | exact .inl rfl | exact .inr rfl)) pgs_nil)))) (fun _ _ _ _ _ => (pts_one (pt_cmpR op_lt (pv 11) (pe_ix (show IxR _ (rIxT K) from ix_tup) (pv 2) (pv 10) (fun _ _ => rfl)) (nomark _)))) (fun _ _ _ _ _ => (pe_tup (pa_cons (pv 10) (pa_cons (pe_op op_add (pv 7) (pe_ix (show IxR _ (rIxL K) from ix_list) (pv 5) (pv 10) (fun _ _ => rfl))) (pa_cons (pe_op op_xor (pe_ix (show IxR _ (rIxL K) from ix_list) (pv 4) (pv 7) (fun _ _ => rfl)) (pe_ix (show IxR _ (rIxL K) from ix_list) (pv 4) (pe_op op_add (pv 7) (pe_ix (show IxR _ (rIxL K) from ix_list) (pv 5) (pv 10) (fun _ _ => rfl))) (fun _ _ => rfl))) pa_nil)))))) pa_nil))))) (pss_one (ps_ret (pv 6)))))))), ?_⟩
    have n3 := few.1
    have c2197 := cnt_few few
    have sl : (16777216 : Nat) = sizeLine := by decide
    refine ⟨.ref na, rfl, na, rfl, ⟨_, SqT.of hna⟩, fun D nD => ?_⟩
    refine lc_tup (K := K) (a := na) (xs := natV ns) (fun i H' => Same H (hd1 D H') ∧ ∃ acc, H' D = some (.lst acc) ∧ TkAll (hd1 D H') acc ((ns.take i).map opD)) ⟨hd1_of (same_upd nD) nD, [], upd_same, .nil⟩ (fun i H' _ hP => SqT.of (hd1_le _ _ (hP.1 _ _ hna))) ?_ ?_
    · rintro i x H1 hx ⟨s1, acc, hD, ta⟩
      obtain ⟨n, hn, rfl⟩ := natV_inv hx
      have n12 := few.2 n (List.mem_of_getElem? hn)
      have hi := (List.getElem?_eq_some_iff.mp hn).1
      refine ⟨rfl, .int (Int.ofNat n), rfl, _, _, rfl, rfl, _, rfl, RgOk.of_le (by decide) (by show (n : Int) + 1 ≤ _; omega) (by decide) (by show 0 ≤ (n : Int) + 1; omega), fun L nL => ?_⟩
      have sL := same_upd (o := HO.lst (rgV 0 (Int.ofNat n + 1))) nL
      have LD : L ≠ D := (ne_of_none hD nL).symm
      have al := ta.length
      rw [List.length_map, List.length_take] at al
      refine ⟨acc, sL _ _ hD, by omega, (s1.trans (hd1_same sL)).trans hd1_upd, acc ++ [.ref L], upd_same, ?_⟩
      have e : (ns.take (i + 1)).map opD = (ns.take i).map opD ++ [opD n] := by rw [List.take_add_one, hn, List.map_append]; rfl
      rw [e]
      refine ((ta.same (hd1_same sL)).same hd1_upd).append (.cons (.lst (xs := rgV 0 (Int.ofNat n + 1)) (by rw [hd1_at LD, upd_ne LD]; exact upd_same) ?_) .nil)
      have er : rgV 0 (Int.ofNat n + 1) = ((List.range (n + 1)).map Int.ofNat).map V.int := by
        unfold rgV
        have : (Int.ofNat n + 1 - 0).toNat = n + 1 := by show ((n : Int) + 1 - 0).toNat = n + 1; omega
        rw [this, List.map_map]
        exact List.map_congr_left fun k _ => by show V.int (0 + (k : Int)) = V.int (k : Int); rw [Int.zero_add]
      rw [er, kI_map]
      exact TkAll.ints _
    rintro H1 ⟨s1, acc, hD, ta⟩
    rw [natV_len, List.take_length] at ta
    have s01 : Same H H1 := fun b o e => hd1_le _ _ (s1 _ _ e)
    refine ⟨D, acc, ns.map fun n => (List.range (n + 1)).map kI, rfl, hD, ?_, by rw [List.length_map]; exact n3, fun o ho => ?_, fun r H2 s2 t2 => ?_⟩
    · rw [List.map_map]
      exact ta.same hd1_le
    · obtain ⟨n, hn, rfl⟩ := List.mem_map.mp ho
      have := few.2 n hn
      rw [List.length_map, List.length_range]
      omega
    rw [every_D] at t2
    obtain ⟨r', es, e, hr2, tes⟩ := t2.tup_inv
    cases e
    have el : es.length = cnt ns := by rw [tes.length, List.length_map, every_len]
    have s02 := s01.trans s2
    clear ta hD s1 s2 s01 H1 D acc nD
    -- worths
    refine ⟨.ref r, rfl, r, rfl, ⟨_, SqT.of hr2⟩, fun D nD => ?_⟩
    refine lc_tup (K := K) (a := r) (xs := es) (fun i H' => Same H2 (hd1 D H') ∧ H' D = some (.lst ((((every ns).take i).map (Wc bs fs)).map V.int))) ⟨hd1_of (same_upd nD) nD, upd_same⟩ (fun i H' _ hP => SqT.of (hd1_le _ _ (hP.1 _ _ hr2))) ?_ ?_
    · rintro i x H3 hx ⟨s3, hD⟩
      obtain ⟨c, hc, tc⟩ := tes.at hx
      obtain ⟨le, ei⟩ := every_idx ns i c hc
      obtain ⟨ca, rfl, hca⟩ := (tc.same s3).c_inv
      have hil := (List.getElem?_eq_some_iff.mp hc).1
      rw [every_len] at hil
      refine ⟨rfl, .str (tabOf bs), rfl, .ref fa, rfl, .ref ca, rfl, bs, fa, ca, fs, c, rfl, hd1_le _ _ (s3 _ _ (s02 _ _ hfa)), hd1_le _ _ hca, f01, few.of_le le, by rw [le.1, lc], lb, fun H4 s4 => ?_⟩
      refine ⟨_, s4 _ _ hD, ?_, (s3.trans (hd1_same s4)).trans hd1_upd, ?_⟩
      · rw [List.length_map, List.length_map, List.length_take]
        omega
      · rw [upd_same, List.take_add_one, hc]
        show some (HO.lst (_ ++ [_])) = some (HO.lst (((_ ++ [_]).map (Wc bs fs)).map V.int))
        rw [List.map_append, List.map_append]
        rfl
    rintro H3 ⟨s3, hw⟩
    rw [el, ← every_len, List.take_length] at hw
    have s03 : Same H H3 := fun b o e => hd1_le _ _ (s3 _ _ (s02 _ _ e))
    have hr3 := hd1_le _ _ (s3 _ _ hr2)
    have tes3 := (tes.same s3).same hd1_le
    generalize hwr : D = wr at *
    clear hwr
    -- strides
    refine ⟨.ref na, rfl, na, ns, rfl, s03 _ _ hna, few, fun sr H4 s4 hs => ?_⟩
    refine ⟨Nat.zero_le _, fun L nL => ?_⟩
    have sL := same_upd (o := HO.lst []) nL
    have s34 := s4.trans sL
    have s04 := s03.trans s34
    have hw4 := s34 _ _ hw
    have hs4 := sL _ _ hs
    have hr4 := s34 _ _ hr3
    have hna4 := s04 _ _ hna
    have hL4 := upd_same (H := H4) (a := L) (o := .lst [])
    have rL := ne_of_none (s4 _ _ hr3) nL
    have wL := ne_of_none (s4 _ _ hw) nL
    have sLne := ne_of_none hs nL
    have naL := ne_of_none (s4 _ _ (s03 _ _ hna)) nL
    have sH : Same H (hd1 L (upd H4 L (.lst []))) := fun b o e => by
      rw [hd1_at (ne_of_none (s4 _ _ (s03 _ _ e)) nL)]
      exact s04 _ _ e
    have tes4 : TkAll (hd1 L (upd H4 L (.lst []))) es ((every ns).map cD) := by
      refine (tes3.same s4).same fun b o e => ?_
      rw [hd1_at (ne_of_none e nL)]
      exact sL _ _ e
    show tSeq _ _ _ _ (upd H4 L (.lst []))
    generalize upd H4 L (.lst []) = H5 at sL s34 s04 hw4 hs4 hr4 hna4 hL4 sH tes4 ⊢
    refine ⟨.ref r, rfl, r, es, rfl, SqT.of hr4, ?_⟩
    have keep : ∀ {H' : Hp} {b : Addr} {o : HO}, Same (hd1 L H5) (hd1 L H') → b ≠ L → H5 b = some o → H' b = some o := fun sk nb e => hd1_le _ _ (sk _ _ (by rw [hd1_at nb]; exact e))
    refine for_enumT (K := K) (a := r) (xs := es) (fun i σ H' => ∃ y7 y8, σ = [some (.str (tabOf bs)), some (.ref fa), some (.ref na), some (.ref r), some (.ref wr), some (.ref sr), some (.ref L), y7, y8, none, none, none] ∧ Same (hd1 L H5) (hd1 L H') ∧ ∃ zs, H' L = some (.lst zs) ∧ TkAll (hd1 L H') zs (((every ns).take i).map (stepsAt bs fs ns)))
      ⟨_, _, rfl, fun _ _ e => e, [], hL4, .nil⟩ (fun i σ H' _ ⟨_, _, _, hP, _⟩ => SqT.of (keep hP rL hr4)) ?_ ?_
    · rintro i v Tq σ H6 hv nT ⟨y7, y8, rfl, s6, zs, hL6, tz⟩
      obtain ⟨c, hc, tc⟩ := tes4.at hv
      obtain ⟨le, ei⟩ := every_idx ns i c hc
      obtain ⟨ca, rfl, hca⟩ := (tc.same s6).c_inv
      have hca6 := hd1_le _ _ hca
      have hil := (List.getElem?_eq_some_iff.mp hc).1
      rw [every_len] at hil
      have sT := same_upd (o := HO.tup [V.int (i : Nat), V.ref ca]) nT
      refine ⟨Tq, _, rfl, SqT.of upd_same, rfl, _, _, rfl, _, _, rfl, rfl, ?_⟩
      have hL7 := sT _ _ hL6
      have hca7 := sT _ _ hca6
      have hna7 := sT _ _ (keep s6 naL hna4)
      have hw7 := sT _ _ (keep s6 wL hw4)
      have hs7 := sT _ _ (keep s6 sLne hs4)
      show tDrop _ _ _ (upd H6 Tq (.tup [V.int (i : Nat), V.ref ca]))
      generalize upd H6 Tq (.tup [V.int (i : Nat), V.ref ca]) = H7 at sT hL7 hca7 hna7 hw7 hs7 ⊢
      refine ⟨.ref L, rfl, .inl ⟨rfl, _, SqL.of hL7⟩, .ref ca, rfl, ca, _, rfl, SqT.of hca7, fun D nD => ?_⟩
      refine lc_enumT (K := K) (a := ca) (xs := natV c) (fun j H' => Same H7 (hd1 D H') ∧ ∃ acc, H' D = some (.lst acc) ∧ TkAll (hd1 D H') acc ((nextsTo ns c j).map (stepD bs fs ns c))) ⟨hd1_of (same_upd nD) nD, [], upd_same, .nil⟩ (fun i H' _ hP => SqT.of (hd1_le _ _ (hP.1 _ _ hca7))) ?_ ?_
      · rintro j x T2 H8 hx nT2 ⟨s8, acc, hD, ta⟩
        obtain ⟨x, hxj, rfl⟩ := natV_inv hx
        have hjl := (List.getElem?_eq_some_iff.mp hxj).1
        rw [le.1] at hjl
        obtain ⟨n, hn⟩ : ∃ n, ns[j]? = some n := ⟨_, List.getElem?_eq_getElem hjl⟩
        have eg : c.getD j 0 = x := by rw [List.getD_eq_getElem?_getD, hxj]; rfl
        have en : ns.getD j 0 = n := by rw [List.getD_eq_getElem?_getD, hn]; rfl
        have sT2 := same_upd (o := HO.tup [V.int (j : Nat), V.int (Int.ofNat x)]) nT2
        have nl := nextsTo_len ns c j
        have al := ta.length
        rw [List.length_map] at al
        have hD9 := sT2 _ _ hD
        have hna9 := sT2 _ _ (hd1_le _ _ (s8 _ _ hna7))
        have hw9 := sT2 _ _ (hd1_le _ _ (s8 _ _ hw7))
        have hs9 := sT2 _ _ (hd1_le _ _ (s8 _ _ hs7))
        have hst : (natV (strides ns ns.length))[j]? = some (.int (Int.ofNat (cnt (ns.drop (j + 1))))) := by
          refine natV_at ?_
          unfold strides
          rw [List.getElem?_map, List.getElem?_range hjl]
          rfl
        refine ⟨T2, _, rfl, SqT.of upd_same, rfl, _, _, rfl, _, _, rfl, rfl, rfl, ?_⟩
        refine ⟨.int (Int.ofNat x), rfl, .ref na, rfl, .int (j : Nat), rfl, na, _, _, _, rfl, rfl, SqT.of hna9, atI_nat (natV_at hn), _, _, rfl, rfl, _, rfl, ite2 (fun hlt => ?_) (fun hge => ?_)⟩
        · have hlt : x < n := by have := of_decide_eq_true hlt; exact Int.ofNat_lt.mp this
          have hp : j ∈ nexts ns c := next_iff.mpr ⟨hjl, by rw [eg, en]; exact hlt⟩
          have ie := idx_inc ns c j le.1 hjl
          have ea := every_at ns (inc c j) (le.inc hp)
          rw [ie, ei] at ea
          have wi : (((every ns).map (Wc bs fs)).map V.int)[i]? = some (.int (Wc bs fs c)) := by rw [List.getElem?_map, List.getElem?_map, hc]; rfl
          have wj : (((every ns).map (Wc bs fs)).map V.int)[i + cnt (ns.drop (j + 1))]? = some (.int (Wc bs fs (inc c j))) := by rw [List.getElem?_map, List.getElem?_map, ea]; rfl
          refine ⟨.int (j : Nat), rfl, .int (i : Nat), rfl, .ref sr, rfl, .int (j : Nat), rfl, sr, _, _, _, rfl, rfl, SqL.of hs9, atI_nat hst, _, _, rfl, rfl, .ref wr, rfl, .int (i : Nat), rfl, wr, _, _, _, rfl, rfl, SqL.of hw9, atI_nat wi, .ref wr, rfl, .int (i : Nat), rfl, .ref sr, rfl, .int (j : Nat), rfl, sr, _, _, _, rfl, rfl, SqL.of hs9, atI_nat hst, _, _, rfl, rfl, wr, _, ((i + cnt (ns.drop (j + 1)) : Nat) : Int), _, rfl, rfl, SqL.of hw9, atI_nat wj, _, _, rfl, rfl, sl3, fun p np => ?_⟩
          dsimp only
          rw [show Builtin.bitXor (Wc bs fs c) (Wc bs fs (inc c j)) = xr (Wc bs fs c) (Wc bs fs (inc c j)) from xor_xr (gate01 _ _) (gate01 _ _)]
          have sp := same_upd (o := HO.tup [V.int (j : Nat), V.int ((i : Int) + Int.ofNat (cnt (ns.drop (j + 1)))), V.int (xr (Wc bs fs c) (Wc bs fs (inc c j)))]) np
          have pD : p ≠ D := (ne_of_none hD9 np).symm
          refine ⟨acc, sp _ _ hD9, by omega, (s8.trans (hd1_same (sT2.trans sp))).trans hd1_upd, acc ++ [.ref p], upd_same, ?_⟩
          rw [nextsTo_succ, if_pos (by rw [eg, en]; exact hlt), List.map_append]
          refine ((ta.same (hd1_same (sT2.trans sp))).same hd1_upd).append (.cons (.tup (a := p) (xs := [V.int (j : Nat), V.int ((i : Int) + Int.ofNat (cnt (ns.drop (j + 1)))), V.int (xr (Wc bs fs c) (Wc bs fs (inc c j)))]) (by rw [hd1_at pD, upd_ne pD]; exact upd_same) ?_) .nil)
          rw [ie, ei]
          exact .cons (.int _) (.cons (.int _) (.cons (.int _) .nil))
        · have hge : ¬ x < n := by intro h; exact hge (decide_eq_true (show Int.ofNat x < Int.ofNat n from Int.ofNat_lt.mpr h))
          refine ⟨s8.trans (hd1_same sT2), acc, hD9, ?_⟩
          rw [nextsTo_succ, if_neg (by rw [eg, en]; exact hge), List.append_nil]
          exact ta.same (hd1_same sT2)
      · rintro H8 ⟨s8, acc, hD, ta⟩
        rw [natV_len, le.1] at ta
        have ta : TkAll (hd1 D H8) acc ((nexts ns c).map (stepD bs fs ns c)) := ta
        have DL : D ≠ L := (ne_of_none hL7 nD).symm
        have s78 : Same H7 H8 := fun b o e => hd1_le _ _ (s8 _ _ e)
        have hL8 := s78 _ _ hL7
        have zl := tz.length
        rw [List.length_map, List.length_take, every_len] at zl
        refine ⟨L, _, _, rfl, rfl, hL8, by omega, _, _, rfl, (s6.trans (hd1_same (sT.trans s78))).trans hd1_upd, zs ++ [.ref D], upd_same, ?_⟩
        rw [List.take_add_one, hc]
        show TkAll _ _ ((_ ++ [c]).map _)
        rw [List.map_append]
        have noL : ∀ (ps : List Nat), noLs (ps.map (stepD bs fs ns c)) = true := fun ps => by
          induction ps with
          | nil => rfl
          | cons p r ih => show (true && noLs (r.map (stepD bs fs ns c))) = true; rw [ih]; rfl
        refine ((tz.same (hd1_same (sT.trans s78))).same hd1_upd).append (.cons (.lst (a := D) (xs := acc) (by rw [hd1_at DL, upd_ne DL]; exact hD) ?_) .nil)
        refine ta.ts (fun b xs e => ?_) (noL _)
        have e8 := hd1_le _ _ e
        have bL : b ≠ L := ne_of e8 hL8 (by intro z; cases z)
        rw [hd1_at bL, upd_ne bL]
        exact e8
    · rintro σ H6 ⟨y7, y8, rfl, s6, zs, hL6, tz⟩
      rw [el, ← every_len, List.take_length] at tz
      refine ⟨.ref L, rfl, q L H6 (fun b o e => hd1_le _ _ (s6 _ _ (sH _ _ e))) (.lst hL6 (tz.same hd1_le))⟩

end
end Gk

set_option Elab.async false
set_option linter.all false
set_option maxRecDepth 100000
set_option maxHeartbeats 1000000
set_option pp.maxSteps 1500
set_option pp.deepTerms false
namespace Gk
open PySem PySem.Spec PyProof.Rows L2
section
variable {P : Program} {w : World} {K : PySem.W.Frag} {mg : Str → Option Value} {base : Heap}
/-! ### what can still come from each counts on -/
def grAt (bs : List Bool) (fs : List Int) (ns : List Nat) (j : Nat) : Int := gr bs fs ns ((every ns).getD j [])
def pm (bs : List Bool) (fs : List Int) (ns : List Nat) (k : Nat) : List Int := (List.range (cnt ns)).map fun j => if cnt ns ≤ j + k then grAt bs fs ns j else 0
theorem pm_len (bs : List Bool) (fs : List Int) (ns : List Nat) (k : Nat) : (pm bs fs ns k).length = cnt ns := by unfold pm; rw [List.length_map, List.length_range]
theorem pm_get {bs : List Bool} {fs : List Int} {ns : List Nat} {k j : Nat} (h : j < cnt ns) : (pm bs fs ns k)[j]? = some (if cnt ns ≤ j + k then grAt bs fs ns j else 0) := by
  unfold pm
  rw [List.getElem?_map, List.getElem?_range h]
  rfl
theorem pm_succ {bs : List Bool} {fs : List Int} {ns : List Nat} {k : Nat} (h : k < cnt ns) : (pm bs fs ns k).set (cnt ns - 1 - k) (grAt bs fs ns (cnt ns - 1 - k)) = pm bs fs ns (k + 1) := by
  refine List.ext_getElem? fun j => ?_
  by_cases hj : j < cnt ns
  · rw [List.getElem?_set, pm_get hj, pm_get hj]
    by_cases e : cnt ns - 1 - k = j
    · rw [if_pos e, if_pos (by rw [pm_len]; omega), if_pos (by omega), e]
    · rw [if_neg e]
      by_cases h2 : cnt ns ≤ j + k
      · rw [if_pos h2, if_pos (by omega)]
      · rw [if_neg h2, if_neg (by omega)]
  · rw [List.getElem?_eq_none (by rw [List.length_set, pm_len]; omega), List.getElem?_eq_none (by rw [pm_len]; omega)]
theorem pm_zero (bs : List Bool) (fs : List Int) (ns : List Nat) : pm bs fs ns 0 = List.replicate (cnt ns) 0 := by
  refine List.ext_getElem? fun j => ?_
  by_cases hj : j < cnt ns
  · rw [pm_get hj, if_neg (by omega), List.getElem?_replicate, if_pos hj]
  · rw [List.getElem?_eq_none (by rw [pm_len]; omega), List.getElem?_eq_none (by rw [List.length_replicate]; omega)]
theorem pm_all (bs : List Bool) (fs : List Int) (ns : List Nat) : pm bs fs ns (cnt ns) = (every ns).map (gr bs fs ns) := by
  refine List.ext_getElem? fun j => ?_
  by_cases hj : j < cnt ns
  · rw [pm_get hj, if_pos (by omega), List.getElem?_map]
    have : (every ns)[j]? = some ((every ns)[j]'(by rw [every_len]; exact hj)) := List.getElem?_eq_getElem _
    unfold grAt
    rw [List.getD_eq_getElem?_getD, this]
    rfl
  · rw [List.getElem?_eq_none (by rw [pm_len]; omega), List.getElem?_eq_none (by rw [List.length_map, every_len]; omega)]
theorem grAt_eq {bs : List Bool} {fs : List Int} {ns c : List Nat} {j : Nat} (h : (every ns)[j]? = some c) : grAt bs fs ns j = gr bs fs ns c := by
  unfold grAt
  rw [List.getD_eq_getElem?_getD, h]
  rfl
theorem rep_zero (n : Nat) : (List.replicate n [V.int 0]).flatten = (List.replicate n (0 : Int)).map V.int := by
  induction n with
  | zero => rfl
  | succ n ih => rw [List.replicate_succ, List.flatten_cons, ih, List.replicate_succ, List.map_cons]; rfl
def zeros (ns : List Nat) : List Nat := List.replicate ns.length 0
theorem zeros_le (ns : List Nat) : Le (zeros ns) ns := by
  refine ⟨List.length_replicate, fun p x n hx hn => ?_⟩
  unfold zeros at hx
  rw [List.getElem?_replicate] at hx
  split at hx
  · have := Option.some.inj hx; omega
  · cases hx
theorem idx_zeros (ns : List Nat) : idx ns (zeros ns) = 0 := by
  induction ns using snoc_ind with
  | h0 => rfl
  | hs r x ih =>
    have e : zeros (r ++ [x]) = zeros r ++ [0] := by
      unfold zeros
      rw [List.length_append, List.length_singleton, List.replicate_succ']
    rw [e, idx_snoc (zeros_le r).1, ih, Nat.zero_mul]
def sp_gate_part (K : PySem.W.Frag) : Sp := fun vs H Q _ => ∃ (bs : List Bool) (fa na : Addr) (fs : List Int) (ns : List Nat), vs = [.str (tabOf bs), .ref fa, .ref na] ∧ H fa = some (.tup (fs.map V.int)) ∧ H na = some (.tup (natV ns)) ∧ Row01 fs ∧ Few ns ∧ ns.length = fs.length ∧ bs.length = 2 ^ fs.length ∧ ∀ r H', Same H H' → H' r = some (.tup (((every ns).map (gr bs fs ns)).map V.int)) → Q (.ref r) H'
theorem ok_gate_part (T : Tx K mg) : FnOk P w K mg base CX0 4 T.f_gate_part T.fd_gate_part ["table", "firsts", "numbers"] (sp_gate_part K) := by
  refine T.F_gate_part.ok sc_gate_part (fun vs H Q E h => ?_) (fun cdv A outer s H vs Q E hr h => ?_)
  · obtain ⟨bs, fa, na, fs, ns, rfl, _⟩ := h
    rfl
  · obtain ⟨bs, fa, na, fs, ns, rfl, hfa, hna, f01, few, lc, lb, q⟩ := h
    refine ⟨_, (pss_cons (ps_set (i := 3) sc_gate_part.nd rfl (by first | exact .inl rfl | exact .inr rfl) (pe_call (ok_steps_from T) (hr.mono (by decide)) (by rfl) T.g_steps_from T.F_steps_from.kp T.b_steps_from .nil pass0 (pa_cons (pv 0) (pa_cons (pv 1) (pa_cons (pv 2) pa_nil))))) (pss_cons (ps_set (i := 4) sc_gate_part.nd rfl (by first | exact .inl rfl | exact .inr rfl) (pe_op op_rep (pe_lst (pa_cons pe_int pa_nil)) (pe_callB call_len_seq (by rfl) T.m_len PySem.boot_len (pa_cons (pv 3) pa_nil)))) (pss_cons (ps_for PassesOwn.never rfl (pi_range3 (by rfl) T.m_range (pa_cons (pe_op op_sub (pe_callB call_len_seq (by rfl) T.m_len PySem.boot_len (pa_cons (pv 3) pa_nil)) pe_int) (pa_cons (pe_un un_neg pe_int) (pa_cons (pe_un un_neg pe_int) pa_nil)))) (pg_name (i := 5) sc_gate_part.nd rfl (by first | exact .inl rfl | exact .inr rfl)) (pss_one (ps_asg (pe_callBK (cr_maxDef rfl) (by rfl) T.m_max (by decide +kernel) (pa_cons (pe_lc (own := [("place", 6), ("behind", 7), ("turned", 8)]) (by rfl) sc_gate_part.nd (pi_list (pe_ix ix_list (pv 3) (pv 5) (fun _ _ => rfl))) (blkOk_by (own := [("place", 6), ("behind", 7), ("turned", 8)]) (N := ["table", "firsts", "numbers", "steps", "part", "at", "place", "behind", "turned"]) (sc := defScope s_gate_part) (by decide +kernel)) (fun _ _ _ _ _ => (show PG _ _ (gTup K 3 _) from pg_tup rfl (pgs_cons (pg_name (i := 6) sc_gate_part.nd rfl (by first | exact .inl rfl | exact .inr rfl)) (pgs_cons (pg_name (i := 7) sc_gate_part.nd rfl (by first | exact .inl rfl | exact .inr rfl)) (pgs_cons (pg_name (i := 8) sc_gate_part.nd rfl (by first | exact .inl rfl | exact .inr rfl)) pgs_nil))))) (fun _ _ _ _ _ => pts_nil) (fun _ _ _ _ _ => (pe_op op_add (pe_ix (show IxR _ (rIxL K) from ix_list) (pv 4) (pv 7) (fun _ _ => rfl)) (pv 8)))) pa_nil) (pk_cons pe_int pk_nil)) (pg_sub (pv 4) (pv 5) set_list)))) (pss_one (ps_ret (pe_callTy call_tuple_of (by rfl) T.m_tuple (by decide +kernel) (pa_cons (pv 4) pa_nil))))))), ?_⟩
    have c2197 := cnt_few few
    have cp := cnt_pos ns
    have sl : (16777216 : Nat) = sizeLine := by decide
    refine ⟨.str (tabOf bs), rfl, .ref fa, rfl, .ref na, rfl, bs, fa, na, fs, ns, rfl, hfa, hna, f01, few, lc, lb, fun r H1 s1 t1 => ?_⟩
    obtain ⟨r', es, e, hr1, tes⟩ := t1.lst_inv
    cases e
    have el : es.length = cnt ns := by rw [tes.length, List.length_map, every_len]
    refine ⟨sl1, fun z nz => ?_⟩
    have sz := same_upd (o := HO.lst [V.int 0]) nz
    refine ⟨.ref r, rfl, r, es, rfl, .inl (SqL.of (sz _ _ hr1)), z, _, _, rfl, rfl, upd_same, by omega, by omega, by show 1 * ((es.length : Nat) : Int).toNat ≤ sizeLine; omega, fun pa npa => ?_⟩
    have ez : ((es.length : Nat) : Int).toNat = cnt ns := by omega
    rw [ez, rep_zero, ← pm_zero bs fs ns]
    have sp := same_upd (o := HO.lst ((pm bs fs ns 0).map V.int)) npa
    have sA := sz.trans sp
    have hr2 := sA _ _ hr1
    have hp2 := upd_same (H := upd H1 z (.lst [V.int 0])) (a := pa) (o := .lst ((pm bs fs ns 0).map V.int))
    have rp : r ≠ pa := ne_of_none (sz _ _ hr1) npa
    have sH : Same H (hd1 pa (upd (upd H1 z (.lst [V.int 0])) pa (.lst ((pm bs fs ns 0).map V.int)))) := hd1_of (s1.trans sA) (by
      cases hz : H pa with
      | none => rfl
      | some o => rw [sz _ _ (s1 _ _ hz)] at npa; cases npa)
    have tes2 : TkAll (hd1 pa (upd (upd H1 z (.lst [V.int 0])) pa (.lst ((pm bs fs ns 0).map V.int)))) es ((every ns).map (stepsAt bs fs ns)) := by
      refine tes.same (hd1_of sA ?_)
      cases hz : H1 pa with
      | none => rfl
      | some o => rw [sz _ _ hz] at npa; cases npa
    show tSeq _ _ _ _ (upd (upd H1 z (.lst [V.int 0])) pa (.lst ((pm bs fs ns 0).map V.int)))
    generalize upd (upd H1 z (.lst [V.int 0])) pa (.lst ((pm bs fs ns 0).map V.int)) = H2 at hr2 hp2 sH tes2 ⊢
    clear sA sp npa sz nz s1 t1 hr1 tes
    have keep : ∀ {H' : Hp} {b : Addr} {o : HO}, Same (hd1 pa H2) (hd1 pa H') → b ≠ pa → H2 b = some o → H' b = some o := fun sk nb e => hd1_le _ _ (sk _ _ (by rw [hd1_at nb]; exact e))
    refine ⟨.ref r, rfl, r, es, rfl, .inl (SqL.of hr2), _, _, rfl, rfl, _, rfl, _, rfl, _, _, _, _, rfl, RgC.neg (i := (es.length : Int) - 1) (j := -1) (by omega) (by omega) (by decide) (by decide), ?_⟩
    have en : ((es.length : Int) - 1 - -1).toNat = cnt ns := by omega
    rw [en]
    refine for_rangeC (lo := (es.length : Int) - 1) (c := -1) (n := cnt ns) (fun k σ H' => ∃ y5, σ = [some (.str (tabOf bs)), some (.ref fa), some (.ref na), some (.ref r), some (.ref pa), y5, none, none, none] ∧ Same (hd1 pa H2) (hd1 pa H') ∧ H' pa = some (.lst ((pm bs fs ns k).map V.int))) ⟨_, rfl, fun _ _ e => e, hp2⟩ ?_ ?_
    · rintro k σ H3 hk ⟨y5, rfl, s3, hp3⟩
      have ea : (es.length : Int) - 1 + (k : Nat) * (-1) = ((cnt ns - 1 - k : Nat) : Int) := by omega
      rw [ea]
      obtain ⟨at_, hat⟩ : ∃ at_, at_ = cnt ns - 1 - k := ⟨_, rfl⟩
      rw [← hat]
      have hatl : at_ < cnt ns := by omega
      obtain ⟨c, hc⟩ : ∃ c, (every ns)[at_]? = some c := ⟨_, List.getElem?_eq_getElem (by rw [every_len]; exact hatl)⟩
      obtain ⟨le, ei⟩ := every_idx ns at_ c hc
      obtain ⟨v, hv, tv⟩ := tes2.at' hc
      obtain ⟨sa, ss, rfl, hsa, tss⟩ := (tv.same s3).lst_inv
      have hsa3 := hd1_le _ _ hsa
      have sap : sa ≠ pa := by intro z; rw [z] at hsa; unfold hd1 at hsa; rw [if_pos rfl] at hsa; cases hsa
      have ssl : ss.length = (nexts ns c).length := by rw [tss.length, List.length_map]
      have nlen : (nexts ns c).length ≤ 3 := by have := nextsTo_len ns c ns.length; have h3 := few.1; exact Nat.le_trans this h3
      have hr3 := keep s3 rp hr2
      refine ⟨.ref r, rfl, .int (at_ : Nat), rfl, r, _, _, _, rfl, rfl, SqL.of hr3, atI_nat hv, sa, rfl, ⟨_, SqL.of hsa3⟩, fun D nD => ?_⟩
      have Dp : D ≠ pa := (ne_of_none hp3 nD).symm
      refine lc_list (K := K) (a := sa) (xs := ss) (fun j H' => Same H3 (hd1 D H') ∧ H' D = some (.lst ((((nexts ns c).take j).map fun p => gr bs fs ns (inc c p) + xr (Wc bs fs c) (Wc bs fs (inc c p))).map V.int))) ⟨hd1_of (same_upd nD) nD, upd_same⟩ (fun i H' _ hP => SqL.of (hd1_le _ _ (hP.1 _ _ hsa3))) ?_ ?_
      · rintro j x H4 hx ⟨s4, hD4⟩
        obtain ⟨p, hpj, tx⟩ := tss.at hx
        obtain ⟨ta, xs, rfl, hta, txs⟩ := tx.tup_inv
        have exs : xs = [V.int (Int.ofNat p), V.int (Int.ofNat (idx ns (inc c p))), V.int (xr (Wc bs fs c) (Wc bs fs (inc c p)))] := by
          cases txs with
          | cons h1 t1 =>
            cases t1 with
            | cons h2 t2 =>
              cases t2 with
              | cons h3 t3 =>
                cases t3
                rw [h1.int_inv, h2.int_inv, h3.int_inv]
        subst exs
        have hpm := List.mem_of_getElem? hpj
        obtain ⟨hp1, hp2'⟩ := next_iff.mp hpm
        have ie := idx_inc ns c p le.1 hp1
        have eat := every_at ns (inc c p) (le.inc hpm)
        have hb := (List.getElem?_eq_some_iff.mp eat).1
        rw [every_len] at hb
        have cpp := cnt_pos (ns.drop (p + 1))
        have hpg : ((pm bs fs ns k).map V.int)[idx ns (inc c p)]? = some (.int (gr bs fs ns (inc c p))) := by
          rw [List.getElem?_map, pm_get hb, if_pos (by omega), grAt_eq eat]
          rfl
        have hta4 := hd1_le _ _ (s4 _ _ (hd1_le _ _ hta))
        have hp4 := hd1_le _ _ (s4 _ _ hp3)
        refine ⟨ta, _, rfl, SqT.of hta4, rfl, _, _, rfl, _, _, rfl, _, _, rfl, rfl, rfl, ?_⟩
        refine ⟨.ref pa, rfl, .int (Int.ofNat (idx ns (inc c p))), rfl, pa, _, (((idx ns (inc c p)) : Nat) : Int), _, rfl, rfl, SqL.of hp4, atI_nat hpg, .int (xr (Wc bs fs c) (Wc bs fs (inc c p))), rfl, _, _, rfl, rfl, _, hD4, ?_, s4.trans hd1_upd, ?_⟩
        · rw [List.length_map, List.length_map, List.length_take]
          omega
        · rw [upd_same, List.take_add_one, hpj]
          show some (HO.lst (_ ++ [_])) = some (HO.lst (((_ ++ [p]).map _).map V.int))
          rw [List.map_append, List.map_append]
          rfl
      · rintro H4 ⟨s4, hD4⟩
        rw [ssl, List.take_length] at hD4
        have s34 : Same H3 H4 := fun b o e => hd1_le _ _ (s4 _ _ e)
        refine ⟨D, _, 0, rfl, rfl, SqL.of hD4, fun m m1 m2 => ?_⟩
        have em : m = grAt bs fs ns at_ := by
          rw [grAt_eq hc, gr_eq le.1]
          refine mx0_of (fun y hy => ?_) m1 m2
          obtain ⟨p, _, rfl⟩ := List.mem_map.mp hy
          have h1 := gr_nonneg bs fs ns (inc c p)
          have h2 := xr01 (Wc bs fs c) (Wc bs fs (inc c p))
          omega
        refine ⟨.ref pa, rfl, .int (at_ : Nat), rfl, pa, _, _, at_, rfl, rfl, s34 _ _ hp3, ?_, _, rfl, (s3.trans (hd1_same s34)).trans hd1_upd, ?_⟩
        · unfold ixN
          rw [if_pos (by omega), if_pos (by rw [List.length_map, pm_len]; omega)]
          rfl
        · rw [upd_same, em, ← pm_succ hk, ← hat, List.map_set]
    · rintro σ H3 ⟨y5, rfl, s3, hp3⟩
      rw [pm_all] at hp3
      refine ⟨.ref pa, rfl, pa, _, rfl, .inl ⟨SqL.of hp3, fun t nt => ?_⟩⟩
      exact q t _ (Same.trans (fun b o e => hd1_le _ _ (s3 _ _ (sH _ _ e))) (same_upd nt)) upd_same

end
end Gk

set_option Elab.async false
set_option linter.all false
set_option maxRecDepth 100000
set_option maxHeartbeats 1000000
set_option pp.maxSteps 1500
set_option pp.deepTerms false
namespace Gk
open PySem PySem.Spec PyProof.Rows L2
/-! ### zip of two or three texts, tuples, lists -/
namespace ZpG
open PySem PySem.Spec PyProof.Rows L2
inductive ZS where
  | tx (x : PySem.Str)
  | tu (a : Addr)
  | li (a : Addr)
def ZS.val : ZS → V
  | .tx x => .str x
  | .tu a => .ref a
  | .li a => .ref a
def ZS.at (K : PySem.W.Frag) : ZS → Hp → List V → Prop
  | .tx x, _, xs => xs = x.cps.toList.map fun c => V.str ⟨#[c]⟩
  | .tu a, H, xs => SqT K H a xs
  | .li a, H, xs => SqL K H a xs
def ZS.it : ZS → Addr → Nat → Heap → Prop
  | .tx x, it, i, h => ∃ t, h.IsStrIter it (strIterType x) x t i
  | .tu a, it, i, h => h.IsTupleIter it a i
  | .li a, it, i, h => h.IsListIter it a i
def ZS.lt : ZS → Nat → Prop
  | .tx _, _ => True
  | .tu a, n => a < n
  | .li a, n => a < n
def ZS.off : ZS → Addr → Prop
  | .tx _, _ => True
  | .tu a, c => a ≠ c
  | .li a, c => a ≠ c
theorem ne' {a b : Nat} (h : a ≠ b) : @Ne Addr a b := h
theorem ZS.off_of {n c : Nat} (hc : n ≤ c) : ∀ {z : ZS}, z.lt n → z.off c
  | .tx _, _ => trivial
  | .tu _, h => Nat.ne_of_lt (Nat.lt_of_lt_of_le h hc)
  | .li _, h => Nat.ne_of_lt (Nat.lt_of_lt_of_le h hc)
theorem ZS.obj {it : Addr} {i : Nat} {h : Heap} : ∀ {z : ZS}, z.it it i h → ∃ o, h.get? it = some o ∧ ∀ v, o.data ≠ .cell v
  | .tx _, ⟨_, o, e, _, d⟩ => ⟨o, e, fun v q => by rw [d] at q; cases q⟩
  | .tu _, ⟨o, e, _, d⟩ => ⟨o, e, fun v q => by rw [d] at q; cases q⟩
  | .li _, ⟨o, e, _, d⟩ => ⟨o, e, fun v q => by rw [d] at q; cases q⟩
theorem ZS.move {it : Addr} {i : Nat} {h h' : Heap} (k : ∀ o, h.get? it = some o → h'.get? it = some o) : ∀ {z : ZS}, z.it it i h → z.it it i h'
  | .tx _, ⟨t, o, e, r⟩ => ⟨t, o, k o e, r⟩
  | .tu _, ⟨o, e, r⟩ => ⟨o, k o e, r⟩
  | .li _, ⟨o, e, r⟩ => ⟨o, k o e, r⟩
section
variable {X : Cx} {pins : List (Addr × Obj)} {σ : L2.St} {H : Hp} {s : Shared}
theorem ZS.inj (I : Inv X pins σ H s) {z : ZS} {xs ys : List V} (h1 : z.at X.K H xs) (h2 : z.at X.K H ys) : xs = ys := by
  cases z with
  | tx x =>
    have e1 : xs = _ := h1
    have e2 : ys = _ := h2
    rw [e1, e2]
  | tu a => exact I.tuple_inj h1 h2
  | li a => exact I.list_inj h1 h2
theorem ZS.draws {A : Around} {it : Addr} {i : Nat} {xs : List V} (z : ZS) (I : Inv X pins σ H s) (hq : z.at X.K H xs) (hh : A.handled = none) (off : z.off it) (st : z.it it i s.heap) :
    ∃ (fp : List Addr) (P : Nat → Value → Prop) (St : Nat → Heap → Prop), Draws X.prog X.w A it fp xs.length P St ∧ it ∈ fp ∧ (∀ c, c ∈ fp → c = it ∨ ¬ z.off c) ∧ St i s.heap ∧ (∀ j h, St j h → z.it it j h) ∧ ∀ j v, P j v → ∃ x, xs[j]? = some x ∧ RelV x v := by
  cases z with
  | tx x =>
    obtain ⟨t, st⟩ := st
    have e : xs = x.cps.toList.map fun c => V.str ⟨#[c]⟩ := hq
    have el : xs.length = x.cps.size := by rw [e, List.length_map, Array.length_toList]
    refine ⟨[it], fun i v => ∃ c u, x.cps[i]? = some c ∧ v = .str ⟨#[c]⟩ u, fun i h => h.IsStrIter it (strIterType x) x t i, ?_, List.mem_cons_self, fun c hc => .inl (List.mem_singleton.mp hc), st, fun j h q => ⟨t, q⟩, fun j v p => ?_⟩
    · rw [el]
      exact Draws.text hh it x t
    · obtain ⟨c, u, hc, rfl⟩ := p
      refine ⟨.str ⟨#[c]⟩, ?_, ⟨u, rfl⟩⟩
      rw [e, List.getElem?_map, Array.getElem?_toList, hc]
      rfl
  | tu a =>
    obtain ⟨its, rv, p, _⟩ := I.tuple hq
    have hl := rv.length
    refine ⟨[it, a], fun i v => its.toArray[i]? = some v, fun i h => h.IsTupleIter it a i ∧ h.IsTuple a its.toArray, ?_, List.mem_cons_self, fun c hc => ?_, ⟨st, p⟩, fun j h q => q.1, fun j v q => ?_⟩
    · rw [hl, ← List.size_toArray]
      exact Draws.tuple hh it a off its.toArray
    · rcases List.mem_cons.mp hc with e | e
      · exact .inl e
      · refine .inr fun q => ?_
        rw [List.mem_singleton.mp e] at q
        exact q rfl
    · have q : its[j]? = some v := by simpa using q
      have hj := (List.getElem?_eq_some_iff.mp q).1
      have hx : xs[j]? = some (xs[j]'(by omega)) := List.getElem?_eq_getElem _
      obtain ⟨u, hu, ru⟩ := rv.get hx
      rw [q] at hu
      cases Option.some.inj hu
      exact ⟨_, hx, ru⟩
  | li a =>
    obtain ⟨its, rv, p, _⟩ := I.list hq
    have hl := rv.length
    refine ⟨[it, a], fun i v => its.toArray[i]? = some v, fun i h => h.IsListIter it a i ∧ h.IsList a its.toArray, ?_, List.mem_cons_self, fun c hc => ?_, ⟨st, p.isList⟩, fun j h q => q.1, fun j v q => ?_⟩
    · rw [hl, ← List.size_toArray]
      exact Draws.list hh it a off its.toArray
    · rcases List.mem_cons.mp hc with e | e
      · exact .inl e
      · refine .inr fun q => ?_
        rw [List.mem_singleton.mp e] at q
        exact q rfl
    · have q : its[j]? = some v := by simpa using q
      have hj := (List.getElem?_eq_some_iff.mp q).1
      have hx : xs[j]? = some (xs[j]'(by omega)) := List.getElem?_eq_getElem _
      obtain ⟨u, hu, ru⟩ := rv.get hx
      rw [q] at hu
      cases Option.some.inj hu
      exact ⟨_, hx, ru⟩
theorem ZS.begins {v : Value} {xs : List V} (z : ZS) (I : Inv X pins σ H s) (hq : z.at X.K H xs) (r : RelV z.val v) : ∃ o Hh, Begins v o Hh ∧ Hh s.heap ∧ (∀ it h, h.get? it = some o → z.it it 0 h) ∧ z.lt s.heap.objs.size := by
  cases z with
  | tx x =>
    obtain ⟨t, rfl⟩ := (show ∃ t, v = Value.str x t from r)
    exact ⟨_, _, begins_text x t, trivial, fun it h e => ⟨t, _, e, rfl, rfl⟩, trivial⟩
  | tu a =>
    cases (show v = Value.ref a from r)
    obtain ⟨its, rv, p, _⟩ := I.tuple hq
    obtain ⟨o1, ho1, _⟩ := id p
    exact ⟨_, _, begins_tuple a its.toArray, p, fun it h e => ⟨_, e, rfl, rfl⟩, Heap.lt_size ho1⟩
  | li a =>
    cases (show v = Value.ref a from r)
    obtain ⟨its, rv, p, _⟩ := I.list hq
    exact ⟨_, _, begins_list a its.toArray, p.isList, fun it h e => ⟨_, e, rfl, rfl⟩, p.lt⟩
end
def Itz2 (K : PySem.W.Frag) (z1 z2 : ZS) : It :=
  ⟨fun i H => ∃ (xs1 xs2 : List V) (x1 x2 : V), z1.at K H xs1 ∧ z2.at K H xs2 ∧ xs1[i]? = some x1 ∧ xs2[i]? = some x2,
    fun i H v H' => ∃ T x1 x2, v = .ref T ∧ H T = none ∧ H' = upd H T (.tup [x1, x2]) ∧ (∀ xs, z1.at K H xs → xs[i]? = some x1) ∧ (∀ xs, z2.at K H xs → xs[i]? = some x2),
    fun i H => ∃ xs1 xs2 : List V, z1.at K H xs1 ∧ z2.at K H xs2 ∧ i ≤ xs1.length ∧ i ≤ xs2.length ∧ (i = xs1.length ∨ i = xs2.length)⟩
theorem turn_zip2 {P : Program} {w : World} {K : PySem.W.Frag} {elts : List Expr} {kk : Nat} {tpos : Pos} {z1 z2 : ZS} {n : Nat} (l1 : z1.lt n) (l2 : z2.lt n) :
    Turn P w K (.Tuple elts kk tpos) (Itz2 K z1 z2) [n + 4, n + 2, n + 3, n, n + 1] (n + 4) (fun i h => IsZip h (n + 4) (n + 2) (n + 3) .none ∧ IsTupOf2 h (n + 2) (.ref (n)) (.ref (n + 1)) ∧ (∃ x1 x2, IsTupOf2 h (n + 3) x1 x2) ∧ z1.it (n) i h ∧ z2.it (n + 1) i h) where
  mem := List.mem_cons_self
  obj := fun i h st c hc => by
    obtain ⟨hz, hTI, ⟨x1, x2, hTO⟩, st1, st2⟩ := st
    have e' : c = n + 4 ∨ c = n + 2 ∨ c = n + 3 ∨ c = n ∨ c = n + 1 := by simpa using hc
    rcases e' with q | q | q | q | q
    · rw [q]; exact ⟨_, hz, fun v q => nomatch q⟩
    · rw [q]; exact ⟨_, hTI, fun v q => nomatch q⟩
    · rw [q]; exact ⟨_, hTO, fun v q => nomatch q⟩
    · rw [q]; exact ZS.obj (z := z1) st1
    · rw [q]; exact ZS.obj (z := z2) st2
  keep := fun i h h' st k => by
    obtain ⟨hz, hTI, ⟨x1, x2, hTO⟩, st1, st2⟩ := st
    exact ⟨k _ (by simp) _ hz, k _ (by simp) _ hTI, ⟨x1, x2, k _ (by simp) _ hTO⟩, ZS.move (z := z1) (fun o q => k _ (by simp) o q) st1, ZS.move (z := z2) (fun o q => k _ (by simp) o q) st2⟩
  item := by
    intro X hP hw hK hc i pins s σ H E I hf st hg
    subst hP hw hK
    obtain ⟨hz, hTI, ⟨y1, y2, hTO⟩, st1, st2⟩ := st
    obtain ⟨xs1, xs2, x1, x2, q1, q2, h1, h2⟩ := hg
    have hh : X.A.in1.handled = none := I.ok.hd hc
    obtain ⟨fp1, P1, St1, D1, m1, f1, s1, b1, p1⟩ := z1.draws (A := X.A.in1) I q1 hh (ZS.off_of (by omega) l1) st1
    have nf1 : ∀ c, n ≤ c → c ≠ n → c ∉ fp1 := fun c h1 h2 h3 => by
      rcases f1 c h3 with e | e
      · exact h2 e
      · exact e (ZS.off_of h1 l1)
    obtain ⟨fp2, P2, St2, D2, m2, f2, s2, b2, p2⟩ := z2.draws (A := X.A.in1) I q2 hh (ZS.off_of (by omega) l2) st2
    have nf2 : ∀ c, n ≤ c → c ≠ n + 1 → c ∉ fp2 := fun c h1 h2 h3 => by
      rcases f2 c h3 with e | e
      · exact h2 e
      · exact e (ZS.off_of h1 l2)
    have t1 : i < xs1.length := (List.getElem?_eq_some_iff.mp h1).1
    have t2 : i < xs2.length := (List.getElem?_eq_some_iff.mp h2).1
    have hzl : n + 4 < s.heap.objs.size := Heap.lt_size hz
    have S : ZipSep2 (n + 4) (n + 2) (n + 3) (n) (n + 1) fp1 fp2 := { TIz := (ne' (a := n + 2) (b := n + 4) (by omega)), TOz := (ne' (a := n + 3) (b := n + 4) (by omega)), TITO := (ne' (a := n + 2) (b := n + 3) (by omega)), TIi1 := (ne' (a := n + 2) (b := n) (by omega)), mem1 := m1, zf1 := nf1 (n + 4) (by omega) (ne' (a := n + 4) (b := n) (by omega)), Tf1 := nf1 (n + 3) (by omega) (ne' (a := n + 3) (b := n) (by omega)), TIi2 := (ne' (a := n + 2) (b := n + 1) (by omega)), mem2 := m2, zf2 := nf2 (n + 4) (by omega) (ne' (a := n + 4) (b := n + 1) (by omega)), Tf2 := nf2 (n + 3) (by omega) (ne' (a := n + 3) (b := n + 1) (by omega)), sep1_2 := nf2 (n) (by omega) (ne' (a := n) (b := n + 1) (by omega)), sep2_1 := nf1 (n + 1) (by omega) (ne' (a := n + 1) (b := n) (by omega)) }
    refine wpAny_pyNext_zipD2_item S D1 D2 hz hTI hTO s1 s2 t1 t2 fun u1 u2 h' tk g1 g2 z' TO' w1 w2 hT hsz hk => ?_
    refine ⟨_, rfl, wpAny_letOwnedTupleGo_zip (s := { s with heap := h', toks := tk }) z' fun h'' z'' sb => ?_⟩
    obtain ⟨x1', e1, ru1⟩ := p1 i u1 g1
    rw [h1] at e1
    cases Option.some.inj e1
    obtain ⟨x2', e2, ru2⟩ := p2 i u2 g2
    rw [h2] at e2
    cases Option.some.inj e2
    have hT2 : h''.get? s.heap.objs.size = some { cls := .type "tuple", data := .seq #[u1, u2] } := (sb.2 _ (Nat.ne_of_gt hzl)).trans hT
    have new : ObjOk X.prog X.w (upd H s.heap.objs.size (.tup [x1, x2])) h'' s.heap.objs.size (.tup [x1, x2]) :=
      ⟨by show 2 ≤ sizeLine; decide, [u1, u2], .cons ru1 (.cons ru2 (.nil)), ⟨_, hT2, rfl, _, rfl⟩⟩
    have out5 : ∀ c, c ∉ [n + 4, n + 2, n + 3, n, n + 1] → c ≠ n + 4 ∧ c ≠ n + 3 ∧ c ≠ n ∧ c ≠ n + 1 := fun c hb => ⟨fun q' => hb (by simp [q']), fun q' => hb (by simp [q']), fun q' => hb (by simp [q']), fun q' => hb (by simp [q'])⟩
    have I1 : Inv X pins σ (upd H s.heap.objs.size (.tup [x1, x2])) { s with heap := h'', toks := tk } :=
      I.turnedNew (t' := tk) (ch := [n + 4, n + 2, n + 3, n, n + 1]) (fun c o hb q => by
        obtain ⟨a1, a2, b1', b2'⟩ := out5 c hb
        exact (sb.2 c a1).trans (hk c o a1 a2 b1' b2' q)) hf (Nat.le_refl _) new
    refine ⟨.ref s.heap.objs.size, _, I1, rfl, ⟨_, x1, x2, rfl, I.hok.fresh (Nat.le_refl _), rfl, fun l hl => by rw [ZS.inj I hl q1]; exact h1, fun l hl => by rw [ZS.inj I hl q2]; exact h2⟩, ⟨z'', ?_, ⟨u1, u2, ?_⟩, ?_, ?_⟩, fun c hcm => ?_⟩
    · exact (sb.2 (n + 2) (ne' (a := n + 2) (b := n + 4) (by omega))).trans (hk (n + 2) _ (ne' (a := n + 2) (b := n + 4) (by omega)) (ne' (a := n + 2) (b := n + 3) (by omega)) (ne' (a := n + 2) (b := n) (by omega)) (ne' (a := n + 2) (b := n + 1) (by omega)) hTI)
    · exact (sb.2 (n + 3) (ne' (a := n + 3) (b := n + 4) (by omega))).trans TO'
    · exact ZS.move (z := z1) (fun o q => (sb.2 (n) (ne' (a := n) (b := n + 4) (by omega))).trans q) (b1 _ _ w1)
    · exact ZS.move (z := z2) (fun o q => (sb.2 (n + 1) (ne' (a := n + 1) (b := n + 4) (by omega))).trans q) (b2 _ _ w2)
    · have hlt : c < s.heap.objs.size := by
        have e' : c = n + 4 ∨ c = n + 2 ∨ c = n + 3 ∨ c = n ∨ c = n + 1 := by simpa using hcm
        rcases e' with q | q | q | q | q
        · rw [q]; exact (show (n + 4 : Nat) < s.heap.objs.size by omega)
        · rw [q]; exact (show (n + 2 : Nat) < s.heap.objs.size by omega)
        · rw [q]; exact (show (n + 3 : Nat) < s.heap.objs.size by omega)
        · rw [q]; exact (show (n : Nat) < s.heap.objs.size by omega)
        · rw [q]; exact (show (n + 1 : Nat) < s.heap.objs.size by omega)
      rw [upd_ne (Nat.ne_of_lt hlt)]
      exact (hf c hcm).1
  done := by
    intro X hP hw hK hc i pins s σ H E I hf st hg
    subst hP hw hK
    obtain ⟨hz, hTI, ⟨y1, y2, hTO⟩, st1, st2⟩ := st
    obtain ⟨xs1, xs2, q1, q2, t1, t2, hend⟩ := hg
    have hh : X.A.in1.handled = none := I.ok.hd hc
    obtain ⟨fp1, P1, St1, D1, m1, f1, s1, b1, p1⟩ := z1.draws (A := X.A.in1) I q1 hh (ZS.off_of (by omega) l1) st1
    have nf1 : ∀ c, n ≤ c → c ≠ n → c ∉ fp1 := fun c h1 h2 h3 => by
      rcases f1 c h3 with e | e
      · exact h2 e
      · exact e (ZS.off_of h1 l1)
    obtain ⟨fp2, P2, St2, D2, m2, f2, s2, b2, p2⟩ := z2.draws (A := X.A.in1) I q2 hh (ZS.off_of (by omega) l2) st2
    have nf2 : ∀ c, n ≤ c → c ≠ n + 1 → c ∉ fp2 := fun c h1 h2 h3 => by
      rcases f2 c h3 with e | e
      · exact h2 e
      · exact e (ZS.off_of h1 l2)
    have S : ZipSep2 (n + 4) (n + 2) (n + 3) (n) (n + 1) fp1 fp2 := { TIz := (ne' (a := n + 2) (b := n + 4) (by omega)), TOz := (ne' (a := n + 3) (b := n + 4) (by omega)), TITO := (ne' (a := n + 2) (b := n + 3) (by omega)), TIi1 := (ne' (a := n + 2) (b := n) (by omega)), mem1 := m1, zf1 := nf1 (n + 4) (by omega) (ne' (a := n + 4) (b := n) (by omega)), Tf1 := nf1 (n + 3) (by omega) (ne' (a := n + 3) (b := n) (by omega)), TIi2 := (ne' (a := n + 2) (b := n + 1) (by omega)), mem2 := m2, zf2 := nf2 (n + 4) (by omega) (ne' (a := n + 4) (b := n + 1) (by omega)), Tf2 := nf2 (n + 3) (by omega) (ne' (a := n + 3) (b := n + 1) (by omega)), sep1_2 := nf2 (n) (by omega) (ne' (a := n) (b := n + 1) (by omega)), sep2_1 := nf1 (n + 1) (by omega) (ne' (a := n + 1) (b := n) (by omega)) }
    exact wpAny_pyNext_zipD2_end S D1 D2 hz hTI hTO s1 s2 t1 t2 hend fun h' tk hk => ⟨rfl, I.turnedL (t' := tk) (ch := [n + 4, n + 2, n + 3, n, n + 1]) (fun c o hb q =>
      hk c o (fun q' => hb (by simp [q'])) (fun q' => hb (by simp [q'])) (fun q' => hb (by simp [q'])) (fun q' => hb (by simp [q'])) q) hf⟩
  self := fun A i s Q E st h => wpAny_pyIter_zip st.1 h
def iZip2 (K : PySem.W.Frag) (ta : TA) : TI := fun σ H R => ta σ H fun vs H1 => ∃ (z1 z2 : ZS) (xs1 xs2 : List V), vs = [z1.val, z2.val] ∧ z1.at K H1 xs1 ∧ z2.at K H1 xs2 ∧ R (Itz2 K z1 z2) H1
theorem pi_zip2 {X : Cx} {e e2 : Expr} {ta : TA} {p pos tpos : Pos} {elts : List Expr} {kk : Nat} (hg : Gl X "zip") (hm : X.mg "zip" = none) (ha : PA X [e, e2] ta)
    (hs : starEach [e, e2] X.env = (false, eval e X.env) :: starEach [e2] X.env := by rfl) (hpl : (backTo pos (starEach [e2] X.env)).any (·.1) = false := by rfl) :
    PI X (.Tuple elts kk tpos) (.Call (.Name "zip" p) [e, e2] [] pos) (iZip2 X.K ta) := by
  refine ⟨fun pins s σ H R I h => ?_⟩
  refine Call_ (ld_blt I hg hm PyProof.Rows.boot_zip (PyProof.Rows.callWith_type1 (thn (ha.run pos pins s σ H _ I h) fun us s1 ⟨vs, H1, I1, r1, q1⟩ => ?_) hs hpl))
  obtain ⟨z1, z2, xs1, xs2, ex, q1, q2, q⟩ := q1
  subst ex
  cases r1 with
  | cons r1 rr =>
    cases rr with
    | cons r2 rr =>
      cases rr
      obtain ⟨o1, G1, B1, h1, i1, l1⟩ := z1.begins I1 q1 r1
      obtain ⟨o2, G2, B2, h2, i2, l2⟩ := z2.begins I1 q2 r2
      have fresh5 : ∀ c, c ∈ [s1.heap.objs.size + 4, s1.heap.objs.size + 2, s1.heap.objs.size + 3, s1.heap.objs.size, s1.heap.objs.size + 1] → FpOk X pins H1 c := fun c hcm => by
        have e' : c = s1.heap.objs.size + 4 ∨ c = s1.heap.objs.size + 2 ∨ c = s1.heap.objs.size + 3 ∨ c = s1.heap.objs.size ∨ c = s1.heap.objs.size + 1 := by simpa using hcm
        have hle : s1.heap.objs.size ≤ c := by omega
        exact I1.fpOk hle (I1.hok.fresh hle)
      refine zip_begins2 B1 B2 h1 h2 fun h' hz hTI hTO g1 g2 hsz hk => wpAny_pyIter_zip hz ?_
      have I2 : Inv X pins σ H1 { s1 with heap := h' } := I1.kept (t' := s1.toks) hk
      exact ⟨s1.heap.objs.size + 4, [s1.heap.objs.size + 4, s1.heap.objs.size + 2, s1.heap.objs.size + 3, s1.heap.objs.size, s1.heap.objs.size + 1], _, _, H1, rfl, I2, turn_zip2 l1 l2, ⟨hz, hTI, ⟨_, _, hTO⟩, i1 _ _ g1, i2 _ _ g2⟩, fresh5, q⟩
theorem for_zip2 {K : PySem.W.Frag} {z1 z2 : ZS} {xs1 xs2 : List V} {n : Nat} {g : TG} {tb : TS} {D : Ends} {σ : L2.St} {H : Hp} (n1 : xs1.length = n) (n2 : xs2.length = n) (Pv : Nat → L2.St → Hp → Prop) (h0 : Pv 0 σ H) (hl : ∀ i σ H, i ≤ n → Pv i σ H → z1.at K H xs1 ∧ z2.at K H xs2)
    (hs : ∀ (i : Nat) (x1 x2 : V) (T : Addr) (σ : L2.St) (H : Hp), xs1[i]? = some x1 → xs2[i]? = some x2 → H T = none → Pv i σ H → g (.ref T) σ (upd H T (.tup [x1, x2])) fun σ2 H2 => tb { D with nx := Pv (i + 1), ct := Pv (i + 1), bk := D.nx } σ2 H2) (hd : ∀ σ H, Pv n σ H → D.nx σ H) :
    ∃ W : Nat → Nat → L2.St → Hp → Prop, (∃ m, W 0 m σ H) ∧ ∀ i m σ H, W i m σ H →
      ((Itz2 K z1 z2).stop i H ∧ D.nx σ H) ∨ ((Itz2 K z1 z2).go i H ∧ ∃ N : L2.St → Hp → Prop, (∀ σ' H', N σ' H' → ∃ m', m' < m ∧ W (i + 1) m' σ' H') ∧ ∀ v H', (Itz2 K z1 z2).yld i H v H' → g v σ H' fun σ2 H2 => tb { D with nx := N, ct := N, bk := D.nx } σ2 H2) := by
  refine ⟨fun i m σ H => m = n - i ∧ i ≤ n ∧ Pv i σ H, ⟨n, rfl, Nat.zero_le _, h0⟩, ?_⟩
  rintro i m σ H ⟨rfl, hi, p⟩
  obtain ⟨q1, q2⟩ := hl i σ H hi p
  by_cases hlt : i < n
  · have e1 : xs1[i]? = some (xs1[i]'(by omega)) := List.getElem?_eq_getElem _
    have e2 : xs2[i]? = some (xs2[i]'(by omega)) := List.getElem?_eq_getElem _
    refine .inr ⟨⟨xs1, xs2, _, _, q1, q2, e1, e2⟩, Pv (i + 1), fun σ' H' p' => ⟨n - (i + 1), by omega, rfl, hlt, p'⟩, fun v H' y => ?_⟩
    obtain ⟨T, y1, y2, rfl, hT, rfl, f1, f2⟩ := y
    exact hs i y1 y2 T σ H (f1 xs1 q1) (f2 xs2 q2) hT p
  · have e : i = n := by omega
    subst e
    exact .inl ⟨⟨xs1, xs2, q1, q2, by omega, by omega, .inl (by omega)⟩, hd σ H p⟩
theorem lc_zip2 {K : PySem.W.Frag} {z1 z2 : ZS} {xs1 xs2 : List V} {n : Nat} {g : TG} {tt : TT} {te : TE} {vs : List Nat} {σ : L2.St} {H1 : Hp} {D : Addr} {Qd : Hp → Prop} (n1 : xs1.length = n) (n2 : xs2.length = n) (Pv : Nat → Hp → Prop) (h0 : Pv 0 (upd H1 D (.lst []))) (hl : ∀ i H, i ≤ n → Pv i H → z1.at K H xs1 ∧ z2.at K H xs2)
    (hs : ∀ (i : Nat) (x1 x2 : V) (T : Addr) (H : Hp), xs1[i]? = some x1 → xs2[i]? = some x2 → H T = none → Pv i H → g (.ref T) (wipe σ vs) (upd H T (.tup [x1, x2])) fun σ2 H2 => wipe σ2 vs = wipe σ vs ∧ tt σ2 H2 fun b H3 =>
      if b = true then te σ2 H3 fun y H4 => ∃ acc, H4 D = some (.lst acc) ∧ acc.length < sizeLine ∧ Pv (i + 1) (upd H4 D (.lst (acc ++ [y]))) else Pv (i + 1) H3) (hd : ∀ H, Pv n H → Qd H) :
    ∃ W : Nat → Nat → Hp → Prop, (∃ m, W 0 m (upd H1 D (.lst []))) ∧ ∀ i m H, W i m H →
      ((Itz2 K z1 z2).stop i H ∧ Qd H) ∨ ((Itz2 K z1 z2).go i H ∧ ∃ Nx : Hp → Prop, (∀ H', Nx H' → ∃ m', m' < m ∧ W (i + 1) m' H') ∧ ∀ x H', (Itz2 K z1 z2).yld i H x H' → g x (wipe σ vs) H' fun σ2 H2 => wipe σ2 vs = wipe σ vs ∧ tt σ2 H2 fun b H3 =>
        if b = true then te σ2 H3 fun y H4 => ∃ acc, H4 D = some (.lst acc) ∧ acc.length < sizeLine ∧ Nx (upd H4 D (.lst (acc ++ [y]))) else Nx H3) := by
  refine ⟨fun i m H => m = n - i ∧ i ≤ n ∧ Pv i H, ⟨n, by simp, Nat.zero_le _, h0⟩, ?_⟩
  rintro i m H ⟨rfl, hi, p⟩
  obtain ⟨q1, q2⟩ := hl i H hi p
  by_cases hlt : i < n
  · have e1 : xs1[i]? = some (xs1[i]'(by omega)) := List.getElem?_eq_getElem _
    have e2 : xs2[i]? = some (xs2[i]'(by omega)) := List.getElem?_eq_getElem _
    refine .inr ⟨⟨xs1, xs2, _, _, q1, q2, e1, e2⟩, Pv (i + 1), fun H' p' => ⟨n - (i + 1), by omega, rfl, hlt, p'⟩, fun v H' y => ?_⟩
    obtain ⟨T, y1, y2, rfl, hT, rfl, f1, f2⟩ := y
    exact hs i y1 y2 T H (f1 xs1 q1) (f2 xs2 q2) hT p
  · have e : i = n := by omega
    subst e
    exact .inl ⟨⟨xs1, xs2, q1, q2, by omega, by omega, .inl (by omega)⟩, hd H p⟩
theorem gx_zip2 {α : Type} {K : PySem.W.Frag} {z1 z2 : ZS} {xs1 xs2 : List V} {n : Nat} {g : TG} {tt : TT} {te : TE} {vs : List Nat} {σ0 : L2.St} {End : α → Hp → Prop} {Yd : α → V → Hp → (α → Hp → Prop) → Prop} {a0 : α} {H0 : Hp} (n1 : xs1.length = n) (n2 : xs2.length = n) (Pv : Nat → α → Hp → Prop) (h0 : Pv 0 a0 H0) (hl : ∀ i c H, i ≤ n → Pv i c H → z1.at K H xs1 ∧ z2.at K H xs2)
    (hs : ∀ (i : Nat) (x1 x2 : V) (T : Addr) (c : α) (H : Hp), xs1[i]? = some x1 → xs2[i]? = some x2 → H T = none → Pv i c H → g (.ref T) σ0 (upd H T (.tup [x1, x2])) fun σ2 H2 => wipe σ2 vs = σ0 ∧ tt σ2 H2 fun b H3 => if b = true then te σ2 H3 fun y H4 => Yd c y H4 (Pv (i + 1)) else Pv (i + 1) c H3) (hd : ∀ c H, Pv n c H → End c H) :
    ∃ W : Nat → Nat → α → Hp → Prop, (∃ m, W 0 m a0 H0) ∧ tGx (Itz2 K z1 z2) g tt te σ0 vs End Yd W := by
  refine ⟨fun i m c H => m = n - i ∧ i ≤ n ∧ Pv i c H, ⟨n, rfl, Nat.zero_le _, h0⟩, ?_⟩
  rintro i m c H ⟨rfl, hi, p⟩
  obtain ⟨q1, q2⟩ := hl i c H hi p
  by_cases hlt : i < n
  · have e1 : xs1[i]? = some (xs1[i]'(by omega)) := List.getElem?_eq_getElem _
    have e2 : xs2[i]? = some (xs2[i]'(by omega)) := List.getElem?_eq_getElem _
    refine .inr ⟨⟨xs1, xs2, _, _, q1, q2, e1, e2⟩, Pv (i + 1), fun c' H' p' => ⟨n - (i + 1), by omega, rfl, hlt, p'⟩, fun v H' y => ?_⟩
    obtain ⟨T, y1, y2, rfl, hT, rfl, f1, f2⟩ := y
    exact hs i y1 y2 T c H (f1 xs1 q1) (f2 xs2 q2) hT p
  · have e : i = n := by omega
    subst e
    exact .inl ⟨⟨xs1, xs2, q1, q2, by omega, by omega, .inl (by omega)⟩, hd c H p⟩
def Itz3 (K : PySem.W.Frag) (z1 z2 z3 : ZS) : It :=
  ⟨fun i H => ∃ (xs1 xs2 xs3 : List V) (x1 x2 x3 : V), z1.at K H xs1 ∧ z2.at K H xs2 ∧ z3.at K H xs3 ∧ xs1[i]? = some x1 ∧ xs2[i]? = some x2 ∧ xs3[i]? = some x3,
    fun i H v H' => ∃ T x1 x2 x3, v = .ref T ∧ H T = none ∧ H' = upd H T (.tup [x1, x2, x3]) ∧ (∀ xs, z1.at K H xs → xs[i]? = some x1) ∧ (∀ xs, z2.at K H xs → xs[i]? = some x2) ∧ (∀ xs, z3.at K H xs → xs[i]? = some x3),
    fun i H => ∃ xs1 xs2 xs3 : List V, z1.at K H xs1 ∧ z2.at K H xs2 ∧ z3.at K H xs3 ∧ i ≤ xs1.length ∧ i ≤ xs2.length ∧ i ≤ xs3.length ∧ (i = xs1.length ∨ i = xs2.length ∨ i = xs3.length)⟩
theorem turn_zip3 {P : Program} {w : World} {K : PySem.W.Frag} {elts : List Expr} {kk : Nat} {tpos : Pos} {z1 z2 z3 : ZS} {n : Nat} (l1 : z1.lt n) (l2 : z2.lt n) (l3 : z3.lt n) :
    Turn P w K (.Tuple elts kk tpos) (Itz3 K z1 z2 z3) [n + 5, n + 3, n + 4, n, n + 1, n + 2] (n + 5) (fun i h => IsZip h (n + 5) (n + 3) (n + 4) .none ∧ IsTupOf3 h (n + 3) (.ref (n)) (.ref (n + 1)) (.ref (n + 2)) ∧ (∃ x1 x2 x3, IsTupOf3 h (n + 4) x1 x2 x3) ∧ z1.it (n) i h ∧ z2.it (n + 1) i h ∧ z3.it (n + 2) i h) where
  mem := List.mem_cons_self
  obj := fun i h st c hc => by
    obtain ⟨hz, hTI, ⟨x1, x2, x3, hTO⟩, st1, st2, st3⟩ := st
    have e' : c = n + 5 ∨ c = n + 3 ∨ c = n + 4 ∨ c = n ∨ c = n + 1 ∨ c = n + 2 := by simpa using hc
    rcases e' with q | q | q | q | q | q
    · rw [q]; exact ⟨_, hz, fun v q => nomatch q⟩
    · rw [q]; exact ⟨_, hTI, fun v q => nomatch q⟩
    · rw [q]; exact ⟨_, hTO, fun v q => nomatch q⟩
    · rw [q]; exact ZS.obj (z := z1) st1
    · rw [q]; exact ZS.obj (z := z2) st2
    · rw [q]; exact ZS.obj (z := z3) st3
  keep := fun i h h' st k => by
    obtain ⟨hz, hTI, ⟨x1, x2, x3, hTO⟩, st1, st2, st3⟩ := st
    exact ⟨k _ (by simp) _ hz, k _ (by simp) _ hTI, ⟨x1, x2, x3, k _ (by simp) _ hTO⟩, ZS.move (z := z1) (fun o q => k _ (by simp) o q) st1, ZS.move (z := z2) (fun o q => k _ (by simp) o q) st2, ZS.move (z := z3) (fun o q => k _ (by simp) o q) st3⟩
  item := by
    intro X hP hw hK hc i pins s σ H E I hf st hg
    subst hP hw hK
    obtain ⟨hz, hTI, ⟨y1, y2, y3, hTO⟩, st1, st2, st3⟩ := st
    obtain ⟨xs1, xs2, xs3, x1, x2, x3, q1, q2, q3, h1, h2, h3⟩ := hg
    have hh : X.A.in1.handled = none := I.ok.hd hc
    obtain ⟨fp1, P1, St1, D1, m1, f1, s1, b1, p1⟩ := z1.draws (A := X.A.in1) I q1 hh (ZS.off_of (by omega) l1) st1
    have nf1 : ∀ c, n ≤ c → c ≠ n → c ∉ fp1 := fun c h1 h2 h3 => by
      rcases f1 c h3 with e | e
      · exact h2 e
      · exact e (ZS.off_of h1 l1)
    obtain ⟨fp2, P2, St2, D2, m2, f2, s2, b2, p2⟩ := z2.draws (A := X.A.in1) I q2 hh (ZS.off_of (by omega) l2) st2
    have nf2 : ∀ c, n ≤ c → c ≠ n + 1 → c ∉ fp2 := fun c h1 h2 h3 => by
      rcases f2 c h3 with e | e
      · exact h2 e
      · exact e (ZS.off_of h1 l2)
    obtain ⟨fp3, P3, St3, D3, m3, f3, s3, b3, p3⟩ := z3.draws (A := X.A.in1) I q3 hh (ZS.off_of (by omega) l3) st3
    have nf3 : ∀ c, n ≤ c → c ≠ n + 2 → c ∉ fp3 := fun c h1 h2 h3 => by
      rcases f3 c h3 with e | e
      · exact h2 e
      · exact e (ZS.off_of h1 l3)
    have t1 : i < xs1.length := (List.getElem?_eq_some_iff.mp h1).1
    have t2 : i < xs2.length := (List.getElem?_eq_some_iff.mp h2).1
    have t3 : i < xs3.length := (List.getElem?_eq_some_iff.mp h3).1
    have hzl : n + 5 < s.heap.objs.size := Heap.lt_size hz
    have S : ZipSep3 (n + 5) (n + 3) (n + 4) (n) (n + 1) (n + 2) fp1 fp2 fp3 := { TIz := (ne' (a := n + 3) (b := n + 5) (by omega)), TOz := (ne' (a := n + 4) (b := n + 5) (by omega)), TITO := (ne' (a := n + 3) (b := n + 4) (by omega)), TIi1 := (ne' (a := n + 3) (b := n) (by omega)), mem1 := m1, zf1 := nf1 (n + 5) (by omega) (ne' (a := n + 5) (b := n) (by omega)), Tf1 := nf1 (n + 4) (by omega) (ne' (a := n + 4) (b := n) (by omega)), TIi2 := (ne' (a := n + 3) (b := n + 1) (by omega)), mem2 := m2, zf2 := nf2 (n + 5) (by omega) (ne' (a := n + 5) (b := n + 1) (by omega)), Tf2 := nf2 (n + 4) (by omega) (ne' (a := n + 4) (b := n + 1) (by omega)), TIi3 := (ne' (a := n + 3) (b := n + 2) (by omega)), mem3 := m3, zf3 := nf3 (n + 5) (by omega) (ne' (a := n + 5) (b := n + 2) (by omega)), Tf3 := nf3 (n + 4) (by omega) (ne' (a := n + 4) (b := n + 2) (by omega)), sep1_2 := nf2 (n) (by omega) (ne' (a := n) (b := n + 1) (by omega)), sep1_3 := nf3 (n) (by omega) (ne' (a := n) (b := n + 2) (by omega)), sep2_1 := nf1 (n + 1) (by omega) (ne' (a := n + 1) (b := n) (by omega)), sep2_3 := nf3 (n + 1) (by omega) (ne' (a := n + 1) (b := n + 2) (by omega)), sep3_1 := nf1 (n + 2) (by omega) (ne' (a := n + 2) (b := n) (by omega)), sep3_2 := nf2 (n + 2) (by omega) (ne' (a := n + 2) (b := n + 1) (by omega)) }
    refine wpAny_pyNext_zipD3_item S D1 D2 D3 hz hTI hTO s1 s2 s3 t1 t2 t3 fun u1 u2 u3 h' tk g1 g2 g3 z' TO' w1 w2 w3 hT hsz hk => ?_
    refine ⟨_, rfl, wpAny_letOwnedTupleGo_zip (s := { s with heap := h', toks := tk }) z' fun h'' z'' sb => ?_⟩
    obtain ⟨x1', e1, ru1⟩ := p1 i u1 g1
    rw [h1] at e1
    cases Option.some.inj e1
    obtain ⟨x2', e2, ru2⟩ := p2 i u2 g2
    rw [h2] at e2
    cases Option.some.inj e2
    obtain ⟨x3', e3, ru3⟩ := p3 i u3 g3
    rw [h3] at e3
    cases Option.some.inj e3
    have hT2 : h''.get? s.heap.objs.size = some { cls := .type "tuple", data := .seq #[u1, u2, u3] } := (sb.2 _ (Nat.ne_of_gt hzl)).trans hT
    have new : ObjOk X.prog X.w (upd H s.heap.objs.size (.tup [x1, x2, x3])) h'' s.heap.objs.size (.tup [x1, x2, x3]) :=
      ⟨by show 3 ≤ sizeLine; decide, [u1, u2, u3], .cons ru1 (.cons ru2 (.cons ru3 (.nil))), ⟨_, hT2, rfl, _, rfl⟩⟩
    have out5 : ∀ c, c ∉ [n + 5, n + 3, n + 4, n, n + 1, n + 2] → c ≠ n + 5 ∧ c ≠ n + 4 ∧ c ≠ n ∧ c ≠ n + 1 ∧ c ≠ n + 2 := fun c hb => ⟨fun q' => hb (by simp [q']), fun q' => hb (by simp [q']), fun q' => hb (by simp [q']), fun q' => hb (by simp [q']), fun q' => hb (by simp [q'])⟩
    have I1 : Inv X pins σ (upd H s.heap.objs.size (.tup [x1, x2, x3])) { s with heap := h'', toks := tk } :=
      I.turnedNew (t' := tk) (ch := [n + 5, n + 3, n + 4, n, n + 1, n + 2]) (fun c o hb q => by
        obtain ⟨a1, a2, b1', b2', b3'⟩ := out5 c hb
        exact (sb.2 c a1).trans (hk c o a1 a2 b1' b2' b3' q)) hf (Nat.le_refl _) new
    refine ⟨.ref s.heap.objs.size, _, I1, rfl, ⟨_, x1, x2, x3, rfl, I.hok.fresh (Nat.le_refl _), rfl, fun l hl => by rw [ZS.inj I hl q1]; exact h1, fun l hl => by rw [ZS.inj I hl q2]; exact h2, fun l hl => by rw [ZS.inj I hl q3]; exact h3⟩, ⟨z'', ?_, ⟨u1, u2, u3, ?_⟩, ?_, ?_, ?_⟩, fun c hcm => ?_⟩
    · exact (sb.2 (n + 3) (ne' (a := n + 3) (b := n + 5) (by omega))).trans (hk (n + 3) _ (ne' (a := n + 3) (b := n + 5) (by omega)) (ne' (a := n + 3) (b := n + 4) (by omega)) (ne' (a := n + 3) (b := n) (by omega)) (ne' (a := n + 3) (b := n + 1) (by omega)) (ne' (a := n + 3) (b := n + 2) (by omega)) hTI)
    · exact (sb.2 (n + 4) (ne' (a := n + 4) (b := n + 5) (by omega))).trans TO'
    · exact ZS.move (z := z1) (fun o q => (sb.2 (n) (ne' (a := n) (b := n + 5) (by omega))).trans q) (b1 _ _ w1)
    · exact ZS.move (z := z2) (fun o q => (sb.2 (n + 1) (ne' (a := n + 1) (b := n + 5) (by omega))).trans q) (b2 _ _ w2)
    · exact ZS.move (z := z3) (fun o q => (sb.2 (n + 2) (ne' (a := n + 2) (b := n + 5) (by omega))).trans q) (b3 _ _ w3)
    · have hlt : c < s.heap.objs.size := by
        have e' : c = n + 5 ∨ c = n + 3 ∨ c = n + 4 ∨ c = n ∨ c = n + 1 ∨ c = n + 2 := by simpa using hcm
        rcases e' with q | q | q | q | q | q
        · rw [q]; exact (show (n + 5 : Nat) < s.heap.objs.size by omega)
        · rw [q]; exact (show (n + 3 : Nat) < s.heap.objs.size by omega)
        · rw [q]; exact (show (n + 4 : Nat) < s.heap.objs.size by omega)
        · rw [q]; exact (show (n : Nat) < s.heap.objs.size by omega)
        · rw [q]; exact (show (n + 1 : Nat) < s.heap.objs.size by omega)
        · rw [q]; exact (show (n + 2 : Nat) < s.heap.objs.size by omega)
      rw [upd_ne (Nat.ne_of_lt hlt)]
      exact (hf c hcm).1
  done := by
    intro X hP hw hK hc i pins s σ H E I hf st hg
    subst hP hw hK
    obtain ⟨hz, hTI, ⟨y1, y2, y3, hTO⟩, st1, st2, st3⟩ := st
    obtain ⟨xs1, xs2, xs3, q1, q2, q3, t1, t2, t3, hend⟩ := hg
    have hh : X.A.in1.handled = none := I.ok.hd hc
    obtain ⟨fp1, P1, St1, D1, m1, f1, s1, b1, p1⟩ := z1.draws (A := X.A.in1) I q1 hh (ZS.off_of (by omega) l1) st1
    have nf1 : ∀ c, n ≤ c → c ≠ n → c ∉ fp1 := fun c h1 h2 h3 => by
      rcases f1 c h3 with e | e
      · exact h2 e
      · exact e (ZS.off_of h1 l1)
    obtain ⟨fp2, P2, St2, D2, m2, f2, s2, b2, p2⟩ := z2.draws (A := X.A.in1) I q2 hh (ZS.off_of (by omega) l2) st2
    have nf2 : ∀ c, n ≤ c → c ≠ n + 1 → c ∉ fp2 := fun c h1 h2 h3 => by
      rcases f2 c h3 with e | e
      · exact h2 e
      · exact e (ZS.off_of h1 l2)
    obtain ⟨fp3, P3, St3, D3, m3, f3, s3, b3, p3⟩ := z3.draws (A := X.A.in1) I q3 hh (ZS.off_of (by omega) l3) st3
    have nf3 : ∀ c, n ≤ c → c ≠ n + 2 → c ∉ fp3 := fun c h1 h2 h3 => by
      rcases f3 c h3 with e | e
      · exact h2 e
      · exact e (ZS.off_of h1 l3)
    have S : ZipSep3 (n + 5) (n + 3) (n + 4) (n) (n + 1) (n + 2) fp1 fp2 fp3 := { TIz := (ne' (a := n + 3) (b := n + 5) (by omega)), TOz := (ne' (a := n + 4) (b := n + 5) (by omega)), TITO := (ne' (a := n + 3) (b := n + 4) (by omega)), TIi1 := (ne' (a := n + 3) (b := n) (by omega)), mem1 := m1, zf1 := nf1 (n + 5) (by omega) (ne' (a := n + 5) (b := n) (by omega)), Tf1 := nf1 (n + 4) (by omega) (ne' (a := n + 4) (b := n) (by omega)), TIi2 := (ne' (a := n + 3) (b := n + 1) (by omega)), mem2 := m2, zf2 := nf2 (n + 5) (by omega) (ne' (a := n + 5) (b := n + 1) (by omega)), Tf2 := nf2 (n + 4) (by omega) (ne' (a := n + 4) (b := n + 1) (by omega)), TIi3 := (ne' (a := n + 3) (b := n + 2) (by omega)), mem3 := m3, zf3 := nf3 (n + 5) (by omega) (ne' (a := n + 5) (b := n + 2) (by omega)), Tf3 := nf3 (n + 4) (by omega) (ne' (a := n + 4) (b := n + 2) (by omega)), sep1_2 := nf2 (n) (by omega) (ne' (a := n) (b := n + 1) (by omega)), sep1_3 := nf3 (n) (by omega) (ne' (a := n) (b := n + 2) (by omega)), sep2_1 := nf1 (n + 1) (by omega) (ne' (a := n + 1) (b := n) (by omega)), sep2_3 := nf3 (n + 1) (by omega) (ne' (a := n + 1) (b := n + 2) (by omega)), sep3_1 := nf1 (n + 2) (by omega) (ne' (a := n + 2) (b := n) (by omega)), sep3_2 := nf2 (n + 2) (by omega) (ne' (a := n + 2) (b := n + 1) (by omega)) }
    exact wpAny_pyNext_zipD3_end S D1 D2 D3 hz hTI hTO s1 s2 s3 t1 t2 t3 hend fun h' tk hk => ⟨rfl, I.turnedL (t' := tk) (ch := [n + 5, n + 3, n + 4, n, n + 1, n + 2]) (fun c o hb q =>
      hk c o (fun q' => hb (by simp [q'])) (fun q' => hb (by simp [q'])) (fun q' => hb (by simp [q'])) (fun q' => hb (by simp [q'])) (fun q' => hb (by simp [q'])) q) hf⟩
  self := fun A i s Q E st h => wpAny_pyIter_zip st.1 h
def iZip3 (K : PySem.W.Frag) (ta : TA) : TI := fun σ H R => ta σ H fun vs H1 => ∃ (z1 z2 z3 : ZS) (xs1 xs2 xs3 : List V), vs = [z1.val, z2.val, z3.val] ∧ z1.at K H1 xs1 ∧ z2.at K H1 xs2 ∧ z3.at K H1 xs3 ∧ R (Itz3 K z1 z2 z3) H1
theorem pi_zip3 {X : Cx} {e e2 e3 : Expr} {ta : TA} {p pos tpos : Pos} {elts : List Expr} {kk : Nat} (hg : Gl X "zip") (hm : X.mg "zip" = none) (ha : PA X [e, e2, e3] ta)
    (hs : starEach [e, e2, e3] X.env = (false, eval e X.env) :: starEach [e2, e3] X.env := by rfl) (hpl : (backTo pos (starEach [e2, e3] X.env)).any (·.1) = false := by rfl) :
    PI X (.Tuple elts kk tpos) (.Call (.Name "zip" p) [e, e2, e3] [] pos) (iZip3 X.K ta) := by
  refine ⟨fun pins s σ H R I h => ?_⟩
  refine Call_ (ld_blt I hg hm PyProof.Rows.boot_zip (PyProof.Rows.callWith_type1 (thn (ha.run pos pins s σ H _ I h) fun us s1 ⟨vs, H1, I1, r1, q1⟩ => ?_) hs hpl))
  obtain ⟨z1, z2, z3, xs1, xs2, xs3, ex, q1, q2, q3, q⟩ := q1
  subst ex
  cases r1 with
  | cons r1 rr =>
    cases rr with
    | cons r2 rr =>
      cases rr with
      | cons r3 rr =>
        cases rr
        obtain ⟨o1, G1, B1, h1, i1, l1⟩ := z1.begins I1 q1 r1
        obtain ⟨o2, G2, B2, h2, i2, l2⟩ := z2.begins I1 q2 r2
        obtain ⟨o3, G3, B3, h3, i3, l3⟩ := z3.begins I1 q3 r3
        have fresh5 : ∀ c, c ∈ [s1.heap.objs.size + 5, s1.heap.objs.size + 3, s1.heap.objs.size + 4, s1.heap.objs.size, s1.heap.objs.size + 1, s1.heap.objs.size + 2] → FpOk X pins H1 c := fun c hcm => by
          have e' : c = s1.heap.objs.size + 5 ∨ c = s1.heap.objs.size + 3 ∨ c = s1.heap.objs.size + 4 ∨ c = s1.heap.objs.size ∨ c = s1.heap.objs.size + 1 ∨ c = s1.heap.objs.size + 2 := by simpa using hcm
          have hle : s1.heap.objs.size ≤ c := by omega
          exact I1.fpOk hle (I1.hok.fresh hle)
        refine zip_begins3 B1 B2 B3 h1 h2 h3 fun h' hz hTI hTO g1 g2 g3 hsz hk => wpAny_pyIter_zip hz ?_
        have I2 : Inv X pins σ H1 { s1 with heap := h' } := I1.kept (t' := s1.toks) hk
        exact ⟨s1.heap.objs.size + 5, [s1.heap.objs.size + 5, s1.heap.objs.size + 3, s1.heap.objs.size + 4, s1.heap.objs.size, s1.heap.objs.size + 1, s1.heap.objs.size + 2], _, _, H1, rfl, I2, turn_zip3 l1 l2 l3, ⟨hz, hTI, ⟨_, _, _, hTO⟩, i1 _ _ g1, i2 _ _ g2, i3 _ _ g3⟩, fresh5, q⟩
theorem for_zip3 {K : PySem.W.Frag} {z1 z2 z3 : ZS} {xs1 xs2 xs3 : List V} {n : Nat} {g : TG} {tb : TS} {D : Ends} {σ : L2.St} {H : Hp} (n1 : xs1.length = n) (n2 : xs2.length = n) (n3 : xs3.length = n) (Pv : Nat → L2.St → Hp → Prop) (h0 : Pv 0 σ H) (hl : ∀ i σ H, i ≤ n → Pv i σ H → z1.at K H xs1 ∧ z2.at K H xs2 ∧ z3.at K H xs3)
    (hs : ∀ (i : Nat) (x1 x2 x3 : V) (T : Addr) (σ : L2.St) (H : Hp), xs1[i]? = some x1 → xs2[i]? = some x2 → xs3[i]? = some x3 → H T = none → Pv i σ H → g (.ref T) σ (upd H T (.tup [x1, x2, x3])) fun σ2 H2 => tb { D with nx := Pv (i + 1), ct := Pv (i + 1), bk := D.nx } σ2 H2) (hd : ∀ σ H, Pv n σ H → D.nx σ H) :
    ∃ W : Nat → Nat → L2.St → Hp → Prop, (∃ m, W 0 m σ H) ∧ ∀ i m σ H, W i m σ H →
      ((Itz3 K z1 z2 z3).stop i H ∧ D.nx σ H) ∨ ((Itz3 K z1 z2 z3).go i H ∧ ∃ N : L2.St → Hp → Prop, (∀ σ' H', N σ' H' → ∃ m', m' < m ∧ W (i + 1) m' σ' H') ∧ ∀ v H', (Itz3 K z1 z2 z3).yld i H v H' → g v σ H' fun σ2 H2 => tb { D with nx := N, ct := N, bk := D.nx } σ2 H2) := by
  refine ⟨fun i m σ H => m = n - i ∧ i ≤ n ∧ Pv i σ H, ⟨n, rfl, Nat.zero_le _, h0⟩, ?_⟩
  rintro i m σ H ⟨rfl, hi, p⟩
  obtain ⟨q1, q2, q3⟩ := hl i σ H hi p
  by_cases hlt : i < n
  · have e1 : xs1[i]? = some (xs1[i]'(by omega)) := List.getElem?_eq_getElem _
    have e2 : xs2[i]? = some (xs2[i]'(by omega)) := List.getElem?_eq_getElem _
    have e3 : xs3[i]? = some (xs3[i]'(by omega)) := List.getElem?_eq_getElem _
    refine .inr ⟨⟨xs1, xs2, xs3, _, _, _, q1, q2, q3, e1, e2, e3⟩, Pv (i + 1), fun σ' H' p' => ⟨n - (i + 1), by omega, rfl, hlt, p'⟩, fun v H' y => ?_⟩
    obtain ⟨T, y1, y2, y3, rfl, hT, rfl, f1, f2, f3⟩ := y
    exact hs i y1 y2 y3 T σ H (f1 xs1 q1) (f2 xs2 q2) (f3 xs3 q3) hT p
  · have e : i = n := by omega
    subst e
    exact .inl ⟨⟨xs1, xs2, xs3, q1, q2, q3, by omega, by omega, by omega, .inl (by omega)⟩, hd σ H p⟩
theorem lc_zip3 {K : PySem.W.Frag} {z1 z2 z3 : ZS} {xs1 xs2 xs3 : List V} {n : Nat} {g : TG} {tt : TT} {te : TE} {vs : List Nat} {σ : L2.St} {H1 : Hp} {D : Addr} {Qd : Hp → Prop} (n1 : xs1.length = n) (n2 : xs2.length = n) (n3 : xs3.length = n) (Pv : Nat → Hp → Prop) (h0 : Pv 0 (upd H1 D (.lst []))) (hl : ∀ i H, i ≤ n → Pv i H → z1.at K H xs1 ∧ z2.at K H xs2 ∧ z3.at K H xs3)
    (hs : ∀ (i : Nat) (x1 x2 x3 : V) (T : Addr) (H : Hp), xs1[i]? = some x1 → xs2[i]? = some x2 → xs3[i]? = some x3 → H T = none → Pv i H → g (.ref T) (wipe σ vs) (upd H T (.tup [x1, x2, x3])) fun σ2 H2 => wipe σ2 vs = wipe σ vs ∧ tt σ2 H2 fun b H3 =>
      if b = true then te σ2 H3 fun y H4 => ∃ acc, H4 D = some (.lst acc) ∧ acc.length < sizeLine ∧ Pv (i + 1) (upd H4 D (.lst (acc ++ [y]))) else Pv (i + 1) H3) (hd : ∀ H, Pv n H → Qd H) :
    ∃ W : Nat → Nat → Hp → Prop, (∃ m, W 0 m (upd H1 D (.lst []))) ∧ ∀ i m H, W i m H →
      ((Itz3 K z1 z2 z3).stop i H ∧ Qd H) ∨ ((Itz3 K z1 z2 z3).go i H ∧ ∃ Nx : Hp → Prop, (∀ H', Nx H' → ∃ m', m' < m ∧ W (i + 1) m' H') ∧ ∀ x H', (Itz3 K z1 z2 z3).yld i H x H' → g x (wipe σ vs) H' fun σ2 H2 => wipe σ2 vs = wipe σ vs ∧ tt σ2 H2 fun b H3 =>
        if b = true then te σ2 H3 fun y H4 => ∃ acc, H4 D = some (.lst acc) ∧ acc.length < sizeLine ∧ Nx (upd H4 D (.lst (acc ++ [y]))) else Nx H3) := by
  refine ⟨fun i m H => m = n - i ∧ i ≤ n ∧ Pv i H, ⟨n, by simp, Nat.zero_le _, h0⟩, ?_⟩
  rintro i m H ⟨rfl, hi, p⟩
  obtain ⟨q1, q2, q3⟩ := hl i H hi p
  by_cases hlt : i < n
  · have e1 : xs1[i]? = some (xs1[i]'(by omega)) := List.getElem?_eq_getElem _
    have e2 : xs2[i]? = some (xs2[i]'(by omega)) := List.getElem?_eq_getElem _
    have e3 : xs3[i]? = some (xs3[i]'(by omega)) := List.getElem?_eq_getElem _
    refine .inr ⟨⟨xs1, xs2, xs3, _, _, _, q1, q2, q3, e1, e2, e3⟩, Pv (i + 1), fun H' p' => ⟨n - (i + 1), by omega, rfl, hlt, p'⟩, fun v H' y => ?_⟩
    obtain ⟨T, y1, y2, y3, rfl, hT, rfl, f1, f2, f3⟩ := y
    exact hs i y1 y2 y3 T H (f1 xs1 q1) (f2 xs2 q2) (f3 xs3 q3) hT p
  · have e : i = n := by omega
    subst e
    exact .inl ⟨⟨xs1, xs2, xs3, q1, q2, q3, by omega, by omega, by omega, .inl (by omega)⟩, hd H p⟩
theorem gx_zip3 {α : Type} {K : PySem.W.Frag} {z1 z2 z3 : ZS} {xs1 xs2 xs3 : List V} {n : Nat} {g : TG} {tt : TT} {te : TE} {vs : List Nat} {σ0 : L2.St} {End : α → Hp → Prop} {Yd : α → V → Hp → (α → Hp → Prop) → Prop} {a0 : α} {H0 : Hp} (n1 : xs1.length = n) (n2 : xs2.length = n) (n3 : xs3.length = n) (Pv : Nat → α → Hp → Prop) (h0 : Pv 0 a0 H0) (hl : ∀ i c H, i ≤ n → Pv i c H → z1.at K H xs1 ∧ z2.at K H xs2 ∧ z3.at K H xs3)
    (hs : ∀ (i : Nat) (x1 x2 x3 : V) (T : Addr) (c : α) (H : Hp), xs1[i]? = some x1 → xs2[i]? = some x2 → xs3[i]? = some x3 → H T = none → Pv i c H → g (.ref T) σ0 (upd H T (.tup [x1, x2, x3])) fun σ2 H2 => wipe σ2 vs = σ0 ∧ tt σ2 H2 fun b H3 => if b = true then te σ2 H3 fun y H4 => Yd c y H4 (Pv (i + 1)) else Pv (i + 1) c H3) (hd : ∀ c H, Pv n c H → End c H) :
    ∃ W : Nat → Nat → α → Hp → Prop, (∃ m, W 0 m a0 H0) ∧ tGx (Itz3 K z1 z2 z3) g tt te σ0 vs End Yd W := by
  refine ⟨fun i m c H => m = n - i ∧ i ≤ n ∧ Pv i c H, ⟨n, rfl, Nat.zero_le _, h0⟩, ?_⟩
  rintro i m c H ⟨rfl, hi, p⟩
  obtain ⟨q1, q2, q3⟩ := hl i c H hi p
  by_cases hlt : i < n
  · have e1 : xs1[i]? = some (xs1[i]'(by omega)) := List.getElem?_eq_getElem _
    have e2 : xs2[i]? = some (xs2[i]'(by omega)) := List.getElem?_eq_getElem _
    have e3 : xs3[i]? = some (xs3[i]'(by omega)) := List.getElem?_eq_getElem _
    refine .inr ⟨⟨xs1, xs2, xs3, _, _, _, q1, q2, q3, e1, e2, e3⟩, Pv (i + 1), fun c' H' p' => ⟨n - (i + 1), by omega, rfl, hlt, p'⟩, fun v H' y => ?_⟩
    obtain ⟨T, y1, y2, y3, rfl, hT, rfl, f1, f2, f3⟩ := y
    exact hs i y1 y2 y3 T c H (f1 xs1 q1) (f2 xs2 q2) (f3 xs3 q3) hT p
  · have e : i = n := by omega
    subst e
    exact .inl ⟨⟨xs1, xs2, xs3, q1, q2, q3, by omega, by omega, by omega, .inl (by omega)⟩, hd c H p⟩
end ZpG

/-! ### all but some tables stays -/
def GrT (Ps : List Addr) (H H' : Hp) : Prop := (∀ b o, b ∉ Ps → H b = some o → H' b = some o) ∧ ∀ P ∈ Ps, GxR.TabG H P → GxR.TabG H' P
theorem GrT.of {Ps : List Addr} {H H' : Hp} (s : Same H H') : GrT Ps H H' := ⟨fun b o _ e => s b o e, fun P _ ⟨ps, e, t⟩ => ⟨ps, s _ _ e, t⟩⟩
theorem GrT.refl {Ps : List Addr} {H : Hp} : GrT Ps H H := GrT.of (Same.refl H)
theorem GrT.trans {Ps : List Addr} {H H1 H2 : Hp} (a : GrT Ps H H1) (b : GrT Ps H1 H2) : GrT Ps H H2 := ⟨fun c o n e => b.1 c o n (a.1 c o n e), fun P h t => b.2 P h (a.2 P h t)⟩
theorem GrT.then {Ps : List Addr} {H H1 H2 : Hp} (a : GrT Ps H H1) (b : Same H1 H2) : GrT Ps H H2 := a.trans (GrT.of b)
theorem GrT.tab {Ps : List Addr} {P : Addr} {H H' : Hp} (m : P ∈ Ps) (h : GxR.Tabbed P H H') : GrT Ps H H' := by
  refine ⟨fun b o n e => ?_, fun Q _ t => ?_⟩
  · rw [h.2 b (fun z => n (by rw [z]; exact m))]
    exact e
  · by_cases z : Q = P
    · rw [z]; exact h.1
    · obtain ⟨ps, e, t⟩ := t
      exact ⟨ps, by rw [h.2 Q z]; exact e, t⟩
theorem GrT.tabs {Ps : List Addr} {H H' : Hp} (g : GrT Ps H H') (t : Tabs H Ps) : Tabs H' Ps := fun P h => g.2 P h (t P h)
theorem Tabs.off {Ps : List Addr} {H : Hp} {b : Addr} {o : HO} (t : Tabs H Ps) (n : ∀ ps, o ≠ HO.tbl ps) (e : H b = some o) : b ∉ Ps := fun m => by
  obtain ⟨ps, e', _⟩ := t b m
  rw [e] at e'
  exact n ps (Option.some.inj e')
theorem GrT.tup {Ps : List Addr} {H H' : Hp} (g : GrT Ps H H') (t : Tabs H Ps) {a : Addr} {xs : List V} (h : H a = some (.tup xs)) : H' a = some (.tup xs) := g.1 a _ (t.off (fun _ z => by cases z) h) h
theorem GrT.lst {Ps : List Addr} {H H' : Hp} (g : GrT Ps H H') (t : Tabs H Ps) {a : Addr} {xs : List V} (h : H a = some (.lst xs)) : H' a = some (.lst xs) := g.1 a _ (t.off (fun _ z => by cases z) h) h
theorem GrT.gr {Ps : List Addr} {H H' : Hp} (g : GrT Ps H H') (t : Tabs H Ps) : Gr H H' := by
  refine ⟨fun b o n e => g.1 b o (t.off n e) e, fun b q => ?_⟩
  by_cases m : b ∈ Ps
  · exact g.2 b m q
  · obtain ⟨ps, e, q⟩ := q
    exact ⟨ps, g.1 b _ m e, q⟩
theorem GrT.hid {Ps : List Addr} {D : Addr} {H H' : Hp} (g : GrT Ps H H') : GrT Ps (hd1 D H) (hd1 D H') := by
  refine ⟨fun b o n e => ?_, fun P m ⟨ps, e, t⟩ => ?_⟩
  · have z : b ≠ D := fun z => by unfold Gk.hd1 at e; rw [if_pos z] at e; cases e
    rw [hd1_at z] at e ⊢
    exact g.1 b o n e
  · have z : P ≠ D := fun z => by unfold Gk.hd1 at e; rw [if_pos z] at e; cases e
    rw [hd1_at z] at e
    obtain ⟨ps', e', t'⟩ := g.2 P m ⟨ps, e, t⟩
    exact ⟨ps', by rw [hd1_at z]; exact e', t'⟩
theorem GrT.le {Ps : List Addr} {D : Addr} {H H' : Hp} (g : GrT Ps H (hd1 D H')) : GrT Ps H H' := g.then hd1_le
theorem Tabs.hd {Ps : List Addr} {D : Addr} {H : Hp} {xs : List V} (t : Tabs H Ps) (h : H D = some (.lst xs)) : Tabs (hd1 D H) Ps := fun P m => TabG_hd1 (t P m) fun z => t.off (fun _ z => by cases z) h (by rw [z]; exact m)
theorem Tabs.same {Ps : List Addr} {H H' : Hp} (t : Tabs H Ps) (s : Same H H') : Tabs H' Ps := (GrT.of s).tabs t

/-- a def that raises (the plain layer), its code object known -/
theorem okL {P : Program} {w : World} {K : PySem.W.Frag} {mg : Str → Option Value} {base : Heap} {x qual : Str} {st : Stmt} {f : Addr} {fd : FuncData} {N ps : List Str} {k : Nat} {sp : Sp} (F : Fun K x qual st f fd) (S : FnScope N ps (defScope st)) (len : ∀ vs H Q E, sp vs H Q E → vs.length = ps.length)
    (walk : ∀ (A : Around) (outer : List Env) (s : Shared) (H : Hp) (vs : List V) (Q : VK) (E : XK), Room k (A.deeper (envOfC qual (defScope st) s.heap.objs.size f fd.code)) → sp vs H Q E →
      ∃ t, PSs (cxOf (L2.CX P w) P w K mg base N qual (defScope st) f fd.code A outer s H E) (defBody st) t ∧ t { nx := fun _ H' => Q .non H', rt := Q } (start N vs) H) : FnOk P w K mg base (L2.CX P w) (k + 1) f fd ps sp := by
  obtain ⟨oc, od, kV, doc, pm, an, cdv, ct, osl, rfl, lk, hcd⟩ := F.ex
  exact fn_of lk hcd S len walk

/-! ### what a row settles -/
def pickI (ws : List Int) (ins : List Nat) : List Int := ins.map fun i => ws.getD i 0
def stepS (ws : List Int) (g : Gt) : List Int := ws ++ [gateM g.1 (pickI ws g.2)]
def settledM (gs : List Gt) (r : List Int) : List Int := gs.foldl stepS r
theorem settledM_take {gs : List Gt} {k : Nat} {g : Gt} (h : gs[k]? = some g) (r : List Int) : settledM (gs.take (k + 1)) r = stepS (settledM (gs.take k) r) g := by
  rw [List.take_add_one, h]
  unfold settledM
  show ((gs.take k) ++ [g]).foldl stepS r = _
  rw [List.foldl_append]
  rfl
theorem settledM_len (gs : List Gt) (r : List Int) : (settledM gs r).length = r.length + gs.length := by
  induction gs generalizing r with
  | nil => rfl
  | cons g t ih =>
    show (settledM t (stepS r g)).length = _
    rw [ih]
    unfold stepS
    rw [List.length_append, List.length_cons, List.length_cons, List.length_nil]
    omega
theorem Row01.snoc {r : List Int} {v : Int} (h : Row01 r) (hv : v = 0 ∨ v = 1) : Row01 (r ++ [v]) := fun x hx => by
  rcases List.mem_append.mp hx with z | z
  · exact h x z
  · rw [List.mem_singleton.mp z]; exact hv
theorem settledM_01 (gs : List Gt) (r : List Int) (h : Row01 r) : Row01 (settledM gs r) := by
  induction gs generalizing r with
  | nil => exact h
  | cons g t ih => exact ih (stepS r g) (h.snoc (gate01 _ _))
theorem getD_01 {r : List Int} (h : Row01 r) (i : Nat) : r.getD i 0 = 0 ∨ r.getD i 0 = 1 := by
  rw [List.getD_eq_getElem?_getD]
  cases e : r[i]? with
  | none => exact .inl rfl
  | some x => exact h x (List.mem_of_getElem? e)
theorem pick_01 {r : List Int} (h : Row01 r) (ins : List Nat) : ∀ x ∈ pickI r ins, x = 0 ∨ x = 1 := fun x hx => by
  obtain ⟨i, _, rfl⟩ := List.mem_map.mp hx
  exact getD_01 h i

section
variable {P : Program} {w : World} {K : PySem.W.Frag} {mg : Str → Option Value} {base : Heap}
def sp_settled (K : PySem.W.Frag) : Sp := fun vs H Q _ => ∃ (nv rv : V) (m : Int) (gs : List Gt) (a : List Int), vs = [nv, rv] ∧ Tk H nv (netD m gs) ∧ Tk H rv (rowD a) ∧ Row01 a ∧ a.length ≤ 16 ∧ gs.length ≤ 1000 ∧ NetOk a.length gs ∧ ∀ r H', Same H H' → Tk H' (.ref r) (rowD (settledM gs a)) → Q (.ref r) H'
theorem ok_settled (T : Tx K mg) : FnOk P w K mg base CX0 2 T.f_settled T.fd_settled ["net", "row"] (sp_settled K) := by
  refine T.F_settled.ok sc_settled (fun vs H Q E h => ?_) (fun cdv A outer s H vs Q E hr h => ?_)
  · obtain ⟨nv, rv, m, gs, a, rfl, _⟩ := h
    rfl
  · obtain ⟨nv, rv, m, gs, a, rfl, tn, tr, ha, h16, h64, ok, q⟩ := h
    refine ⟨_, (pss_cons (ps_set (i := 2) sc_settled.nd rfl (by first | exact .inl rfl | exact .inr rfl) (pe_callTy call_list_of (by rfl) T.m_list (by decide +kernel) (pa_cons (pv 1) pa_nil))) (pss_cons (ps_for PassesOwn.never rfl (pi_tup (pe_ix ix_tup (pv 0) pe_int (fun _ _ => rfl))) (pg_tup rfl (pgs_cons (pg_name (i := 3) sc_settled.nd rfl (by first | exact .inl rfl | exact .inr rfl)) (pgs_cons (pg_name (i := 4) sc_settled.nd rfl (by first | exact .inl rfl | exact .inr rfl)) pgs_nil))) (pss_one (ps_expr (pe_bm PySem.F.plainAttrs_list PySem.F.slot_list_append PySem.F.type_list_append mt_append (pv 2) (pa_cons (pe_call (ok_table_worth T) (hr.mono (by decide)) (by rfl) T.g_table_worth T.F_table_worth.kp T.b_table_worth .nil pass0 (pa_cons (pv 3) (pa_cons (pe_lc (own := [("wire", 5)]) (by rfl) sc_settled.nd (pi_tup (pv 4)) (blkOk_by (own := [("wire", 5)]) (N := ["net", "row", "worths", "table", "ins", "wire"]) (sc := defScope s_settled) (by decide +kernel)) (fun _ _ _ _ _ => (pg_name (i := 5) sc_settled.nd rfl (by first | exact .inl rfl | exact .inr rfl))) (fun _ _ _ _ _ => pts_nil) (fun _ _ _ _ _ => (pe_ix (show IxR _ (rIxL K) from ix_list) (pv 2) (pv 5) (fun _ _ => rfl)))) pa_nil))) pa_nil))))) (pss_one (ps_ret (pe_callTy call_tuple_of (by rfl) T.m_tuple (by decide +kernel) (pa_cons (pv 2) pa_nil)))))), ?_⟩
    obtain ⟨n, g, xs, rfl, hn, hg, tg⟩ := tn.net_inv
    obtain ⟨ra, rfl, hra⟩ := tr.row_inv
    have xl : xs.length = gs.length := by rw [tg.length, List.length_map]
    refine ⟨.ref ra, rfl, ra, _, rfl, .inr (SqT.of hra), fun L nL => ?_⟩
    have s1 := same_upd (o := HO.lst (a.map V.int)) nL
    refine ⟨.ref n, rfl, n, _, 1, .ref g, rfl, rfl, SqT.of (s1 _ _ hn), rfl, g, rfl, ⟨_, SqT.of (s1 _ _ hg)⟩, ?_⟩
    refine for_tup (K := K) (a := g) (xs := xs) (fun i σ H' => ∃ y3 y4, σ = [some (.ref n), some (.ref ra), some (.ref L), y3, y4, none] ∧ Same H (hd1 L H') ∧ H' L = some (.lst ((settledM (gs.take i) a).map V.int)))
      ⟨_, _, rfl, hd1_of s1 nL, upd_same⟩ (fun i σ H' _ ⟨_, _, _, hP, _⟩ => SqT.of (hd1_le _ _ (hP _ _ hg))) ?_ ?_
    · rintro i v σ H2 hv ⟨y3, y4, rfl, s2, hL⟩
      have s02 : Same H H2 := fun b o e => hd1_le _ _ (s2 _ _ e)
      obtain ⟨gt, hgt, tgt⟩ := tg.at hv
      obtain ⟨ga, ii, rfl, hga, hii⟩ := (tgt.same s02).gt_inv
      obtain ⟨ok1, ok2, ok3, ok4⟩ := ok i gt hgt
      have hil := (List.getElem?_eq_some_iff.mp hgt).1
      have sl : (settledM (gs.take i) a).length = a.length + i := by
        rw [settledM_len, List.length_take]
        omega
      have s01 := settledM_01 (gs.take i) a ha
      refine ⟨ga, _, rfl, SqT.of hga, rfl, _, _, rfl, _, _, rfl, rfl, ?_⟩
      refine ⟨.ref L, rfl, .inl ⟨rfl, _, SqL.of hL⟩, .str (tabOf gt.1), rfl, .ref ii, rfl, ii, rfl, ⟨_, SqT.of hii⟩, fun M nM => ?_⟩
      refine lc_tup (K := K) (a := ii) (xs := (gt.2.map Int.ofNat).map V.int) (fun j H' => Same H2 (hd1 M H') ∧ H' M = some (.lst ((pickI (settledM (gs.take i) a) (gt.2.take j)).map V.int))) ⟨hd1_of (same_upd nM) nM, upd_same⟩ (fun j H' _ hP => SqT.of (hd1_le _ _ (hP.1 _ _ hii))) ?_ ?_
      · rintro j x H3 hx ⟨s3, hM⟩
        rw [List.getElem?_map, List.getElem?_map] at hx
        cases hj : gt.2[j]? with
        | none => rw [hj] at hx; cases hx
        | some k =>
          rw [hj] at hx
          cases Option.some.inj hx
          have hk := ok4 k (List.mem_of_getElem? hj)
          have hjl := (List.getElem?_eq_some_iff.mp hj).1
          have hat : ((settledM (gs.take i) a).map V.int)[k]? = some (.int ((settledM (gs.take i) a).getD k 0)) := by
            rw [List.getElem?_map, List.getD_eq_getElem?_getD, List.getElem?_eq_getElem (by omega)]
            rfl
          refine ⟨rfl, .ref L, rfl, .int (Int.ofNat k), rfl, L, _, Int.ofNat k, _, rfl, rfl, SqL.of (hd1_le _ _ (s3 _ _ hL)), atI_nat hat, _, hM, ?_, s3.trans hd1_upd, ?_⟩
          · unfold pickI
            rw [List.length_map, List.length_map, List.length_take]
            exact Nat.lt_of_lt_of_le (show _ < 8 by omega) (by decide)
          · rw [upd_same, List.take_add_one, hj]
            unfold pickI
            rw [List.map_append, List.map_append]
            rfl
      · rintro H3 ⟨s3, hM⟩
        rw [List.length_map, List.length_map, List.take_length] at hM
        have s23 : Same H2 H3 := fun b o e => hd1_le _ _ (s3 _ _ e)
        have pl : (pickI (settledM (gs.take i) a) gt.2).length = gt.2.length := by unfold pickI; rw [List.length_map]
        refine ⟨gt.1, M, _, rfl, SqL.of hM, pick_01 s01 _, by rw [pl]; exact ok1, by rw [pl]; exact ok3, ?_⟩
        refine ⟨L, _, _, rfl, rfl, s23 _ _ hL, ?_, ?_⟩
        · rw [List.length_map, sl]
          exact Nat.lt_of_lt_of_le (show _ < 2000 by omega) (by decide)
        · refine ⟨_, _, rfl, s2.trans ((hd1_same s23).trans hd1_upd), ?_⟩
          rw [upd_same, settledM_take hgt]
          unfold stepS
          rw [List.map_append]
          rfl
    · rintro σ H2 ⟨y3, y4, rfl, s2, hL⟩
      rw [xl, List.take_length] at hL
      refine ⟨.ref L, rfl, L, _, rfl, .inl ⟨SqL.of hL, fun t nt => ?_⟩⟩
      exact q t _ (Same.trans (fun b o e => hd1_le _ _ (s2 _ _ e)) (same_upd nt)) (.tup upd_same (TkAll.ints _))

/-! ### numbers of nets -/
def pickN (ns : List Nat) (ins : List Nat) : List Nat := ins.map fun i => ns.getD i 0
def numG (fs : List Int) (ns : List Nat) (g : Gt) : Int := gr g.1 (pickI fs g.2) (pickN ns g.2) (zeros (pickN ns g.2))
def partG (fs : List Int) (ns : List Nat) (g : Gt) : List Int := (every (pickN ns g.2)).map (gr g.1 (pickI fs g.2) (pickN ns g.2))
def stepN (fs : List Int) (ns : List Nat) (g : Gt) : List Nat := ns ++ [(numG fs ns g).toNat]
def numsM (fs : List Int) (gs : List Gt) (ns : List Nat) : List Nat := gs.foldl (stepN fs) ns
def partsM (fs : List Int) : List Gt → List Nat → List (List Int)
  | [], _ => []
  | g :: r, ns => partG fs ns g :: partsM fs r (stepN fs ns g)
theorem numsM_take {fs : List Int} {gs : List Gt} {k : Nat} {g : Gt} (h : gs[k]? = some g) (ns : List Nat) : numsM fs (gs.take (k + 1)) ns = stepN fs (numsM fs (gs.take k) ns) g := by
  rw [List.take_add_one, h]
  unfold numsM
  show ((gs.take k) ++ [g]).foldl (stepN fs) ns = _
  rw [List.foldl_append]
  rfl
theorem numsM_len (fs : List Int) (gs : List Gt) (ns : List Nat) : (numsM fs gs ns).length = ns.length + gs.length := by
  induction gs generalizing ns with
  | nil => rfl
  | cons g r ih =>
    show (numsM fs r (stepN fs ns g)).length = _
    rw [ih]
    unfold stepN
    rw [List.length_append, List.length_cons]
    show ns.length + 1 + r.length = ns.length + (r.length + 1)
    omega
theorem partsM_snoc (fs : List Int) (gs : List Gt) (g : Gt) (ns : List Nat) : partsM fs (gs ++ [g]) ns = partsM fs gs ns ++ [partG fs (numsM fs gs ns) g] := by
  induction gs generalizing ns with
  | nil => rfl
  | cons x r ih =>
    show partG fs ns x :: partsM fs (r ++ [g]) (stepN fs ns x) = partG fs ns x :: _ ++ _
    rw [ih]
    rfl
theorem partsM_take {fs : List Int} {gs : List Gt} {k : Nat} {g : Gt} (h : gs[k]? = some g) (ns : List Nat) : partsM fs (gs.take (k + 1)) ns = partsM fs (gs.take k) ns ++ [partG fs (numsM fs (gs.take k) ns) g] := by
  rw [List.take_add_one, h]
  exact partsM_snoc _ _ _ _
theorem partsM_len (fs : List Int) (gs : List Gt) (ns : List Nat) : (partsM fs gs ns).length = gs.length := by
  induction gs generalizing ns with
  | nil => rfl
  | cons x r ih => show (partsM fs r _).length + 1 = r.length + 1; rw [ih]
theorem numsM_pre (fs : List Int) (gs : List Gt) (k : Nat) (ns : List Nat) : ∀ x ∈ numsM fs (gs.take k) ns, x ∈ numsM fs gs ns := by
  have key : ∀ (r : List Gt) (l : List Nat), ∀ x ∈ l, x ∈ r.foldl (stepN fs) l := by
    intro r
    induction r with
    | nil => exact fun l x h => h
    | cons g r ih => exact fun l x h => ih _ x (List.mem_append_left _ h)
  intro x hx
  have e : numsM fs gs ns = (gs.drop k).foldl (stepN fs) (numsM fs (gs.take k) ns) := by
    unfold numsM
    rw [← List.foldl_append, List.take_append_drop]
  rw [e]
  exact key _ _ x hx
theorem part_nums {fs : List Int} {gs : List Gt} {ns : List Nat} {i : Nat} {p : List Int} (h : (partsM fs gs ns)[i]? = some p) : ∃ g, gs[i]? = some g ∧ p = partG fs (numsM fs (gs.take i) ns) g ∧ (numsM fs gs ns)[ns.length + i]? = some (numG fs (numsM fs (gs.take i) ns) g).toNat := by
  induction gs generalizing ns i with
  | nil => simp [partsM] at h
  | cons x r ih =>
    cases i with
    | zero =>
      refine ⟨x, rfl, (Option.some.inj h).symm, ?_⟩
      have key : ∀ (r : List Gt) (l : List Nat) (j : Nat), j < l.length → (r.foldl (stepN fs) l)[j]? = l[j]? := by
        intro r
        induction r with
        | nil => intro l j _; rfl
        | cons g r ih2 =>
          intro l j hj
          show (r.foldl (stepN fs) (stepN fs l g))[j]? = _
          rw [ih2 _ _ (by unfold stepN; rw [List.length_append]; omega)]
          unfold stepN
          rw [List.getElem?_append_left hj]
      show (r.foldl (stepN fs) (stepN fs ns x))[ns.length + 0]? = _
      rw [key _ _ _ (by unfold stepN; rw [List.length_append]; show ns.length + 0 < ns.length + 1; omega)]
      unfold stepN
      rw [List.getElem?_append_right (by omega)]
      show [_][ns.length + 0 - ns.length]? = _
      rw [show ns.length + 0 - ns.length = 0 by omega]
      rfl
    | succ i =>
      obtain ⟨g, h1, h2, h3⟩ := ih (ns := stepN fs ns x) (i := i) h
      refine ⟨g, h1, h2, ?_⟩
      have e : (stepN fs ns x).length = ns.length + 1 := by unfold stepN; rw [List.length_append]; rfl
      rw [e, show ns.length + 1 + i = ns.length + (i + 1) by omega] at h3
      exact h3
def xrN (x y : Int) : Nat := if x = y then 0 else 1
def inN (a b : List Int) : List Nat := List.zipWith xrN a b
theorem inN_len {a b : List Int} (h : a.length = b.length) : (inN a b).length = a.length := by unfold inN; rw [List.length_zipWith, h, Nat.min_self]
theorem xrN_xor {x y : Int} (hx : x = 0 ∨ x = 1) (hy : y = 0 ∨ y = 1) : Builtin.bitXor x y = Int.ofNat (xrN x y) := by
  rcases hx with rfl | rfl <;> rcases hy with rfl | rfl <;> decide +kernel
theorem inN_le (a b : List Int) : ∀ x ∈ inN a b, x ≤ 1 := by
  intro x hx
  unfold inN at hx
  obtain ⟨i, hi⟩ := List.getElem?_of_mem hx
  rw [List.getElem?_zipWith] at hi
  cases ha : a[i]? with
  | none => rw [ha] at hi; cases hi
  | some p =>
    cases hb : b[i]? with
    | none => rw [ha, hb] at hi; cases hi
    | some q =>
      rw [ha, hb] at hi
      cases Option.some.inj hi
      unfold xrN
      split <;> omega
theorem Tk.ts0 {H H' : Hp} {v : V} {r : List Int} (h : Tk H v (rowD r)) (s : ∀ b xs, H b = some (HO.tup xs) → H' b = some (.tup xs)) : Tk H' v (rowD r) := by
  obtain ⟨a, rfl, ha⟩ := h.row_inv
  exact .tup (s _ _ ha) (TkAll.ints _)
theorem vints_at {ws : List Int} {i : Nat} {v : V} (h : (ws.map V.int)[i]? = some v) : ∃ u, ws[i]? = some u ∧ v = .int u := by
  rw [List.getElem?_map] at h
  cases hz : ws[i]? with
  | none => rw [hz] at h; cases h
  | some u => rw [hz] at h; exact ⟨u, rfl, (Option.some.inj h).symm⟩
def Tx.pt (T : Tx K mg) : List Addr := [T.P_greatest, T.P_input_numbers, T.P_at_wires]
theorem pt_in (T : Tx K mg) : T.P_input_numbers ∈ T.pt := by unfold Tx.pt; simp
theorem pt_at (T : Tx K mg) : T.P_at_wires ∈ T.pt := by unfold Tx.pt; simp
def sp_input_numbers (K : PySem.W.Frag) (Ps : List Addr) : Sp := fun vs H Q _ => ∃ (cv : V) (a b : List Int), vs = [cv] ∧ Tk H cv (chD a b) ∧ a.length = b.length ∧ Row01 a ∧ Row01 b ∧ a.length ≤ 16 ∧ Tabs H Ps ∧ ∀ r H', GrT Ps H H' → H' r = some (.tup (natV (inN a b))) → Q (.ref r) H'
theorem ok_input_numbers (T : Tx K mg) (B : Tb base T) : FnOk P w K mg base CX0 2 T.f_input_numbers T.fd_input_numbers ["change"] (sp_input_numbers K T.pt) := by
  refine okC T.F_input_numbers sc_input_numbers (fun vs H Q E h => ?_) (fun A outer s H vs Q E hr h => ?_)
  · obtain ⟨cv, a, b, rfl, _⟩ := h
    rfl
  · obtain ⟨cv, a, b, rfl, tc, el, a01, b01, a16, tabs, q⟩ := h
    refine ⟨_, (pss_cons (ps_asg (pv 0) (pg_tup rfl (pgs_cons (pg_name (i := 1) sc_input_numbers.nd rfl (by first | exact .inl rfl | exact .inr rfl)) (pgs_cons (pg_name (i := 2) sc_input_numbers.nd rfl (by first | exact .inl rfl | exact .inr rfl)) pgs_nil)))) (pss_one (ps_ret (pe_tupX (own := [("before", 3), ("after", 4)]) (k := 0) (hr.mono (by decide)) rfl sc_input_numbers.nd (by rfl) T.m_tuple (by decide +kernel) B.TB_input_numbers T.cd_input_numbers rfl rfl (by decide +kernel) (blkOk_by (own := [("before", 3), ("after", 4)]) (N := ["change", "a", "b", "before", "after"]) (sc := defScope s_input_numbers) (by decide +kernel)) (ZpG.pi_zip2 (by rfl) T.m_zip (pa_cons (pv 1) (pa_cons (pv 2) pa_nil))) (fun _ _ _ _ _ _ _ hr gd => (show PG _ _ (gTup K 2 _) from pg_tup rfl (pgs_cons (pg_name (i := 3) sc_input_numbers.nd rfl (by first | exact .inl rfl | exact .inr rfl)) (pgs_cons (pg_name (i := 4) sc_input_numbers.nd rfl (by first | exact .inl rfl | exact .inr rfl)) pgs_nil)))) (fun _ _ _ _ _ _ _ hr gd => pts_nil) (fun _ _ _ _ _ _ _ hr gd => (pe_op op_xor (pv 3) (pv 4))) (fun _ => rfl))))), ?_⟩
    obtain ⟨c, ra, rb, rfl, hc, hra, hrb⟩ := tc.ch_inv
    have sl : (16777216 : Nat) = sizeLine := by decide
    refine ⟨.ref c, rfl, c, _, rfl, SqT.of hc, rfl, _, _, rfl, _, _, rfl, rfl, ?_⟩
    refine ⟨.ref ra, rfl, .ref rb, rfl, .tu ra, .tu rb, _, _, rfl, SqT.of hra, SqT.of hrb, tabs _ (pt_in T), fun H2 tb2 => ?_⟩
    have g2 := GrT.tab (pt_in T) tb2
    have hra2 := g2.tup tabs hra
    have hrb2 := g2.tup tabs hrb
    refine ZpG.gx_zip2 (K := K) (z1 := .tu ra) (z2 := .tu rb) (xs1 := a.map V.int) (xs2 := b.map V.int) (n := a.length) (by rw [List.length_map]) (by rw [List.length_map]; exact el.symm)
      (fun i ys H' => Same H2 H' ∧ ys = natV ((inN a b).take i)) ⟨Same.refl _, rfl⟩ (fun i ys H' _ hP => ⟨SqT.of (hP.1 _ _ hra2), SqT.of (hP.1 _ _ hrb2)⟩) ?_ ?_
    · rintro i x y Tq ys H3 hx hy nT ⟨s3, rfl⟩
      obtain ⟨p, hp, rfl⟩ := vints_at hx
      obtain ⟨u, hu, rfl⟩ := vints_at hy
      have hn : (inN a b)[i]? = some (xrN p u) := by
        unfold inN
        rw [List.getElem?_zipWith, hp, hu]
      refine ⟨Tq, _, rfl, SqT.of upd_same, rfl, _, _, rfl, _, _, rfl, rfl, rfl, ?_⟩
      refine ⟨.int p, rfl, .int u, rfl, _, _, rfl, rfl, ?_, s3.trans (same_upd nT), ?_⟩
      · rw [natV_len, List.length_take, inN_len el]
        omega
      · dsimp only
        rw [xrN_xor (a01 p (List.mem_of_getElem? hp)) (b01 u (List.mem_of_getElem? hu)), List.take_add_one, hn]
        unfold natV
        show _ ++ [_] = ((_ ++ [_]).map Int.ofNat).map V.int
        rw [List.map_append, List.map_append]
        rfl
    · rintro ys H3 ⟨s3, rfl⟩
      rw [List.take_of_length_le (by rw [inN_len el]; exact Nat.le_refl _)]
      refine ⟨by rw [natV_len, inN_len el]; omega, fun p np => ?_⟩
      exact q p _ ((g2.then s3).then (same_upd np)) upd_same
theorem pickI_len (ws : List Int) (ins : List Nat) : (pickI ws ins).length = ins.length := by unfold pickI; rw [List.length_map]
theorem pickN_len (ws : List Nat) (ins : List Nat) : (pickN ws ins).length = ins.length := by unfold pickN; rw [List.length_map]
def sp_at_wiresT (K : PySem.W.Frag) (Ps : List Addr) : Sp := fun vs H Q _ => ∃ (ra ia : Addr) (ws : List Int) (ins : List Nat), vs = [.ref ra, .ref ia] ∧ H ra = some (.tup (ws.map V.int)) ∧ H ia = some (.tup (natV ins)) ∧ (∀ i ∈ ins, i < ws.length) ∧ ins.length ≤ 3 ∧ Tabs H Ps ∧ ∀ r H', GrT Ps H H' → H' r = some (.tup ((pickI ws ins).map V.int)) → Q (.ref r) H'
theorem ok_at_wiresT (T : Tx K mg) (B : Tb base T) : FnOk P w K mg base CX0 2 T.f_at_wires T.fd_at_wires ["row", "wires"] (sp_at_wiresT K T.pt) := by
  refine okC T.F_at_wires sc_at_wires (fun vs H Q E h => ?_) (fun A outer s H vs Q E hr h => ?_)
  · obtain ⟨ra, ia, ws, ins, rfl, _⟩ := h
    rfl
  · obtain ⟨ra, ia, ws, ins, rfl, hra, hia, lt, l3, tabs, q⟩ := h
    refine ⟨_, (pss_one (ps_ret (pe_tupX (own := [("wire", 2)]) (k := 0) (hr.mono (by decide)) rfl sc_at_wires.nd (by rfl) T.m_tuple (by decide +kernel) B.TB_at_wires T.cd_at_wires rfl rfl (by decide +kernel) (blkOk_by (own := [("wire", 2)]) (N := ["row", "wires", "wire"]) (sc := defScope s_at_wires) (by decide +kernel)) (pi_tup (pv 1)) (fun _ _ _ _ _ _ _ hr gd => (pg_name (i := 2) sc_at_wires.nd rfl (by first | exact .inl rfl | exact .inr rfl))) (fun _ _ _ _ _ _ _ hr gd => pts_nil) (fun _ _ _ _ _ _ _ hr gd => (pe_ix (show IxR _ (rIxT K) from ix_tup) (pv 0) (pv 2) (fun _ _ => rfl))) (fun _ => rfl)))), ?_⟩
    have sl : (16777216 : Nat) = sizeLine := by decide
    refine ⟨.ref ia, rfl, ia, rfl, ⟨_, SqT.of hia⟩, tabs _ (pt_at T), fun H2 tb2 => ?_⟩
    have g2 := GrT.tab (pt_at T) tb2
    have hra2 := g2.tup tabs hra
    have hia2 := g2.tup tabs hia
    refine gx_tup (K := K) (a := ia) (xs := natV ins) (fun i ys H' => H' = H2 ∧ ys = (pickI ws (ins.take i)).map V.int) ⟨rfl, rfl⟩ (fun i ys H' _ hP => by rw [hP.1]; exact SqT.of hia2) ?_ ?_
    · rintro i x ys H3 hx ⟨rfl, rfl⟩
      obtain ⟨n, hn, rfl⟩ := natV_inv hx
      have hl := lt n (List.mem_of_getElem? hn)
      have hil := (List.getElem?_eq_some_iff.mp hn).1
      have hw : (ws.map V.int)[n]? = some (.int (ws.getD n 0)) := by rw [List.getElem?_map, List.getD_eq_getElem?_getD, List.getElem?_eq_getElem hl]; rfl
      refine ⟨rfl, .ref ra, rfl, .int (Int.ofNat n), rfl, ra, _, (n : Int), _, rfl, rfl, SqT.of hra2, atI_nat hw, ?_, rfl, ?_⟩
      · rw [List.length_map, pickI_len, List.length_take]
        omega
      · rw [List.take_add_one, hn]
        unfold pickI
        show _ ++ [_] = ((_ ++ [n]).map _).map V.int
        rw [List.map_append, List.map_append]
        rfl
    · rintro ys H3 ⟨rfl, rfl⟩
      rw [natV_len, List.take_length]
      refine ⟨by rw [List.length_map, pickI_len]; omega, fun p np => ?_⟩
      exact q p _ (g2.then (same_upd np)) upd_same

end
end Gk

set_option Elab.async false
set_option linter.all false
set_option maxRecDepth 100000
set_option maxHeartbeats 1000000
set_option pp.maxSteps 1500
set_option pp.deepTerms false
namespace Gk
open PySem PySem.Spec PyProof.Rows L2
section
variable {P : Program} {w : World} {K : PySem.W.Frag} {mg : Str → Option Value} {base : Heap}
def sp_at_wiresL (K : PySem.W.Frag) (Ps : List Addr) : Sp := fun vs H Q _ => ∃ (ra ia : Addr) (ws ins : List Nat), vs = [.ref ra, .ref ia] ∧ H ra = some (.lst (natV ws)) ∧ H ia = some (.tup (natV ins)) ∧ (∀ i ∈ ins, i < ws.length) ∧ ins.length ≤ 3 ∧ Tabs H Ps ∧ ∀ r H', GrT Ps H H' → H' r = some (.tup (natV (pickN ws ins))) → Q (.ref r) H'
theorem ok_at_wiresL (T : Tx K mg) (B : Tb base T) : FnOk P w K mg base CX0 2 T.f_at_wires T.fd_at_wires ["row", "wires"] (sp_at_wiresL K T.pt) := by
  refine okC T.F_at_wires sc_at_wires (fun vs H Q E h => ?_) (fun A outer s H vs Q E hr h => ?_)
  · obtain ⟨ra, ia, ws, ins, rfl, _⟩ := h
    rfl
  · obtain ⟨ra, ia, ws, ins, rfl, hra, hia, lt, l3, tabs, q⟩ := h
    refine ⟨_, (pss_one (ps_ret (pe_tupX (own := [("wire", 2)]) (k := 0) (hr.mono (by decide)) rfl sc_at_wires.nd (by rfl) T.m_tuple (by decide +kernel) B.TB_at_wires T.cd_at_wires rfl rfl (by decide +kernel) (blkOk_by (own := [("wire", 2)]) (N := ["row", "wires", "wire"]) (sc := defScope s_at_wires) (by decide +kernel)) (pi_tup (pv 1)) (fun _ _ _ _ _ _ _ hr gd => (pg_name (i := 2) sc_at_wires.nd rfl (by first | exact .inl rfl | exact .inr rfl))) (fun _ _ _ _ _ _ _ hr gd => pts_nil) (fun _ _ _ _ _ _ _ hr gd => (pe_ix (show IxR _ (rIxL K) from ix_list) (pv 0) (pv 2) (fun _ _ => rfl))) (fun _ => rfl)))), ?_⟩
    have sl : (16777216 : Nat) = sizeLine := by decide
    refine ⟨.ref ia, rfl, ia, rfl, ⟨_, SqT.of hia⟩, tabs _ (pt_at T), fun H2 tb2 => ?_⟩
    have g2 := GrT.tab (pt_at T) tb2
    have hra2 := g2.lst tabs hra
    have hia2 := g2.tup tabs hia
    refine gx_tup (K := K) (a := ia) (xs := natV ins) (fun i ys H' => H' = H2 ∧ ys = natV (pickN ws (ins.take i))) ⟨rfl, rfl⟩ (fun i ys H' _ hP => by rw [hP.1]; exact SqT.of hia2) ?_ ?_
    · rintro i x ys H3 hx ⟨rfl, rfl⟩
      obtain ⟨n, hn, rfl⟩ := natV_inv hx
      have hl := lt n (List.mem_of_getElem? hn)
      have hil := (List.getElem?_eq_some_iff.mp hn).1
      have hw : (natV ws)[n]? = some (.int (Int.ofNat (ws.getD n 0))) := natV_at (by rw [List.getD_eq_getElem?_getD, List.getElem?_eq_getElem hl]; rfl)
      refine ⟨rfl, .ref ra, rfl, .int (Int.ofNat n), rfl, ra, _, (n : Int), _, rfl, rfl, SqL.of hra2, atI_nat hw, ?_, rfl, ?_⟩
      · rw [natV_len, pickN_len, List.length_take]
        omega
      · rw [List.take_add_one, hn]
        unfold pickN natV
        show _ ++ [_] = (((_ ++ [n]).map _).map Int.ofNat).map V.int
        rw [List.map_append, List.map_append, List.map_append]
        rfl
    · rintro ys H3 ⟨rfl, rfl⟩
      rw [natV_len ins, List.take_length]
      refine ⟨by rw [natV_len, pickN_len]; omega, fun p np => ?_⟩
      exact q p _ (g2.then (same_upd np)) upd_same

end
end Gk

set_option Elab.async false
set_option linter.all false
set_option maxRecDepth 100000
set_option maxHeartbeats 1000000
set_option pp.maxSteps 1500
set_option pp.deepTerms false
namespace Gk
open PySem PySem.Spec PyProof.Rows L2
section
variable {P : Program} {w : World} {K : PySem.W.Frag} {mg : Str → Option Value} {base : Heap}
theorem hd2_upd {p q : Addr} {H : Hp} {o : HO} : Same (hd1 p (hd1 q H)) (hd1 p (hd1 q (upd H p o))) := fun b x e => by
  unfold hd1 at e ⊢
  by_cases h : b = p
  · rw [if_pos h] at e; cases e
  · rw [if_neg h] at e ⊢
    by_cases h2 : b = q
    · rw [if_pos h2] at e; cases e
    · rw [if_neg h2] at e ⊢; rw [upd_ne h]; exact e
def sp_parts_of (K : PySem.W.Frag) (Ps : List Addr) (CT : Addr) : Sp := fun vs H Q E => ∃ (nv cv : V) (m : Int) (gs : List Gt) (a b : List Int), vs = [nv, cv] ∧ Tk H nv (netD m gs) ∧ Tk H cv (chD a b) ∧ a.length = b.length ∧ Row01 a ∧ Row01 b ∧ a.length ≤ 16 ∧ gs.length ≤ 1000 ∧ NetOk a.length gs ∧ Tabs H Ps ∧
  ((∀ x ∈ numsM (settledM gs a) gs (inN a b), x ≤ 12) → ∀ r H', GrT Ps H H' → Tk H' (.ref r) (.tuple ((partsM (settledM gs a) gs (inN a b)).map rowD)) → Q (.ref r) H') ∧
  ((∃ x ∈ numsM (settledM gs a) gs (inN a b), 12 < x) → ∀ H', GrT Ps H H' → E (.ref CT) none H')
theorem ok_parts_of (T : Tx K mg) (B : Tb base T) : FnOk P w K mg base (L2.CX P w) 5 T.f_parts_of T.fd_parts_of ["net", "change"] (sp_parts_of K T.pt T.C_TooMany) := by
  refine okL T.F_parts_of sc_parts_of (fun vs H Q E h => ?_) (fun A outer s H vs Q E hr h => ?_)
  · obtain ⟨nv, cv, m, gs, a, b, rfl, _⟩ := h
    rfl
  · obtain ⟨nv, cv, m, gs, a, b, rfl, tn, tc, el, a01, b01, a16, g1000, ok, tabs, told, raised⟩ := h
    refine ⟨_, (pss_cons (ps_set (i := 2) sc_parts_of.nd rfl (by first | exact .inl rfl | exact .inr rfl) (pe_call (ok_settled T) (hr.mono (by decide)) (by rfl) T.g_settled T.F_settled.kp T.b_settled .nil pass0 (pa_cons (pv 0) (pa_cons (pe_ix ix_tup (pv 1) pe_int (fun _ _ => rfl)) pa_nil)))) (pss_cons (ps_set (i := 3) sc_parts_of.nd rfl (by first | exact .inl rfl | exact .inr rfl) (pe_callTy call_list_of (by rfl) T.m_list (by decide +kernel) (pa_cons (pe_call (ok_input_numbers T B) (hr.mono (by decide)) (by rfl) T.g_input_numbers T.F_input_numbers.kp T.b_input_numbers .nil pass0 (pa_cons (pv 1) pa_nil)) pa_nil))) (pss_cons (ps_set (i := 4) sc_parts_of.nd rfl (by first | exact .inl rfl | exact .inr rfl) (pe_lst pa_nil)) (pss_cons (ps_for (L2.passes_of rfl) rfl (pi_tup (pe_ix ix_tup (pv 0) pe_int (fun _ _ => rfl))) (pg_tup rfl (pgs_cons (pg_name (i := 5) sc_parts_of.nd rfl (by first | exact .inl rfl | exact .inr rfl)) (pgs_cons (pg_name (i := 6) sc_parts_of.nd rfl (by first | exact .inl rfl | exact .inr rfl)) pgs_nil))) (pss_cons (ps_set (i := 7) sc_parts_of.nd rfl (by first | exact .inl rfl | exact .inr rfl) (pe_call (ok_gate_part T) (hr.mono (by decide)) (by rfl) T.g_gate_part T.F_gate_part.kp T.b_gate_part .nil pass0 (pa_cons (pv 5) (pa_cons (pe_call (ok_at_wiresT T B) (hr.mono (by decide)) (by rfl) T.g_at_wires T.F_at_wires.kp T.b_at_wires .nil pass0 (pa_cons (pv 2) (pa_cons (pv 6) pa_nil))) (pa_cons (pe_call (ok_at_wiresL T B) (hr.mono (by decide)) (by rfl) T.g_at_wires T.F_at_wires.kp T.b_at_wires .nil pass0 (pa_cons (pv 3) (pa_cons (pv 6) pa_nil))) pa_nil))))) (pss_cons (ps_if (pt_cmpR op_gt (pe_ix ix_tup (pv 7) pe_int (fun _ _ => rfl)) (pe_glob (v := .int 12) (by rfl) T.k_MOST_TURNS.choose_spec ⟨_, rfl⟩) (nomark _)) (pss_one (L2.ps_raise rfl (L2.takes_of rfl rfl rfl rfl) (L2.pmk_own PySem.F.excBase_ValueError T.q_TooMany T.gC_TooMany T.kC_TooMany (raises_own T.su_TooMany T.ty_TooMany) (by rfl)))) pss_nil) (pss_cons (ps_expr (pe_bm PySem.F.plainAttrs_list PySem.F.slot_list_append PySem.F.type_list_append mt_append (pv 4) (pa_cons (pv 7) pa_nil))) (pss_one (ps_expr (pe_bm PySem.F.plainAttrs_list PySem.F.slot_list_append PySem.F.type_list_append mt_append (pv 3) (pa_cons (pe_ix ix_tup (pv 7) pe_int (fun _ _ => rfl)) pa_nil)))))))) (pss_one (ps_ret (pe_callTy call_tuple_of (by rfl) T.m_tuple (by decide +kernel) (pa_cons (pv 4) pa_nil)))))))), ?_⟩
    have sl : (16777216 : Nat) = sizeLine := by decide
    obtain ⟨c, ra, rb, rfl, hc, hra, hrb⟩ := tc.ch_inv
    obtain ⟨n, g, xs, rfl, hn, hg, tg⟩ := tn.net_inv
    have xl : xs.length = gs.length := by rw [tg.length, List.length_map]
    refine ⟨.ref n, rfl, .ref c, rfl, c, _, 0, _, rfl, rfl, SqT.of hc, rfl, .ref n, .ref ra, m, gs, a, rfl, tn, .tup hra (TkAll.ints _), a01, a16, g1000, ok, fun fa H1 s1 tf => ?_⟩
    obtain ⟨fa', e, hfa⟩ := tf.row_inv
    cases e
    refine ⟨.ref c, rfl, .ref c, a, b, rfl, tc.same s1, el, a01, b01, a16, tabs.same s1, fun ia H2 g2 hia => ?_⟩
    have t2 := g2.tabs (tabs.same s1)
    refine ⟨ia, _, rfl, .inr (SqT.of hia), fun NL nNL => ?_⟩
    have sN := same_upd (o := HO.lst (natV (inN a b))) nNL
    have hNL := upd_same (H := H2) (a := NL) (o := .lst (natV (inN a b)))
    refine ⟨Nat.zero_le _, fun PL nPL => ?_⟩
    have sP := same_upd (o := HO.lst []) nPL
    have hPL := upd_same (H := upd H2 NL (.lst (natV (inN a b)))) (a := PL) (o := .lst [])
    have NP : NL ≠ PL := ne_of_none hNL nPL
    have hNL3 := sP _ _ hNL
    have nP2 : H2 PL = none := by
      cases hz : H2 PL with
      | none => rfl
      | some o => rw [sN _ _ hz] at nPL; cases nPL
    have s23 : Same H2 (hd1 NL (hd1 PL (upd (upd H2 NL (.lst (natV (inN a b)))) PL (.lst [])))) := hd1_of (hd1_of (sN.trans sP) nP2) nNL
    have g03 : GrT T.pt H (hd1 NL (hd1 PL (upd (upd H2 NL (.lst (natV (inN a b)))) PL (.lst [])))) := ((GrT.of s1).trans g2).then s23
    have hfa2 := g2.tup (tabs.same s1) hfa
    have hfa3 := s23 _ _ hfa2
    show tSeq _ _ _ _ (upd (upd H2 NL (.lst (natV (inN a b)))) PL (.lst []))
    generalize upd (upd H2 NL (.lst (natV (inN a b)))) PL (.lst []) = H3 at hPL hNL3 g03 hfa3 ⊢
    clear s23 sP sN nPL nNL nP2 hNL hfa2
    obtain ⟨fs, hfs⟩ : ∃ fs, fs = settledM gs a := ⟨_, rfl⟩
    rw [← hfs] at hfa3 told raised
    have fsl : fs.length = a.length + gs.length := by rw [hfs, settledM_len]
    have fs01 : ∀ x ∈ fs, x = 0 ∨ x = 1 := by rw [hfs]; exact settledM_01 gs a a01
    have le2 : ∀ {H' : Hp}, Same (hd1 NL (hd1 PL H')) H' := fun {H'} => hd1_le.trans hd1_le
    have hn3 := le2 _ _ (g03.tup tabs hn)
    have hg3 := le2 _ _ (g03.tup tabs hg)
    refine ⟨.ref n, rfl, n, _, 1, .ref g, rfl, rfl, SqT.of hn3, rfl, g, rfl, ⟨_, SqT.of hg3⟩, ?_⟩
    refine for_tup (K := K) (a := g) (xs := xs) (fun i σ H' => ∃ y5 y6 y7 zs, σ = [some (.ref n), some (.ref c), some (.ref fa), some (.ref NL), some (.ref PL), y5, y6, y7] ∧ GrT T.pt H (hd1 NL (hd1 PL H')) ∧ hd1 NL (hd1 PL H') fa = some (.tup (fs.map V.int)) ∧ H' NL = some (.lst (natV (numsM fs (gs.take i) (inN a b)))) ∧ H' PL = some (.lst zs) ∧ TkAll (hd1 NL (hd1 PL H')) zs ((partsM fs (gs.take i) (inN a b)).map rowD) ∧ ∀ x ∈ numsM fs (gs.take i) (inN a b), x ≤ 12)
      ⟨_, _, _, [], rfl, g03, hfa3, hNL3, hPL, .nil, fun x hx => Nat.le_trans (inN_le a b x hx) (by decide)⟩ (fun i σ H' _ ⟨_, _, _, _, _, hP, _⟩ => SqT.of (le2 _ _ (hP.tup tabs hg))) ?_ ?_
    · rintro i v σ H4 hv ⟨y5, y6, y7, zs, rfl, g4, hf4, hN4, hP4, tz, le12⟩
      obtain ⟨gt, hgt, tgt⟩ := tg.at hv
      have t4 : Tabs (hd1 NL (hd1 PL H4)) T.pt := g4.tabs tabs
      have t4' : Tabs H4 T.pt := t4.same le2
      obtain ⟨ga, ii, rfl, hga, hii⟩ := (tgt.gr (g4.gr tabs)).gt_inv
      have hga4 := le2 _ _ hga
      have hii4 := le2 _ _ hii
      have hil := (List.getElem?_eq_some_iff.mp hgt).1
      obtain ⟨ok1, ok2, ok3, ok4⟩ := ok i gt hgt
      obtain ⟨ns, hns⟩ : ∃ ns, ns = numsM fs (gs.take i) (inN a b) := ⟨_, rfl⟩
      rw [← hns] at hN4 le12
      have nl : ns.length = a.length + i := by rw [hns, numsM_len, inN_len el, List.length_take]; omega
      have pNl := pickN_len ns gt.2
      have pIl := pickI_len fs gt.2
      have few : Few (pickN ns gt.2) := ⟨by omega, fun x hx => by
        obtain ⟨k, hk, rfl⟩ := List.mem_map.mp hx
        have := ok4 k hk
        refine le12 _ ?_
        rw [List.getD_eq_getElem?_getD, List.getElem?_eq_getElem (by omega)]
        exact List.getElem_mem _⟩
      have f01 : Row01 (pickI fs gt.2) := fun x hx => by
        obtain ⟨k, hk, rfl⟩ := List.mem_map.mp hx
        have := ok4 k hk
        refine fs01 _ ?_
        rw [List.getD_eq_getElem?_getD, List.getElem?_eq_getElem (by omega)]
        exact List.getElem_mem _
      refine ⟨ga, _, rfl, SqT.of hga4, rfl, _, _, rfl, _, _, rfl, rfl, ?_⟩
      refine ⟨.str (tabOf gt.1), rfl, .ref fa, rfl, .ref ii, rfl, fa, ii, fs, gt.2, rfl, le2 _ _ hf4, hii4, fun k hk => by have := ok4 k hk; omega, ok3, t4', fun w1 H5 g5 h5 => ?_⟩
      have t5 := g5.tabs t4'
      refine ⟨.ref NL, rfl, .ref ii, rfl, NL, ii, ns, gt.2, rfl, g5.lst t4' hN4, g5.tup t4' hii4, fun k hk => by have := ok4 k hk; omega, ok3, t5, fun w2 H6 g6 h6 => ?_⟩
      have t6 := g6.tabs t5
      refine ⟨gt.1, w1, w2, pickI fs gt.2, pickN ns gt.2, rfl, g6.tup t5 h5, h6, f01, few, by omega, by rw [pIl]; exact ok1, fun pr H7 s7 h7 => ?_⟩
      have g47 : GrT T.pt H4 H7 := (g5.trans g6).then s7
      have hN7 := g47.lst t4' hN4
      have hP7 := g47.lst t4' hP4
      have g47h := (g47.hid (D := PL)).hid (D := NL)
      have hf7 := g47h.tup t4 hf4
      have tz7 := tz.gr (g47h.gr t4)
      have ea := every_at (pickN ns gt.2) _ (zeros_le _)
      rw [idx_zeros] at ea
      have p0 : (((every (pickN ns gt.2)).map (gr gt.1 (pickI fs gt.2) (pickN ns gt.2))).map V.int)[0]? = some (.int (numG fs ns gt)) := by
        rw [List.getElem?_map, List.getElem?_map, ea]
        rfl
      have enext := numsM_take (fs := fs) hgt (inN a b)
      rw [← hns] at enext
      have nn : 0 ≤ numG fs ns gt := gr_nonneg _ _ _ _
      refine ⟨.ref pr, rfl, pr, _, 0, _, rfl, rfl, SqT.of h7, atI_nat (j := 0) p0, _, _, rfl, rfl, _, rfl, ite2 (fun hgt12 => ?_) (fun hle12 => ?_)⟩
      · have hgt12 : 12 < numG fs ns gt := of_decide_eq_true hgt12
        refine raised ⟨(numG fs ns gt).toNat, ?_, by omega⟩ H7 (g4.trans g47h |>.then le2)
        refine numsM_pre fs gs (i + 1) _ _ ?_
        rw [enext]
        exact List.mem_append_right _ (List.mem_singleton.mpr rfl)
      · have hle12 : numG fs ns gt ≤ 12 := Int.not_lt.mp fun z => hle12 (decide_eq_true z)
        have zl := tz7.length
        rw [List.length_map, partsM_len, List.length_take] at zl
        refine ⟨.ref PL, rfl, .inl ⟨rfl, _, SqL.of hP7⟩, .ref pr, rfl, PL, _, _, rfl, rfl, hP7, by omega, ?_⟩
        have hN8 : (upd H7 PL (.lst (zs ++ [.ref pr]))) NL = some (.lst (natV ns)) := by rw [upd_ne NP]; exact hN7
        have prP : pr ≠ PL := ne_of h7 hP7 (by intro z; cases z)
        have prN : pr ≠ NL := ne_of h7 hN7 (by intro z; cases z)
        have h8 : (upd H7 PL (.lst (zs ++ [.ref pr]))) pr = some (.tup ((partG fs ns gt).map V.int)) := by rw [upd_ne prP]; exact h7
        have e0 : V.int (numG fs ns gt) = V.int (Int.ofNat (numG fs ns gt).toNat) := by
          congr 1
          show _ = (((numG fs ns gt).toNat : Nat) : Int)
          omega
        refine ⟨.ref NL, rfl, .inl ⟨rfl, _, SqL.of hN8⟩, .ref pr, rfl, pr, _, 0, _, rfl, rfl, SqT.of h8, atI_nat (j := 0) p0, NL, _, _, rfl, rfl, hN8, by rw [natV_len]; omega, ?_⟩
        have sA : Same (hd1 NL (hd1 PL H7)) (hd1 NL (hd1 PL (upd (upd H7 PL (.lst (zs ++ [.ref pr]))) NL (.lst (natV ns ++ [V.int (numG fs ns gt)]))))) := (hd1_same hd1_upd).trans hd2_upd
        refine ⟨_, _, _, zs ++ [.ref pr], rfl, (g4.trans g47h).then sA, sA _ _ hf7, ?_, ?_, ?_, ?_⟩
        · rw [upd_same, enext, e0]
          unfold stepN natV
          rw [List.map_append, List.map_append]
          rfl
        · rw [upd_ne NP.symm, upd_same]
        · rw [partsM_take hgt, List.map_append, ← hns]
          refine (tz7.same sA).append (.cons (.tup (xs := (partG fs ns gt).map V.int) ?_ (TkAll.ints _)) .nil)
          rw [hd1_at prN, hd1_at prP, upd_ne prN, upd_ne prP]
          exact h7
        · rw [enext]
          intro x hx
          rcases List.mem_append.mp hx with hx | hx
          · exact le12 x hx
          · rw [List.mem_singleton.mp hx]; omega
    · rintro σ H4 ⟨y5, y6, y7, zs, rfl, g4, hf4, hN4, hP4, tz, le12⟩
      rw [xl, List.take_length] at tz le12
      refine ⟨.ref PL, rfl, PL, _, rfl, .inl ⟨SqL.of hP4, fun t nt => ?_⟩⟩
      have st := same_upd (o := HO.tup zs) nt
      exact told le12 t _ ((g4.then le2).then st) (.tup upd_same ((tz.same le2).same st))

end
end Gk

set_option Elab.async false
set_option linter.all false
set_option maxRecDepth 100000
set_option maxHeartbeats 1000000
set_option pp.maxSteps 1500
set_option pp.deepTerms false
namespace Gk
open PySem PySem.Spec PyProof.Rows L2
section
variable {P : Program} {w : World} {K : PySem.W.Frag} {mg : Str → Option Value} {base : Heap}
theorem pt_gr (T : Tx K mg) : T.P_greatest ∈ T.pt := by unfold Tx.pt; simp
def sp_greatest (K : PySem.W.Frag) (Ps : List Addr) (CT : Addr) : Sp := fun vs H Q E => ∃ (nv cv : V) (m : Int) (gs : List Gt) (a b : List Int), vs = [nv, cv] ∧ Tk H nv (netD m gs) ∧ Tk H cv (chD a b) ∧ a.length = b.length ∧ Row01 a ∧ Row01 b ∧ a.length ≤ 16 ∧ gs.length ≤ 1000 ∧ NetOk a.length gs ∧ Tabs H Ps ∧
  ((∀ x ∈ numsM (settledM gs a) gs (inN a b), x ≤ 12) → ∀ r H', GrT Ps H H' → H' r = some (.tup (natV (numsM (settledM gs a) gs (inN a b)))) → Q (.ref r) H') ∧
  ((∃ x ∈ numsM (settledM gs a) gs (inN a b), 12 < x) → ∀ H', GrT Ps H H' → E (.ref CT) none H')
theorem numsM_split (fs : List Int) (gs : List Gt) (ns : List Nat) : numsM fs gs ns = ns ++ (partsM fs gs ns).map fun p => (p.getD 0 0).toNat := by
  induction gs generalizing ns with
  | nil => exact (List.append_nil _).symm
  | cons g r ih =>
    show numsM fs r (stepN fs ns g) = ns ++ ((partG fs ns g).getD 0 0).toNat :: (partsM fs r (stepN fs ns g)).map _
    rw [ih]
    unfold stepN
    rw [List.append_assoc]
    have ea := every_at (pickN ns g.2) _ (zeros_le _)
    rw [idx_zeros] at ea
    have : (partG fs ns g).getD 0 0 = numG fs ns g := by
      unfold partG
      rw [List.getD_eq_getElem?_getD, List.getElem?_map, ea]
      rfl
    rw [this]
    rfl
theorem ok_greatest (T : Tx K mg) (B : Tb base T) : FnOk P w K mg base (L2.CX P w) 6 T.f_greatest T.fd_greatest ["net", "change"] (sp_greatest K T.pt T.C_TooMany) := by
  refine okL T.F_greatest sc_greatest (fun vs H Q E h => ?_) (fun A outer s H vs Q E hr h => ?_)
  · obtain ⟨nv, cv, m, gs, a, b, rfl, _⟩ := h
    rfl
  · obtain ⟨nv, cv, m, gs, a, b, rfl, tn, tc, el, a01, b01, a16, g1000, ok, tabs, told, raised⟩ := h
    refine ⟨_, (pss_one (ps_ret (pe_op op_catA (pe_call (ok_input_numbers T B) (hr.mono (by decide)) (by rfl) T.g_input_numbers T.F_input_numbers.kp T.b_input_numbers .nil pass0 (pa_cons (pv 1) pa_nil)) (pe_tupX (own := [("part", 2)]) (k := 0) (hr.mono (by decide)) rfl sc_greatest.nd (by rfl) T.m_tuple (by decide +kernel) B.TB_greatest T.cd_greatest rfl rfl (by decide +kernel) (blkOk_by (own := [("part", 2)]) (N := ["net", "change", "part"]) (sc := defScope s_greatest) (by decide +kernel)) (pi_tup (pe_callS (ok_parts_of T B) (hr.mono (by decide)) (by rfl) T.g_parts_of T.F_parts_of.kp T.b_parts_of (fun σ => L2.passAt (L2.takes_of rfl rfl rfl rfl) σ) (pa_cons (pv 0) (pa_cons (pv 1) pa_nil)))) (fun _ _ _ _ _ _ _ hr gd => (pg_name (i := 2) sc_greatest.nd rfl (by first | exact .inl rfl | exact .inr rfl))) (fun _ _ _ _ _ _ _ hr gd => pts_nil) (fun _ _ _ _ _ _ _ hr gd => (pe_ix (show IxR _ (rIxT K) from ix_tup) (pv 2) pe_int (fun _ _ => rfl))) (fun _ => rfl))))), ?_⟩
    have sl : (16777216 : Nat) = sizeLine := by decide
    refine ⟨cv, rfl, cv, a, b, rfl, tc, el, a01, b01, a16, tabs, fun ia H1 g1 hia => ?_⟩
    have t1 := g1.tabs tabs
    refine ⟨nv, rfl, cv, rfl, nv, cv, m, gs, a, b, rfl, tn.gr (g1.gr tabs), tc.gr (g1.gr tabs), el, a01, b01, a16, g1000, ok, t1, fun le12 pr H2 g2 tp => ?_, fun ex H2 g2 => raised ex H2 (g1.trans g2)⟩
    have t2 := g2.tabs t1
    obtain ⟨pr', ps, e, hpr, tps⟩ := tp.tup_inv
    cases e
    have pl : ps.length = gs.length := by rw [tps.length, List.length_map, partsM_len]
    refine ⟨pr, rfl, ⟨_, SqT.of hpr⟩, t2 _ (pt_gr T), fun H3 tb3 => ?_⟩
    have g3 := GrT.tab (pt_gr T) tb3
    have hpr3 := g3.tup t2 hpr
    have tps3 := tps.gr (g3.gr t2)
    obtain ⟨fs, hfs⟩ : ∃ fs, fs = settledM gs a := ⟨_, rfl⟩
    rw [← hfs] at told raised tps3
    refine gx_tup (K := K) (a := pr) (xs := ps) (fun i ys H' => H' = H3 ∧ ys = natV (((partsM fs gs (inN a b)).take i).map fun p => (p.getD 0 0).toNat)) ⟨rfl, rfl⟩ (fun i ys H' _ hP => by rw [hP.1]; exact SqT.of hpr3) ?_ ?_
    · rintro i x ys H4 hx ⟨rfl, rfl⟩
      obtain ⟨p, hp, tx⟩ := tps3.at hx
      obtain ⟨pa, rfl, hpa⟩ := tx.row_inv
      obtain ⟨gt, hgt, ep, _⟩ := part_nums hp
      have hil := (List.getElem?_eq_some_iff.mp hp).1
      rw [partsM_len] at hil
      have ea := every_at (pickN (numsM fs (gs.take i) (inN a b)) gt.2) _ (zeros_le _)
      rw [idx_zeros] at ea
      have p0 : p[0]? = some (numG fs (numsM fs (gs.take i) (inN a b)) gt) := by
        rw [ep]
        unfold partG
        rw [List.getElem?_map, ea]
        rfl
      have nn : 0 ≤ numG fs (numsM fs (gs.take i) (inN a b)) gt := gr_nonneg _ _ _ _
      refine ⟨rfl, .ref pa, rfl, pa, _, 0, _, rfl, rfl, SqT.of hpa, atI_nat (j := 0) (by rw [List.getElem?_map, p0]; rfl), ?_, rfl, ?_⟩
      · rw [natV_len, List.length_map, List.length_take]
        omega
      · rw [List.take_add_one, hp]
        show natV _ ++ [V.int (numG fs (numsM fs (gs.take i) (inN a b)) gt)] = natV ((_ ++ [p]).map _)
        rw [List.map_append]
        unfold natV
        rw [List.map_append, List.map_append]
        congr 1
        show [V.int _] = [V.int (Int.ofNat (p.getD 0 0).toNat)]
        rw [List.getD_eq_getElem?_getD, p0]
        congr 2
        show _ = (((numG fs (numsM fs (gs.take i) (inN a b)) gt).toNat : Nat) : Int)
        omega
    · rintro ys H4 ⟨rfl, rfl⟩
      rw [pl, List.take_of_length_le (by rw [partsM_len]; exact Nat.le_refl _)]
      refine ⟨by rw [natV_len, List.length_map, partsM_len]; omega, fun q nq => ?_⟩
      have sq := same_upd (o := HO.tup (natV ((partsM fs gs (inN a b)).map fun p => (p.getD 0 0).toNat))) nq
      have hia4 := sq _ _ (g3.tup t2 (g2.tup t1 hia))
      refine catA hia4 upd_same ?_ fun r H5 s5 h5 => ?_
      · rw [natV_len, natV_len, List.length_map, partsM_len, inN_len el]
        omega
      · refine told (by rw [hfs]; exact le12) r H5 ((((g1.trans g2).trans g3).then sq).then s5) ?_
        rw [h5, numsM_split]
        unfold natV
        rw [List.map_append, List.map_append]

end
end Gk

set_option Elab.async false
set_option linter.all false
set_option maxRecDepth 100000
set_option maxHeartbeats 1000000
set_option pp.maxSteps 1500
set_option pp.deepTerms false
namespace Gk
open PySem PySem.Spec PyProof.Rows L2
section
variable {P : Program} {w : World} {K : PySem.W.Frag} {mg : Str → Option Value} {base : Heap}
/-! ### what a lambda tells, or how it is refused -/
structure Kinds {K : PySem.W.Frag} {mg : Str → Option Value} (T : Tx K mg) (D : Addr) (b1 b2 b3 b4 : Bool) : Prop where
  exc : ExcC K D
  net : PySem.W.exmOne K (.ref D) (.ref T.C_NetError) = some true
  k1 : PySem.W.kitOne K (.ref D) (.ref T.C_TooMany) = some b1
  k2 : PySem.W.kitOne K (.ref D) (.ref T.C_NotFormula) = some b2
  k3 : PySem.W.kitOne K (.ref D) (.type "ValueError") = some b3
  k4 : PySem.W.kitAny K (.ref D) [.ref T.C_NoText, .ref T.C_NoTurn, .ref T.C_NoForms, .ref T.C_NoRow] = some b4
def refD (b1 b2 b3 b4 : Bool) : PyData := .tuple [.str (Str.ofString "refused"), .list [.bool b1, .bool b2, .bool b3, .bool b4]]
def TTold {K : PySem.W.Frag} {mg : Str → Option Value} (T : Tx K mg) : (XK → Hp → VK → Prop) → Hp → VK → Prop := fun tl H Q => ∀ t0, H t0 = none → ∀ (E1 : XK) (Q1 : VK),
  (∀ (D : Addr) (b1 b2 b3 b4 : Bool) (H' : Hp), Kinds T D b1 b2 b3 b4 → (∀ r H'', Same H' H'' → Tk H'' (.ref r) (refD b1 b2 b3 b4) → Q (.ref r) H'') → E1 (.ref D) none H') →
  (∀ v H1, (∀ t, H1 t = none → Q (.ref t) (upd H1 t (.tup [.str (Str.ofString "told"), v]))) → Q1 v H1) → tl E1 (upd H t0 (.tup [.str (Str.ofString "none"), .non])) Q1
theorem gives_told {X : Cx} {K : PySem.W.Frag} {mg : Str → Option Value} (T : Tx K mg) (eK : X.K = K) (eM : X.mg = mg) (cdv : Value) : LamG.Gives X ["_law_does", "_law_told_here", "e", "_law_kinds"] "_law_told" (defScope s_told) T.f_told cdv (defBody s_told) "_law_does" (TTold T) := by
  subst eK eM
  intro f k s H Q tl act hk h
  refine ⟨_, (pss_cons (ps_set (i := 1) sc_told.nd rfl (by first | exact .inl rfl | exact .inr rfl) (pe_tup (pa_cons pe_str (pa_cons pe_non pa_nil)))) (pss_cons (L2.ps_try_as (i := 2) rfl rfl sc_told.nd rfl (by rfl) ⟨by rfl, by decide, .inl T.gC_NetError⟩ LamX.takes0 (fun W pn xe tk own => (pss_one (ps_set (i := 1) sc_told.nd rfl (by first | exact .inl rfl | exact .inr rfl) (pe_tup (pa_cons pe_str (pa_cons (act W pn xe _ _ tk) pa_nil)))))) (fun ea oe cls ed pn hz hf => (pss_cons (ps_set (i := 3) sc_told.nd rfl (by first | exact .inl rfl | exact .inr rfl) (pe_lst (pa_cons (pe_callB (GxE.call_isP hz hf) (by rfl) T.m_isinstance (by decide +kernel) (pa_cons (pv 2) (pa_cons (pe_glob (v := .ref T.C_TooMany) (by rfl) T.gC_TooMany rfl) pa_nil))) (pa_cons (pe_callB (GxE.call_isP hz hf) (by rfl) T.m_isinstance (by decide +kernel) (pa_cons (pv 2) (pa_cons (pe_glob (v := .ref T.C_NotFormula) (by rfl) T.gC_NotFormula rfl) pa_nil))) (pa_cons (pe_callB (GxE.call_isP hz hf) (by rfl) T.m_isinstance (by decide +kernel) (pa_cons (pv 2) (pa_cons (pe_bltn (v := .ty "ValueError") (u := .type "ValueError") (by rfl) T.m_ValueError (by decide +kernel) rfl) pa_nil))) pa_nil))))) (pss_one (ps_set (i := 1) sc_told.nd rfl (by first | exact .inl rfl | exact .inr rfl) (pe_tup (pa_cons pe_str (pa_cons (pe_op op_cat (pv 3) (pe_lst (pa_cons (pe_callB (GxE.call_isPT hz hf) (by rfl) T.m_isinstance (by decide +kernel) (pa_cons (pv 2) (pa_cons (pe_tup (pa_cons (pe_glob (v := .ref T.C_NoText) (by rfl) T.gC_NoText rfl) (pa_cons (pe_glob (v := .ref T.C_NoTurn) (by rfl) T.gC_NoTurn rfl) (pa_cons (pe_glob (v := .ref T.C_NoForms) (by rfl) T.gC_NoForms rfl) (pa_cons (pe_glob (v := .ref T.C_NoRow) (by rfl) T.gC_NoRow rfl) pa_nil))))) pa_nil))) pa_nil))) pa_nil)))))))) (pss_one (ps_ret (pv 1))))), ?_⟩
  refine ⟨sl2, fun t0 n0 => ?_⟩
  refine ⟨rfl, same_upd n0 _ _ hk, ?_⟩
  refine h t0 n0 _ _ (fun D b1 b2 b3 b4 H1 kd q => ?_) (fun v H1 q => ?_)
  · refine ⟨true, kd.net, fun _ a na => ?_, fun z => by cases z⟩
    refine ⟨.ref a, rfl, D, _, _, b1, rfl, rfl, rfl, kd.exc, .own _, kd.k1, .ref a, rfl, D, _, _, b2, rfl, rfl, rfl, kd.exc, .own _, kd.k2, .ref a, rfl, D, _, _, b3, rfl, rfl, rfl, kd.exc, .ty _, kd.k3, sl3, fun L nL => ?_⟩
    have s1 := same_upd (o := HO.lst [V.bl b1, V.bl b2, V.bl b3]) nL
    refine ⟨.ref L, rfl, .ref a, rfl, sl4, fun tp ntp => ?_⟩
    have s2 := same_upd (o := HO.tup [V.ref T.C_NoText, V.ref T.C_NoTurn, V.ref T.C_NoForms, V.ref T.C_NoRow]) ntp
    refine ⟨D, tp, _, [.ref T.C_NoText, .ref T.C_NoTurn, .ref T.C_NoForms, .ref T.C_NoRow], b4, rfl, rfl, rfl, kd.exc, upd_same, .cons (.own _) (.cons (.own _) (.cons (.own _) (.cons (.own _) .nil))), kd.k4, sl1, fun M nM => ?_⟩
    have s3 := same_upd (o := HO.lst [V.bl b4]) nM
    refine ⟨L, M, _, _, rfl, rfl, s3 _ _ (s2 _ _ upd_same), upd_same, by show 3 + 1 ≤ sizeLine; decide, fun p np => ?_⟩
    have s4 := same_upd (o := HO.lst ([V.bl b1, V.bl b2, V.bl b3] ++ [V.bl b4])) np
    refine ⟨sl2, fun r nr => ?_⟩
    have s5 := same_upd (o := HO.tup [V.str (Str.ofString "refused"), V.ref p]) nr
    refine ⟨.ref r, rfl, q r _ ((((s1.trans s2).trans s3).trans s4).trans s5) ?_⟩
    exact .tup upd_same (.cons (.str _) (.cons (.lst (s5 _ _ upd_same) (.cons (.bl _) (.cons (.bl _) (.cons (.bl _) (.cons (.bl _) .nil))))) .nil))
  · refine ⟨sl2, fun t nt => ?_⟩
    exact ⟨.ref t, rfl, q t nt⟩
theorem kinds_TooMany {K : PySem.W.Frag} {mg : Str → Option Value} (T : Tx K mg) : Kinds T T.C_TooMany true false true false :=
  ⟨T.X_TooMany, T.x_TooMany_NetError, T.t_TooMany_TooMany, T.t_TooMany_NotFormula, T.v_TooMany, by simp only [PySem.W.kitAny, T.t_TooMany_NoText, T.t_TooMany_NoTurn, T.t_TooMany_NoForms, T.t_TooMany_NoRow]⟩

end
end Gk

set_option Elab.async false
set_option linter.all false
set_option maxRecDepth 100000
set_option maxHeartbeats 1000000
set_option pp.maxSteps 1500
set_option pp.deepTerms false
namespace Gk
open PySem PySem.Spec PyProof.Rows L2
/-! ### max of a tuple of ints -/
namespace MxT
open PySem PyProof.Rows
variable {prog : Program} {w : World} {A : Around} {E : Value → Shared → Prop} {s : Shared} {l : Addr} {its : List Value} {ns : List Int} {Q : Value → Shared → Prop}
theorem raw (hh : A.handled = none) (ist : s.heap.IsTuple l its.toArray) (are : IntsAre its ns) (ne : 0 < ns.length)
    (fin : ∀ g tk m t, (∀ b o, s.heap.get? b = some o → g.get? b = some o) → m ∈ ns → (∀ y ∈ ns, y ≤ m) → Q (.int m t) { s with heap := g, toks := tk }) :
    wpAny (model prog w) A (call (.builtin "max") [.ref l]) Q E s := by
  obtain ⟨xs, e⟩ := are.allInts.items
  have hn : numsOf (intItems xs).toList = ns := by rw [← e]; exact are.numsOf
  rw [nums_intItems] at hn
  subst hn
  rw [e] at ist
  have lt : l < s.heap.objs.size := by obtain ⟨_, h, _⟩ := ist; exact Heap.lt_size h
  have pos : 0 < (intItems xs).size := by
    have : (intItems xs).size = xs.size := by simp [intItems]
    rw [List.length_map, Array.length_toList] at ne
    omega
  refine PySem.call_max_walk (wpAny_pyIter_tuple ist ?_)
  refine ⟨s.heap.objs.size, [s.heap.objs.size, l], [s.heap.objs.size], (intItems xs).size, _, _, _, rfl, Walks.tuple (A := A.in1) hh _ l (Nat.ne_of_lt lt) (intItems xs), ⟨⟨_, Heap.get?_push_size _ rfl, rfl, rfl⟩, ist.push _⟩, fun b hb => ?_, pos, CmpOf.ints_gt (numAt xs) (fun _ _ => intItems_at), fun v g tk hP keep => ?_⟩
  · show b < (s.heap.push _).objs.size
    rw [Heap.size_push]
    have : b = s.heap.objs.size ∨ b = l := by simpa using hb
    rcases this with z | z
    · rw [z]; exact Nat.lt_succ_self _
    · rw [z]; exact Nat.lt_succ_of_lt lt
  · have hP : (intItems xs)[argBest (fun i j => decide (numAt xs i > numAt xs j)) (xs.size - 1)]? = some v := by simpa [intItems] using hP
    obtain ⟨t, rfl⟩ := intItems_at hP
    obtain ⟨h1, h2⟩ := argBest_gt (numAt xs) (xs.size - 1)
    have px : 0 < xs.size := by simpa [intItems] using pos
    refine fin g tk _ t (fun b o eb => ?_) ?_ fun y hy => ?_
    · have := Heap.lt_size eb
      exact keep b o (by simp; exact Nat.ne_of_lt this) (Heap.get?_push_of_some _ eb)
    · rw [numAt_eq]
      exact PySem.getD_mem (by rw [List.length_map, Array.length_toList]; omega)
    · obtain ⟨j, hj, rfl⟩ := mem_getD hy
      rw [List.length_map, Array.length_toList] at hj
      rw [← numAt_eq]
      exact h2 j (by omega)
end MxT
def rMaxT (K : PySem.W.Frag) : List V → Hp → VK → Prop := fun vs H Q => ∃ (a : Addr) (ns : List Int), vs = [V.ref a] ∧ SqT K H a (ns.map V.int) ∧ 0 < ns.length ∧ ∀ m, m ∈ ns → (∀ y ∈ ns, y ≤ m) → Q (.int m) H
theorem cr_maxT {X : Cx} (hc : X.calm = true) : CallR X (.builtin "max") (rMaxT X.K) := by
  intro pins s σ H vs us Q I r h
  obtain ⟨a, ns, rfl, hs, ne, q⟩ := h
  obtain rfl := Vals.ref1 r
  obtain ⟨its, rv, hl, _⟩ := I.tuple hs
  exact MxT.raw (I.ok.hd hc) hl rv.ints ne fun g tk m t' hk h1 h2 => ⟨.int _, H, I.kept hk, ⟨_, rfl⟩, q m h1 h2⟩

section
variable {P : Program} {w : World} {K : PySem.W.Frag} {mg : Str → Option Value} {base : Heap}
/-! ### gates that every change of one in turns about -/
def Par (bs : List Bool) : Prop := ∀ ws : List Int, (∀ w ∈ ws, w = 0 ∨ w = 1) → bs.length = 2 ^ ws.length → ws.length ≤ 3 → ∀ p, p < ws.length → gateM bs (ws.set p (1 - ws.getD p 0)) ≠ gateM bs ws
theorem par1 {bs : List Bool} (h : (([0, 1] : List Int).all fun x => decide (gateM bs [1 - x] ≠ gateM bs [x])) = true) (hl : bs.length = 2) : Par bs := by
  intro ws hw hb h3 p hp
  have : ws.length = 1 := by
    have : ws.length = 0 ∨ ws.length = 1 ∨ ws.length = 2 ∨ ws.length = 3 := by omega
    rcases this with e | e | e | e <;> rw [e] at hb <;> first | omega | (rw [hl] at hb; exact absurd hb (by decide))
  obtain ⟨x, rfl⟩ : ∃ x, ws = [x] := match ws, this with | [x], _ => ⟨x, rfl⟩
  have hx : x ∈ ([0, 1] : List Int) := by have := hw x (by simp); simpa using this
  have hp : p = 0 := by simpa using hp
  subst hp
  exact of_decide_eq_true (List.all_eq_true.mp h x hx)
theorem par2 {bs : List Bool} (h : (([0, 1] : List Int).all fun x => ([0, 1] : List Int).all fun y => decide (gateM bs [1 - x, y] ≠ gateM bs [x, y]) && decide (gateM bs [x, 1 - y] ≠ gateM bs [x, y])) = true) (hl : bs.length = 4) : Par bs := by
  intro ws hw hb h3 p hp
  have : ws.length = 2 := by
    have : ws.length = 0 ∨ ws.length = 1 ∨ ws.length = 2 ∨ ws.length = 3 := by omega
    rcases this with e | e | e | e <;> rw [e] at hb <;> first | omega | (rw [hl] at hb; exact absurd hb (by decide))
  obtain ⟨x, y, rfl⟩ : ∃ x y, ws = [x, y] := match ws, this with | [x, y], _ => ⟨x, y, rfl⟩
  have hx : x ∈ ([0, 1] : List Int) := by have := hw x (by simp); simpa using this
  have hy : y ∈ ([0, 1] : List Int) := by have := hw y (by simp); simpa using this
  have k := List.all_eq_true.mp (List.all_eq_true.mp h x hx) y hy
  rw [Bool.and_eq_true] at k
  have hp : p < 2 := hp
  have : p = 0 ∨ p = 1 := by omega
  rcases this with rfl | rfl
  · exact of_decide_eq_true k.1
  · exact of_decide_eq_true k.2
theorem par3 {bs : List Bool} (h : (([0, 1] : List Int).all fun x => ([0, 1] : List Int).all fun y => ([0, 1] : List Int).all fun z => decide (gateM bs [1 - x, y, z] ≠ gateM bs [x, y, z]) && (decide (gateM bs [x, 1 - y, z] ≠ gateM bs [x, y, z]) && decide (gateM bs [x, y, 1 - z] ≠ gateM bs [x, y, z]))) = true) (hl : bs.length = 8) : Par bs := by
  intro ws hw hb h3 p hp
  have : ws.length = 3 := by
    have : ws.length = 0 ∨ ws.length = 1 ∨ ws.length = 2 ∨ ws.length = 3 := by omega
    rcases this with e | e | e | e <;> rw [e] at hb <;> first | omega | (rw [hl] at hb; exact absurd hb (by decide))
  obtain ⟨x, y, z, rfl⟩ : ∃ x y z, ws = [x, y, z] := match ws, this with | [x, y, z], _ => ⟨x, y, z, rfl⟩
  have hx : x ∈ ([0, 1] : List Int) := by have := hw x (by simp); simpa using this
  have hy : y ∈ ([0, 1] : List Int) := by have := hw y (by simp); simpa using this
  have hz : z ∈ ([0, 1] : List Int) := by have := hw z (by simp); simpa using this
  have k := List.all_eq_true.mp (List.all_eq_true.mp (List.all_eq_true.mp h x hx) y hy) z hz
  rw [Bool.and_eq_true, Bool.and_eq_true] at k
  have hp : p < 3 := hp
  have : p = 0 ∨ p = 1 ∨ p = 2 := by omega
  rcases this with rfl | rfl | rfl
  · exact of_decide_eq_true k.1
  · exact of_decide_eq_true k.2.1
  · exact of_decide_eq_true k.2.2
theorem wsA {fs : List Int} {c : List Nat} {j x : Nat} {f : Int} (hn : fs[j]? = some f) (hx : c[j]? = some x) : (wsOf fs c)[j]? = some (tw f x) := by
  unfold wsOf
  rw [List.getElem?_zipWith, hn, hx]
theorem wsI {fs : List Int} {c : List Nat} {j : Nat} (h : c.length = fs.length) (hj : j < c.length) : wsOf fs (inc c j) = (wsOf fs c).set j (1 - (wsOf fs c).getD j 0) := by
  obtain ⟨f, hf⟩ : ∃ f, fs[j]? = some f := ⟨_, List.getElem?_eq_getElem (by omega)⟩
  obtain ⟨x, hx⟩ : ∃ x, c[j]? = some x := ⟨_, List.getElem?_eq_getElem hj⟩
  have e : (wsOf fs c).getD j 0 = tw f x := by rw [List.getD_eq_getElem?_getD, wsA hf hx]; rfl
  have ec : c.getD j 0 = x := by rw [List.getD_eq_getElem?_getD, hx]; rfl
  rw [e]
  refine List.ext_getElem? fun i => ?_
  unfold inc
  by_cases z : j = i
  · subst z
    rw [List.getElem?_set_self (by rw [wsOf_len h]; omega), wsA hf (x := x + 1) (by rw [List.getElem?_set_self hj, ec]), tw_succ]
  · rw [List.getElem?_set_ne z]
    unfold wsOf
    rw [List.getElem?_zipWith, List.getElem?_zipWith, List.getElem?_set_ne z]
theorem rem_next : ∀ (ns c : List Nat), c.length = ns.length → 0 < rem ns c → ∃ p, p ∈ nexts ns c
  | [], [], _, h => by simp [rem] at h
  | [], _ :: _, h, _ => by simp at h
  | _ :: _, [], h, _ => by simp at h
  | n :: r, x :: s, hl, h => by
    by_cases z : x < n
    · exact ⟨0, next_iff.mpr ⟨by simp, z⟩⟩
    · have h : 0 < (n - x) + rem r s := h
      obtain ⟨p, hp⟩ := rem_next r s (by simpa using hl) (by omega)
      obtain ⟨h1, h2⟩ := next_iff.mp hp
      exact ⟨p + 1, next_iff.mpr ⟨by simpa using h1, h2⟩⟩
theorem gr_par {bs : List Bool} {fs : List Int} {ns : List Nat} (par : Par bs) (f01 : Row01 fs) (lb : bs.length = 2 ^ fs.length) (l3 : fs.length ≤ 3) (ln : ns.length = fs.length) : ∀ (k : Nat) (c : List Nat), c.length = ns.length → rem ns c = k → gr bs fs ns c = (k : Int) := by
  intro k
  induction k with
  | zero =>
    intro c lc hk
    rw [gr_eq lc]
    have : nexts ns c = [] := by
      refine List.eq_nil_iff_forall_not_mem.mpr fun p hp => ?_
      obtain ⟨h1, h2⟩ := next_iff.mp hp
      have := rem_inc ns c p lc h1 h2
      omega
    rw [this]
    rfl
  | succ k ih =>
    intro c lc hk
    have wl : (wsOf fs c).length = fs.length := wsOf_len (by omega)
    have val : ∀ p ∈ nexts ns c, gr bs fs ns (inc c p) + xr (Wc bs fs c) (Wc bs fs (inc c p)) = ((k + 1 : Nat) : Int) := fun p hp => by
      obtain ⟨h1, h2⟩ := next_iff.mp hp
      have hr := rem_inc ns c p lc h1 h2
      rw [ih (inc c p) (by rw [inc_len]; exact lc) (by omega)]
      have ne : Wc bs fs (inc c p) ≠ Wc bs fs c := by
        unfold Wc
        rw [wsI (by omega) (by omega)]
        exact par _ (ws01 f01) (by rw [wl]; exact lb) (by omega) p (by omega)
      unfold xr
      rw [if_neg fun z => ne z.symm]
      omega
    obtain ⟨p, hp⟩ := rem_next ns c lc (by omega)
    rw [gr_eq lc]
    refine (mx0_of (fun y hy => ?_) (fun z => ?_) (fun _ => ⟨?_, fun y hy => ?_⟩)).symm
    · obtain ⟨q, hq, rfl⟩ := List.mem_map.mp hy
      rw [val q hq]
      omega
    · rw [List.map_eq_nil_iff] at z
      rw [z] at hp
      cases hp
    · exact List.mem_map.mpr ⟨p, hp, val p hp⟩
    · obtain ⟨q, hq, rfl⟩ := List.mem_map.mp hy
      rw [val q hq]
      exact Int.le_refl _
theorem rem_zeros : ∀ ns : List Nat, rem ns (zeros ns) = ns.sum
  | [] => rfl
  | n :: r => by
    show (n - 0) + rem r (zeros r) = n + r.sum
    rw [rem_zeros r]
    rfl
def stepU (ns : List Nat) (g : Gt) : List Nat := ns ++ [(pickN ns g.2).sum]
def sumsM (gs : List Gt) (ns : List Nat) : List Nat := gs.foldl stepU ns
theorem sumsM_snoc (gs : List Gt) (g : Gt) (ns : List Nat) : sumsM (gs ++ [g]) ns = stepU (sumsM gs ns) g := by
  unfold sumsM
  rw [List.foldl_append]
  rfl
theorem sumsM_len (gs : List Gt) (ns : List Nat) : (sumsM gs ns).length = ns.length + gs.length := by
  induction gs generalizing ns with
  | nil => rfl
  | cons g r ih =>
    show (sumsM r (stepU ns g)).length = _
    rw [ih]
    unfold stepU
    rw [List.length_append, List.length_cons]
    show ns.length + 1 + r.length = ns.length + (r.length + 1)
    omega
theorem nums_sums {fs : List Int} (f01 : ∀ x ∈ fs, x = 0 ∨ x = 1) : ∀ (gs : List Gt) (ns : List Nat), (∀ g ∈ gs, Par g.1 ∧ g.1.length = 2 ^ g.2.length ∧ g.2.length ≤ 3 ∧ ∀ i ∈ g.2, i < fs.length) → numsM fs gs ns = sumsM gs ns
  | [], ns, _ => rfl
  | g :: r, ns, h => by
    obtain ⟨h1, h2, h3, h4⟩ := h g (List.mem_cons_self ..)
    have e : stepN fs ns g = stepU ns g := by
      unfold stepN stepU numG
      have p01 : Row01 (pickI fs g.2) := fun x hx => by
        obtain ⟨i, hi, rfl⟩ := List.mem_map.mp hx
        have := h4 i hi
        refine f01 _ ?_
        rw [List.getD_eq_getElem?_getD, List.getElem?_eq_getElem this]
        exact List.getElem_mem _
      rw [gr_par h1 p01 (by rw [pickI_len]; exact h2) (by rw [pickI_len]; exact h3) (by rw [pickN_len, pickI_len]) _ (zeros (pickN ns g.2)) (zeros_le _).1 rfl, rem_zeros]
      rfl
    show numsM fs r (stepN fs ns g) = sumsM r (stepU ns g)
    rw [e]
    exact nums_sums f01 r _ fun g' hg' => h g' (List.mem_cons_of_mem _ hg')

end
end Gk

set_option Elab.async false
set_option linter.all false
set_option maxRecDepth 100000
set_option maxHeartbeats 1000000
set_option pp.maxSteps 1500
set_option pp.deepTerms false
namespace Gk
open PySem PySem.Spec PyProof.Rows L2
section
variable {P : Program} {w : World} {K : PySem.W.Frag} {mg : Str → Option Value} {base : Heap}
/-! ### drawn nets of parity gates -/
theorem none_of_frE {d l p : Addr} {H H' : Hp} {n : Int} (f : Fr d l H H') (D : DeckE H' d l n) (h : H' p = none) : H p = none := by
  have o := D.off h
  cases z : H p with
  | none => rfl
  | some u => rw [f _ _ o.1 o.2 z] at h; cases h
theorem natV_app (a b : List Nat) : natV (a ++ b) = natV a ++ natV b := by unfold natV; rw [List.map_append, List.map_append]
theorem nat_of {x : Int} (h : 0 ≤ x) : V.int x = V.int (Int.ofNat x.toNat) := by
  congr 1
  show x = ((x.toNat : Nat) : Int)
  omega
def sp_aimed (K : PySem.W.Frag) : Sp := fun vs H Q _ => ∃ (d l : Addr) (n : Int) (na : Addr) (ns : List Nat) (aim : Int), vs = [.ref d, .ref na, .int aim] ∧ DeckE H d l n ∧ n < 100000 ∧ H na = some (.lst (natV ns)) ∧ 1 ≤ ns.length ∧ ns.length ≤ 100 ∧ na ≠ d ∧ na ≠ l ∧ ∀ r H' ins, DeckE H' d l (n + 2) → Fr d l H H' → H' r = some (.tup (natV ins)) → 2 ≤ ins.length → ins.length ≤ 3 → (∀ i ∈ ins, i < ns.length) → Q (.ref r) H'
theorem ok_aimed (T : Tx K mg) : FnOk P w K mg base CX0 2 T.f_aimed T.fd_aimed ["_law_deck_here", "_law_numbers", "_law_aim"] (sp_aimed K) := by
  refine T.F_aimed.ok sc_aimed (fun vs H Q E h => ?_) (fun cdv A outer s H vs Q E hr h => ?_)
  · obtain ⟨d, l, n, na, ns, aim, rfl, _⟩ := h
    rfl
  · obtain ⟨d, l, n, na, ns, aim, rfl, D, hn, hna, n1, n100, nd, nl', q⟩ := h
    refine ⟨_, (pss_cons (ps_set (i := 3) sc_aimed.nd rfl (by first | exact .inl rfl | exact .inr rfl) (pe_lst (pa_cons (pe_call (ok_draw T) (hr.mono (by decide)) (by rfl) T.g_draw T.F_draw.kp T.b_draw .nil pass0 (pa_cons (pv 0) (pa_cons (pe_callB call_len_seq (by rfl) T.m_len PySem.boot_len (pa_cons (pv 1) pa_nil)) pa_nil))) (pa_cons (pe_call (ok_draw T) (hr.mono (by decide)) (by rfl) T.g_draw T.F_draw.kp T.b_draw .nil pass0 (pa_cons (pv 0) (pa_cons (pe_callB call_len_seq (by rfl) T.m_len PySem.boot_len (pa_cons (pv 1) pa_nil)) pa_nil))) pa_nil)))) (pss_cons (ps_set (i := 4) sc_aimed.nd rfl (by first | exact .inl rfl | exact .inr rfl) (pe_op op_sub (pe_op op_sub (pv 2) (pe_ix ix_list (pv 1) (pe_ix ix_list (pv 3) pe_int (fun _ _ => rfl)) (fun _ _ => rfl))) (pe_ix ix_list (pv 1) (pe_ix ix_list (pv 3) pe_int (fun _ _ => rfl)) (fun _ _ => rfl)))) (pss_one (ps_ret (pe_callTy call_tuple_of (by rfl) T.m_tuple (by decide +kernel) (pa_cons (pe_op op_cat (pv 3) (pe_slice sl_list (pe_lc (own := [("_law_wire", 5)]) (by rfl) sc_aimed.nd (pi_range1 (by rfl) T.m_range (pa_cons (pe_callB call_len_seq (by rfl) T.m_len PySem.boot_len (pa_cons (pv 1) pa_nil)) pa_nil)) (blkOk_by (own := [("_law_wire", 5)]) (N := ["_law_deck_here", "_law_numbers", "_law_aim", "_law_ins", "_law_lacks", "_law_wire"]) (sc := defScope s_aimed) (by decide +kernel)) (fun _ _ _ _ _ => (pg_name (i := 5) sc_aimed.nd rfl (by first | exact .inl rfl | exact .inr rfl))) (fun _ _ _ _ _ => (pts_one (pt_cmpR op_eq (pe_ix (show IxR _ (rIxL K) from ix_list) (pv 1) (pv 5) (fun _ _ => rfl)) (pv 4) (nomark _)))) (fun _ _ _ _ _ => (pv 5))) po_none (po_some pe_int))) pa_nil)))))), ?_⟩
    have sl : (16777216 : Nat) = sizeLine := by decide
    have nl := natV_len ns
    refine ⟨.ref d, rfl, .ref na, rfl, na, _, rfl, .inl (SqL.of hna), d, l, _, n, rfl, D, by omega, by omega, by omega, fun H1 v1 D1 fr1 a0 a1 => ?_⟩
    have hna1 := fr1 _ _ nd nl' hna
    refine ⟨.ref d, rfl, .ref na, rfl, na, _, rfl, .inl (SqL.of hna1), d, l, _, _, rfl, D1, by omega, by omega, by omega, fun H2 v2 D2 fr2 b0 b1 => ?_⟩
    have hna2 := fr2 _ _ nd nl' hna1
    refine ⟨sl2, fun I nI => ?_⟩
    have sI := same_upd (o := HO.lst [V.int v1, V.int v2]) nI
    have hI := upd_same (H := H2) (a := I) (o := .lst [V.int v1, V.int v2])
    have oI := D2.off nI
    have D3 := D2.same sI
    have fr3 : Fr d l H (upd H2 I (.lst [V.int v1, V.int v2])) := (fr1.trans fr2).trans (Fr.of sI)
    have hna3 := sI _ _ hna2
    show tSeq _ _ _ _ (upd H2 I (.lst [V.int v1, V.int v2]))
    generalize upd H2 I (.lst [V.int v1, V.int v2]) = H3 at hI D3 fr3 hna3 ⊢
    rw [nl] at a1 b1
    obtain ⟨x1, e1⟩ : ∃ x, atI (natV ns) v1 = some (.int x) := by
      obtain ⟨k, rfl⟩ := Int.eq_ofNat_of_zero_le a0
      exact ⟨_, atI_nat (natV_at (List.getElem?_eq_getElem (by omega)))⟩
    obtain ⟨x2, e2⟩ : ∃ x, atI (natV ns) v2 = some (.int x) := by
      obtain ⟨k, rfl⟩ := Int.eq_ofNat_of_zero_le b0
      exact ⟨_, atI_nat (natV_at (List.getElem?_eq_getElem (by omega)))⟩
    refine ⟨.int aim, rfl, .ref na, rfl, .ref I, rfl, I, _, 0, _, rfl, rfl, SqL.of hI, rfl, na, _, v1, _, rfl, rfl, SqL.of hna3, e1, _, _, rfl, rfl, .ref na, rfl, .ref I, rfl, I, _, 1, _, rfl, rfl, SqL.of hI, rfl, na, _, v2, _, rfl, rfl, SqL.of hna3, e2, _, _, rfl, rfl, ?_⟩
    refine ⟨.ref I, rfl, .ref na, rfl, na, _, rfl, .inl (SqL.of hna3), _, rfl, by omega, by omega, fun M nM => ?_⟩
    have oM := D3.off nM
    rw [nl]
    have en : ((ns.length : Nat) : Int).toNat = ns.length := by omega
    refine lc_range (lo := 0) (n := ((ns.length : Nat) : Int).toNat) (fun j H' => Same H3 (hd1 M H') ∧ ∃ acc : List Nat, H' M = some (.lst (natV acc)) ∧ acc.length ≤ j ∧ ∀ x ∈ acc, x < ns.length) ⟨hd1_of (same_upd nM) nM, [], upd_same, Nat.le_refl _, fun x hx => by cases hx⟩ ?_ ?_
    · rintro j H4 hj ⟨s4, acc, hM, la, lt⟩
      rw [en] at hj
      have ej : (0 : Int) + (j : Int) = (j : Int) := Int.zero_add _
      rw [ej]
      refine ⟨rfl, .ref na, rfl, .int (j : Nat), rfl, na, _, (j : Int), _, rfl, rfl, SqL.of (hd1_le _ _ (s4 _ _ hna3)), atI_nat (natV_at (List.getElem?_eq_getElem hj)), .int _, rfl, rfl, _, rfl, ite2 (fun _ => ?_) (fun _ => ?_)⟩
      · refine ⟨.int (j : Nat), rfl, _, hM, by rw [natV_len]; omega, s4.trans hd1_upd, acc ++ [j], ?_, by rw [List.length_append]; show acc.length + 1 ≤ j + 1; omega, fun x hx => ?_⟩
        · rw [upd_same, natV_app]
          rfl
        · rcases List.mem_append.mp hx with z | z
          · exact lt x z
          · rw [List.mem_singleton.mp z]; exact hj
      · exact ⟨s4, acc, hM, by omega, lt⟩
    · rintro H4 ⟨s4, acc, hM, la, lt⟩
      have s34 : Same H3 H4 := fun b o e => hd1_le _ _ (s4 _ _ e)
      refine ⟨1, rfl, M, _, rfl, SqL.of hM, fun p np => ?_⟩
      have cu : cutV (natV acc) none (some 1) = natV (acc.take 1) := by
        have := cut_to (xs := natV acc) (k := 1)
        rw [show ((1 : Nat) : Int) = 1 from rfl] at this
        rw [this]
        unfold natV
        rw [List.map_take, List.map_take]
      rw [cu]
      have sp := same_upd (o := HO.lst (natV (acc.take 1))) np
      have s35 := s34.trans sp
      have hI5 := s35 _ _ hI
      refine ⟨I, p, _, _, rfl, rfl, hI5, upd_same, by rw [natV_len, List.length_take]; show 2 + _ ≤ sizeLine; omega, fun u nu => ?_⟩
      have su := same_upd (o := HO.lst ([V.int v1, V.int v2] ++ natV (acc.take 1))) nu
      refine ⟨u, _, rfl, .inl ⟨SqL.of upd_same, fun t nt => ?_⟩⟩
      have st := same_upd (o := HO.tup ([V.int v1, V.int v2] ++ natV (acc.take 1))) nt
      have sA := (s35.trans su).trans st
      refine q t _ ([v1.toNat, v2.toNat] ++ acc.take 1) ((D3.same sA).mono (by omega)) (fr3.trans (Fr.of sA)) ?_ ?_ ?_ fun x hx => ?_
      · rw [upd_same, natV_app, nat_of a0, nat_of b0]
        rfl
      · rw [List.length_append]
        show 2 ≤ 2 + _
        omega
      · rw [List.length_append, List.length_take]
        show 2 + min 1 _ ≤ 3
        omega
      · rcases List.mem_append.mp hx with z | z
        · have : x = v1.toNat ∨ x = v2.toNat := by simpa using z
          rcases this with rfl | rfl <;> omega
        · exact lt x (List.mem_of_mem_take z)
def parTs : Nat → List (List Bool)
  | 1 => [[false, true], [true, false]]
  | 2 => [[false, true, true, false], [true, false, false, true]]
  | _ => [[false, true, true, false, true, false, false, true], [true, false, false, true, false, true, true, false]]
theorem parTs_ok {k : Nat} (h1 : 1 ≤ k) (h3 : k ≤ 3) : ∀ bs ∈ parTs k, Par bs ∧ bs.length = 2 ^ k := by
  have : k = 1 ∨ k = 2 ∨ k = 3 := by omega
  intro bs hb
  rcases this with rfl | rfl | rfl
  · have : bs = [false, true] ∨ bs = [true, false] := by simpa [parTs] using hb
    rcases this with rfl | rfl <;> exact ⟨par1 (by decide +kernel) rfl, rfl⟩
  · have : bs = [false, true, true, false] ∨ bs = [true, false, false, true] := by simpa [parTs] using hb
    rcases this with rfl | rfl <;> exact ⟨par2 (by decide +kernel) rfl, rfl⟩
  · have : bs = [false, true, true, false, true, false, false, true] ∨ bs = [true, false, false, true, false, true, true, false] := by simpa [parTs] using hb
    rcases this with rfl | rfl <;> exact ⟨par3 (by decide +kernel) rfl, rfl⟩
def vT (bs : List Bool) : V := .str (tabOf bs)
theorem NetOk.snoc {n : Nat} {gs : List Gt} {g : Gt} (h : NetOk n gs) (hg : GtOk (n + gs.length) g) : NetOk n (gs ++ [g]) := fun k g' e => by
  by_cases hk : k < gs.length
  · rw [List.getElem?_append_left hk] at e
    exact h k g' e
  · rw [List.getElem?_append_right (by omega)] at e
    cases hz : k - gs.length with
    | zero =>
      rw [hz] at e
      cases Option.some.inj e
      rw [show k = gs.length by omega]
      exact hg
    | succ j => rw [hz] at e; cases e
theorem noL_gDs : ∀ gs : List Gt, noLs (gs.map gD) = true
  | [] => rfl
  | g :: r => by
    have zi : ∀ ns : List Int, noLs (ns.map PyData.int) = true := fun ns => by
      induction ns with
      | nil => rfl
      | cons n t ih => show (true && noLs (t.map PyData.int)) = true; rw [ih]; rfl
    show ((true && (noLs ((g.2.map Int.ofNat).map PyData.int) && true)) && noLs (r.map gD)) = true
    rw [zi, noL_gDs r]
    rfl
theorem int_xr {x y : Int} : (if (!decide (V.int x = V.int y)) = true then (1 : Int) else 0) = Int.ofNat (xrN x y) := by
  unfold xrN
  by_cases e : x = y
  · rw [if_pos e, if_neg]
    · rfl
    · rw [e]; simp
  · rw [if_neg e, if_pos]
    · rfl
    · have : V.int x ≠ V.int y := fun z => e (by injection z)
      rw [decide_eq_false this]
      rfl
theorem sum_nat : ∀ l : List Nat, (l.map Int.ofNat).sum = Int.ofNat l.sum
  | [] => rfl
  | x :: r => by
    rw [List.map_cons, List.sum_cons, sum_nat r, List.sum_cons]
    rfl

end
end Gk

set_option Elab.async false
set_option linter.all false
set_option maxRecDepth 100000
set_option maxHeartbeats 1000000
set_option pp.maxSteps 1500
set_option pp.deepTerms false
namespace Gk
open PySem PySem.Spec PyProof.Rows L2
section
variable {P : Program} {w : World} {K : PySem.W.Frag} {mg : Str → Option Value} {base : Heap}
theorem row01_snoc {r : List Int} {x : Int} (h : Row01 r) (hx : x = 0 ∨ x = 1) : Row01 (r ++ [x]) := fun y hy => by
  rcases List.mem_append.mp hy with z | z
  · exact h y z
  · rw [List.mem_singleton.mp z]; exact hx
theorem TkAll.frE {H H' : Hp} {d l : Addr} {n : Int} {vs : List V} {gs : List Gt} (t : TkAll H vs (gs.map gD)) (D : DeckE H d l n) (f : Fr d l H H') : TkAll H' vs (gs.map gD) := t.ts (Ts.frE D f) (noL_gDs _)
theorem TkAll.putL {H : Hp} {a : Addr} {xs ys vs : List V} {gs : List Gt} (t : TkAll H vs (gs.map gD)) (h : H a = some (.lst xs)) : TkAll (upd H a (.lst ys)) vs (gs.map gD) := t.ts (fun b zs e => by rw [upd_ne (ne_of e h (by intro z; cases z))]; exact e) (noL_gDs _)
def sp_sums (K : PySem.W.Frag) : Sp := fun vs H Q _ => ∃ (d l : Addr) (n : Int), vs = [.ref d] ∧ DeckE H d l n ∧ n < 10000 ∧
  ∀ r H' nr cr ur m gs a b, DeckE H' d l (n + 150) → Fr d l H H' → H' r = some (.tup [.ref nr, .ref cr, .ref ur]) → Tk H' (.ref nr) (netD m gs) → Tk H' (.ref cr) (chD a b) → H' ur = some (.tup (natV (sumsM gs (inN a b)))) → a.length = b.length → 1 ≤ a.length → a.length ≤ 6 → Row01 a → Row01 b → gs.length ≤ 8 → NetOk a.length gs → (∀ g ∈ gs, Par g.1) → Q (.ref r) H'
set_option maxHeartbeats 4000000 in
theorem ok_sums (T : Tx K mg) : FnOk P w K mg base CX0 3 T.f_sums T.fd_sums ["_law_deck_here"] (sp_sums K) := by
  refine T.F_sums.ok sc_sums (fun vs H Q E h => ?_) (fun cdv A outer s H vs Q E hr h => ?_)
  · obtain ⟨d, l, n, rfl, _⟩ := h
    rfl
  · obtain ⟨d, l, n, rfl, D, hn, q⟩ := h
    refine ⟨_, (pss_cons (ps_set (i := 1) sc_sums.nd rfl (by first | exact .inl rfl | exact .inr rfl) (pe_op op_mul (pe_ix ix_list (pe_lst (pa_cons pe_int (pa_cons pe_int (pa_cons pe_int (pa_cons pe_int pa_nil))))) (pe_call (ok_draw T) (hr.mono (by decide)) (by rfl) T.g_draw T.F_draw.kp T.b_draw .nil pass0 (pa_cons (pv 0) (pa_cons pe_int pa_nil))) (fun _ _ => rfl)) (pe_call (ok_draw T) (hr.mono (by decide)) (by rfl) T.g_draw T.F_draw.kp T.b_draw .nil pass0 (pa_cons (pv 0) (pa_cons pe_int pa_nil))))) (pss_cons (ps_set (i := 2) sc_sums.nd rfl (by first | exact .inl rfl | exact .inr rfl) (pe_op op_add pe_int (pe_call (ok_draw T) (hr.mono (by decide)) (by rfl) T.g_draw T.F_draw.kp T.b_draw .nil pass0 (pa_cons (pv 0) (pa_cons pe_int pa_nil))))) (pss_cons (ps_set (i := 3) sc_sums.nd rfl (by first | exact .inl rfl | exact .inr rfl) (pe_lc (own := [("_law_k", 8)]) (by rfl) sc_sums.nd (pi_range1 (by rfl) T.m_range (pa_cons (pv 2) pa_nil)) (blkOk_by (own := [("_law_k", 8)]) (N := ["_law_deck_here", "_law_aim", "_law_many", "_law_one", "_law_other", "_law_numbers", "_law_gates", "_law_last", "_law_k", "_law_ins", "_law_table", "_law_worth", "_law_j", "_law_wire"]) (sc := defScope s_sums) (by decide +kernel)) (fun _ _ _ _ _ => (pg_name (i := 8) sc_sums.nd rfl (by first | exact .inl rfl | exact .inr rfl))) (fun _ _ _ _ _ => pts_nil) (fun _ _ _ _ _ => (pe_call (ok_draw T) (hr.mono (by decide)) (by rfl) T.g_draw T.F_draw.kp T.b_draw .nil pass0 (pa_cons (pv 0) (pa_cons pe_int pa_nil)))))) (pss_cons (ps_set (i := 4) sc_sums.nd rfl (by first | exact .inl rfl | exact .inr rfl) (pe_lc (own := [("_law_worth", 11)]) (by rfl) sc_sums.nd (pi_list (pv 3)) (blkOk_by (own := [("_law_worth", 11)]) (N := ["_law_deck_here", "_law_aim", "_law_many", "_law_one", "_law_other", "_law_numbers", "_law_gates", "_law_last", "_law_k", "_law_ins", "_law_table", "_law_worth", "_law_j", "_law_wire"]) (sc := defScope s_sums) (by decide +kernel)) (fun _ _ _ _ _ => (pg_name (i := 11) sc_sums.nd rfl (by first | exact .inl rfl | exact .inr rfl))) (fun _ _ _ _ _ => pts_nil) (fun _ _ _ _ _ => (pe_op op_sub pe_int (pv 11))))) (C8.pss_cut (ps_if (pt_cmpR op_eq (pe_call (ok_draw T) (hr.mono (by decide)) (by rfl) T.g_draw T.F_draw.kp T.b_draw .nil pass0 (pa_cons (pv 0) (pa_cons pe_int pa_nil))) pe_int (nomark _)) (pss_one (ps_set (i := 4) sc_sums.nd rfl (by first | exact .inl rfl | exact .inr rfl) (pe_lc (own := [("_law_k", 8)]) (by rfl) sc_sums.nd (pi_range1 (by rfl) T.m_range (pa_cons (pv 2) pa_nil)) (blkOk_by (own := [("_law_k", 8)]) (N := ["_law_deck_here", "_law_aim", "_law_many", "_law_one", "_law_other", "_law_numbers", "_law_gates", "_law_last", "_law_k", "_law_ins", "_law_table", "_law_worth", "_law_j", "_law_wire"]) (sc := defScope s_sums) (by decide +kernel)) (fun _ _ _ _ _ => (pg_name (i := 8) sc_sums.nd rfl (by first | exact .inl rfl | exact .inr rfl))) (fun _ _ _ _ _ => pts_nil) (fun _ _ _ _ _ => (pe_call (ok_draw T) (hr.mono (by decide)) (by rfl) T.g_draw T.F_draw.kp T.b_draw .nil pass0 (pa_cons (pv 0) (pa_cons pe_int pa_nil))))))) pss_nil) (pss_cons (ps_set (i := 5) sc_sums.nd rfl (by first | exact .inl rfl | exact .inr rfl) (pe_lc (own := [("_law_k", 8)]) (by rfl) sc_sums.nd (pi_range1 (by rfl) T.m_range (pa_cons (pv 2) pa_nil)) (blkOk_by (own := [("_law_k", 8)]) (N := ["_law_deck_here", "_law_aim", "_law_many", "_law_one", "_law_other", "_law_numbers", "_law_gates", "_law_last", "_law_k", "_law_ins", "_law_table", "_law_worth", "_law_j", "_law_wire"]) (sc := defScope s_sums) (by decide +kernel)) (fun _ _ _ _ _ => (pg_name (i := 8) sc_sums.nd rfl (by first | exact .inl rfl | exact .inr rfl))) (fun _ _ _ _ _ => pts_nil) (fun _ _ _ _ _ => (pe_callTy call_int1 (by rfl) T.m_int (by decide +kernel) (pa_cons (pe_cmpR op_ne (pe_ix (show IxR _ (rIxL K) from ix_list) (pv 3) (pv 8) (fun _ _ => rfl)) (pe_ix (show IxR _ (rIxL K) from ix_list) (pv 4) (pv 8) (fun _ _ => rfl)) (nomark _)) pa_nil))))) (pss_cons (ps_set (i := 6) sc_sums.nd rfl (by first | exact .inl rfl | exact .inr rfl) (pe_lst pa_nil)) (pss_cons (ps_set (i := 7) sc_sums.nd rfl (by first | exact .inl rfl | exact .inr rfl) (pe_op op_add pe_int (pe_call (ok_draw T) (hr.mono (by decide)) (by rfl) T.g_draw T.F_draw.kp T.b_draw .nil pass0 (pa_cons (pv 0) (pa_cons pe_int pa_nil))))) (pss_cons (ps_for PassesOwn.never rfl (pi_range1 (by rfl) T.m_range (pa_cons (pv 7) pa_nil)) (pg_name (i := 8) sc_sums.nd rfl (by first | exact .inl rfl | exact .inr rfl)) (pss_cons (ps_set (i := 9) sc_sums.nd rfl (by first | exact .inl rfl | exact .inr rfl) (pe_callTy call_tuple_of (by rfl) T.m_tuple (by decide +kernel) (pa_cons (pe_lc (own := [("_law_j", 12)]) (by rfl) sc_sums.nd (pi_range1 (by rfl) T.m_range (pa_cons (pe_op op_add pe_int (pe_call (ok_draw T) (hr.mono (by decide)) (by rfl) T.g_draw T.F_draw.kp T.b_draw .nil pass0 (pa_cons (pv 0) (pa_cons pe_int pa_nil)))) pa_nil)) (blkOk_by (own := [("_law_j", 12)]) (N := ["_law_deck_here", "_law_aim", "_law_many", "_law_one", "_law_other", "_law_numbers", "_law_gates", "_law_last", "_law_k", "_law_ins", "_law_table", "_law_worth", "_law_j", "_law_wire"]) (sc := defScope s_sums) (by decide +kernel)) (fun _ _ _ _ _ => (pg_name (i := 12) sc_sums.nd rfl (by first | exact .inl rfl | exact .inr rfl))) (fun _ _ _ _ _ => pts_nil) (fun _ _ _ _ _ => (pe_call (ok_draw T) (hr.mono (by decide)) (by rfl) T.g_draw T.F_draw.kp T.b_draw .nil pass0 (pa_cons (pv 0) (pa_cons (pe_op op_add (pv 2) (pv 8)) pa_nil))))) pa_nil))) (C8.pss_cut (ps_if (pw_and (pt_cmpR op_eq (pe_op op_add (pv 8) pe_int) (pv 7) (nomark _)) (pw_and1 (pt_cmpR op_gt (pv 1) pe_int (nomark _)))).pt (pss_one (ps_set (i := 9) sc_sums.nd rfl (by first | exact .inl rfl | exact .inr rfl) (pe_call (ok_aimed T) (hr.mono (by decide)) (by rfl) T.g_aimed T.F_aimed.kp T.b_aimed .nil pass0 (pa_cons (pv 0) (pa_cons (pv 5) (pa_cons (pv 1) pa_nil)))))) pss_nil) (pss_cons (ps_set (i := 10) sc_sums.nd rfl (by first | exact .inl rfl | exact .inr rfl) (pe_ix ix_list (pe_ix ix_list (pe_lst (pa_cons (pe_lst (pa_cons pe_str (pa_cons pe_str pa_nil))) (pa_cons (pe_lst (pa_cons pe_str (pa_cons pe_str pa_nil))) (pa_cons (pe_lst (pa_cons pe_str (pa_cons pe_str pa_nil))) pa_nil)))) (pe_op op_sub (pe_callB call_len_seq (by rfl) T.m_len PySem.boot_len (pa_cons (pv 9) pa_nil)) pe_int) (fun _ _ => rfl)) (pe_call (ok_draw T) (hr.mono (by decide)) (by rfl) T.g_draw T.F_draw.kp T.b_draw .nil pass0 (pa_cons (pv 0) (pa_cons pe_int pa_nil))) (fun _ _ => rfl))) (pss_cons (ps_expr (pe_bm PySem.F.plainAttrs_list PySem.F.slot_list_append PySem.F.type_list_append mt_append (pv 6) (pa_cons (pe_tup (pa_cons (pv 10) (pa_cons (pv 9) pa_nil))) pa_nil))) (pss_one (ps_expr (pe_bm PySem.F.plainAttrs_list PySem.F.slot_list_append PySem.F.type_list_append mt_append (pv 5) (pa_cons (pe_callB (cr_sum rfl) (by rfl) T.m_sum (by decide +kernel) (pa_cons (pe_lc (own := [("_law_wire", 13)]) (by rfl) sc_sums.nd (pi_tup (pv 9)) (blkOk_by (own := [("_law_wire", 13)]) (N := ["_law_deck_here", "_law_aim", "_law_many", "_law_one", "_law_other", "_law_numbers", "_law_gates", "_law_last", "_law_k", "_law_ins", "_law_table", "_law_worth", "_law_j", "_law_wire"]) (sc := defScope s_sums) (by decide +kernel)) (fun _ _ _ _ _ => (pg_name (i := 13) sc_sums.nd rfl (by first | exact .inl rfl | exact .inr rfl))) (fun _ _ _ _ _ => pts_nil) (fun _ _ _ _ _ => (pe_ix (show IxR _ (rIxL K) from ix_list) (pv 5) (pv 13) (fun _ _ => rfl)))) pa_nil)) pa_nil))))))))) (pss_one (ps_ret (pe_tup (pa_cons (pe_tup (pa_cons (pv 2) (pa_cons (pe_callTy call_tuple_of (by rfl) T.m_tuple (by decide +kernel) (pa_cons (pv 6) pa_nil)) pa_nil))) (pa_cons (pe_tup (pa_cons (pe_callTy call_tuple_of (by rfl) T.m_tuple (by decide +kernel) (pa_cons (pv 3) pa_nil)) (pa_cons (pe_callTy call_tuple_of (by rfl) T.m_tuple (by decide +kernel) (pa_cons (pv 4) pa_nil)) pa_nil))) (pa_cons (pe_callTy call_tuple_of (by rfl) T.m_tuple (by decide +kernel) (pa_cons (pv 5) pa_nil)) pa_nil))))))))))))))), ?_⟩
    have sl : (16777216 : Nat) = sizeLine := by decide
    refine ⟨sl4, fun p0 n0 => ?_⟩
    have s0 := same_upd (o := HO.lst [V.int 0, V.int 11, V.int 12, V.int 13]) n0
    have o0 := D.off n0
    refine ⟨.ref d, rfl, d, l, 4, n, rfl, D.same s0, by omega, by decide, by decide, fun H1 v D1 fr1 v0 v1 => ?_⟩
    obtain ⟨y, hy, y0, y13⟩ : ∃ y : Int, atI [V.int 0, V.int 11, V.int 12, V.int 13] v = some (.int y) ∧ 0 ≤ y ∧ y ≤ 13 := by
      have : v = 0 ∨ v = 1 ∨ v = 2 ∨ v = 3 := by omega
      rcases this with rfl | rfl | rfl | rfl
      · exact ⟨0, rfl, by decide, by decide⟩
      · exact ⟨11, rfl, by decide, by decide⟩
      · exact ⟨12, rfl, by decide, by decide⟩
      · exact ⟨13, rfl, by decide, by decide⟩
    refine ⟨p0, _, v, _, rfl, rfl, SqL.of (fr1 _ _ o0.1 o0.2 upd_same), hy, .ref d, rfl, d, l, 2, _, rfl, D1, by omega, by decide, by decide, fun H2 u D2 fr2 u0 u1 => ⟨_, _, rfl, rfl, .inl ⟨by omega, by omega⟩, ?_⟩⟩
    have frA : Fr d l H H2 := ((Fr.of s0).trans fr1).trans fr2
    obtain ⟨am, ham⟩ : ∃ am, am = y * u := ⟨_, rfl⟩
    have eam : (fun i j : Int => V.int (i * j)) y u = V.int am := by show V.int (y * u) = _; rw [ham]
    rw [eam]
    clear eam ham
    refine ⟨.ref d, rfl, d, l, 6, _, rfl, D2, by omega, by decide, by decide, fun H3 x D3 fr3 x0 x1 => ⟨_, _, rfl, rfl, ?_⟩⟩
    obtain ⟨m, hm, m1, m6⟩ : ∃ m : Nat, 1 + x = (m : Int) ∧ 1 ≤ m ∧ m ≤ 6 := ⟨(1 + x).toNat, by omega, by omega, by omega⟩
    have ec : (fun i j : Int => V.int (i + j)) 1 x = V.int m := by show V.int (1 + x) = _; rw [hm]
    rw [ec]
    clear ec hm
    have em : ((m : Nat) : Int).toNat = m := by omega
    have frB := frA.trans fr3
    -- one
    refine ⟨.int m, rfl, m, rfl, by omega, by omega, fun OA nOA => ?_⟩
    have oA := D3.off nOA
    have nOA0 := none_of_frE frB D3 nOA
    refine lc_range (lo := 0) (n := (m : Int).toNat) (fun j H' => DeckE H' d l (n + 3 + j) ∧ Fr d l H H' ∧ ∃ a : List Int, H' OA = some (.lst (a.map V.int)) ∧ a.length = j ∧ Row01 a)
      ⟨(D3.same (same_upd nOA)).mono (by omega), frB.trans (Fr.new nOA), [], upd_same, rfl, fun x hx => by cases hx⟩ ?_ ?_
    · rintro j H4 hj ⟨D4, fr4, a, hA, la, a01⟩
      refine ⟨rfl, .ref d, rfl, d, l, 2, _, rfl, D4, by omega, by decide, by decide, fun H5 z D5 fr5 z0 z1 => ?_⟩
      refine ⟨_, fr5 _ _ oA.1 oA.2 hA, by rw [List.length_map]; omega, (D5.upd oA.1 oA.2).mono (by push_cast; omega), Fr.upd (fr4.trans fr5) nOA0, a ++ [z], by rw [upd_same, List.map_append]; rfl, by rw [List.length_append, la]; rfl, row01_snoc a01 (by omega)⟩
    rintro H4 ⟨D4, fr4, a, hA, la, a01⟩
    rw [em] at la
    have D4 : DeckE H4 d l (n + 9) := D4.mono (by omega)
    -- other
    refine ⟨.ref OA, rfl, OA, rfl, ⟨_, SqL.of hA⟩, fun OB nOB => ?_⟩
    have oB := D4.off nOB
    have nOB0 := none_of_frE fr4 D4 nOB
    have AB : OA ≠ OB := ne_of_none hA nOB
    refine lc_list (K := K) (a := OA) (xs := a.map V.int) (fun j H' => DeckE H' d l (n + 9) ∧ Fr d l H H' ∧ H' OA = some (.lst (a.map V.int)) ∧ ∃ b : List Int, H' OB = some (.lst (b.map V.int)) ∧ b.length = j ∧ Row01 b)
      ⟨D4.same (same_upd nOB), fr4.trans (Fr.new nOB), same_upd nOB _ _ hA, [], upd_same, rfl, fun x hx => by cases hx⟩ (fun i H' _ hP => SqL.of hP.2.2.1) ?_ ?_
    · rintro j x H5 hx ⟨D5, fr5, hA5, b, hB, lb, b01⟩
      obtain ⟨u', hu', rfl⟩ := vints_at hx
      have := a01 u' (List.mem_of_getElem? hu')
      have hjl := (List.getElem?_eq_some_iff.mp hu').1
      refine ⟨rfl, .int u', rfl, _, _, rfl, rfl, _, hB, by rw [List.length_map]; omega, D5.upd oB.1 oB.2, Fr.upd fr5 nOB0, by rw [upd_ne AB]; exact hA5, b ++ [1 - u'], by rw [upd_same, List.map_append]; rfl, by rw [List.length_append, lb]; rfl, row01_snoc b01 (by omega)⟩
    rintro H5 ⟨D5, fr5, hA5, b, hB, lb, b01⟩
    rw [List.length_map] at lb
    -- perhaps drawn anew
    refine ⟨fun σ H' => ∃ (OB : Addr) (b : List Int), σ = [some (.ref d), some (.int am), some (.int m), some (.ref OA), some (.ref OB), none, none, none, none, none, none, none, none, none] ∧ DeckE H' d l (n + 16) ∧ Fr d l H H' ∧ H' OA = some (.lst (a.map V.int)) ∧ H' OB = some (.lst (b.map V.int)) ∧ b.length = m ∧ Row01 b ∧ OB ≠ d ∧ OB ≠ l, ?_, ?_⟩
    · refine ⟨.ref d, rfl, d, l, 4, _, rfl, D5, by omega, by decide, by decide, fun H6 z D6 fr6 z0 z1 => ⟨rfl, _, rfl, ite2 (fun _ => ?_) (fun _ => ?_)⟩⟩
      · have hA6 := fr6 _ _ oA.1 oA.2 hA5
        have frC := fr5.trans fr6
        refine ⟨.int m, rfl, m, rfl, by omega, by omega, fun OC nOC => ?_⟩
        have oC := D6.off nOC
        have nOC0 := none_of_frE frC D6 nOC
        have AC : OA ≠ OC := ne_of_none hA6 nOC
        refine lc_range (lo := 0) (n := (m : Int).toNat) (fun j H' => DeckE H' d l (n + 10 + j) ∧ Fr d l H H' ∧ H' OA = some (.lst (a.map V.int)) ∧ ∃ b : List Int, H' OC = some (.lst (b.map V.int)) ∧ b.length = j ∧ Row01 b)
          ⟨(D6.same (same_upd nOC)).mono (by omega), frC.trans (Fr.new nOC), same_upd nOC _ _ hA6, [], upd_same, rfl, fun x hx => by cases hx⟩ ?_ ?_
        · rintro j H7 hj ⟨D7, fr7, hA7, b, hC, lb', b01'⟩
          refine ⟨rfl, .ref d, rfl, d, l, 2, _, rfl, D7, by omega, by decide, by decide, fun H8 w' D8 fr8 w0 w1 => ?_⟩
          refine ⟨_, fr8 _ _ oC.1 oC.2 hC, by rw [List.length_map]; omega, (D8.upd oC.1 oC.2).mono (by push_cast; omega), Fr.upd (fr7.trans fr8) nOC0, by rw [upd_ne AC]; exact fr8 _ _ oA.1 oA.2 hA7, b ++ [w'], by rw [upd_same, List.map_append]; rfl, by rw [List.length_append, lb']; rfl, row01_snoc b01' (by omega)⟩
        · rintro H7 ⟨D7, fr7, hA7, b, hC, lb', b01'⟩
          rw [em] at lb'
          exact ⟨OC, b, rfl, D7.mono (by omega), fr7, hA7, hC, lb', b01', oC⟩
      · exact ⟨OB, b, rfl, D6.mono (by omega), fr5.trans fr6, fr6 _ _ oA.1 oA.2 hA5, fr6 _ _ oB.1 oB.2 hB, by omega, b01, oB⟩
    clear lb b01 hB oB nOB0 AB nOB fr5 hA5 D5 H5 b OB
    rintro σ H5 ⟨OB, b, rfl, D5, fr5, hA5, hB, lb, b01, oB⟩
    have el : a.length = b.length := by omega
    have il := inN_len el
    -- numbers
    refine ⟨.int m, rfl, m, rfl, by omega, by omega, fun NL nNL => ?_⟩
    have oN := D5.off nNL
    have nN0 := none_of_frE fr5 D5 nNL
    have AN : OA ≠ NL := ne_of_none hA5 nNL
    have BN : OB ≠ NL := ne_of_none hB nNL
    refine lc_range (lo := 0) (n := (m : Int).toNat) (fun j H' => Same H5 (hd1 NL H') ∧ H' NL = some (.lst (natV ((inN a b).take j)))) ⟨hd1_of (same_upd nNL) nNL, upd_same⟩ ?_ ?_
    · rintro j H6 hj ⟨s6, hN⟩
      rw [em] at hj
      have ej : (0 : Int) + (j : Int) = (j : Int) := Int.zero_add _
      rw [ej]
      obtain ⟨p, hp⟩ : ∃ p, a[j]? = some p := ⟨_, List.getElem?_eq_getElem (by omega)⟩
      obtain ⟨r, hr'⟩ : ∃ r, b[j]? = some r := ⟨_, List.getElem?_eq_getElem (by omega)⟩
      have hin : (inN a b)[j]? = some (xrN p r) := by unfold inN; rw [List.getElem?_zipWith, hp, hr']
      refine ⟨rfl, .ref OA, rfl, .int (j : Nat), rfl, OA, _, _, _, rfl, rfl, SqL.of (hd1_le _ _ (s6 _ _ hA5)), atI_nat (by rw [List.getElem?_map, hp]; rfl), .ref OB, rfl, .int (j : Nat), rfl, OB, _, _, _, rfl, rfl, SqL.of (hd1_le _ _ (s6 _ _ hB)), atI_nat (by rw [List.getElem?_map, hr']; rfl), rfl, .inr ⟨_, rfl, ?_⟩⟩
      refine ⟨_, hN, by rw [natV_len, List.length_take]; omega, s6.trans hd1_upd, ?_⟩
      rw [upd_same, List.take_add_one, hin, int_xr]
      show some (HO.lst (_ ++ [_])) = some (HO.lst (natV (_ ++ [_])))
      rw [natV_app]
      rfl
    rintro H6 ⟨s6, hN⟩
    rw [em, List.take_of_length_le (by omega)] at hN
    have s56 : Same H5 H6 := fun b o e => hd1_le _ _ (s6 _ _ e)
    have D6 := D5.same s56
    have fr6 := fr5.trans (Fr.of (d := d) (l := l) s56)
    have hA6 := s56 _ _ hA5
    have hB6 := s56 _ _ hB
    clear s6 nNL s56 D5 fr5 hA5 hB
    -- gates
    refine ⟨Nat.zero_le _, fun GL nGL => ?_⟩
    have oG := D6.off nGL
    have nG0 := none_of_frE fr6 D6 nGL
    have sG := same_upd (o := HO.lst []) nGL
    have AG : OA ≠ GL := ne_of_none hA6 nGL
    have BG : OB ≠ GL := ne_of_none hB6 nGL
    have NG : NL ≠ GL := ne_of_none hN nGL
    have hG := upd_same (H := H6) (a := GL) (o := .lst [])
    have D7 := D6.same sG
    have fr7 := fr6.trans (Fr.of (d := d) (l := l) sG)
    have hA7 := sG _ _ hA6
    have hB7 := sG _ _ hB6
    have hN7 := sG _ _ hN
    show tSeq _ _ _ _ (upd H6 GL (.lst []))
    generalize upd H6 GL (.lst []) = H7 at hG D7 fr7 hA7 hB7 hN7 ⊢
    refine ⟨.ref d, rfl, d, l, 8, _, rfl, D7, by omega, by decide, by decide, fun H8 z D8 fr8 z0 z1 => ⟨_, _, rfl, rfl, ?_⟩⟩
    obtain ⟨L, hL, L1, L8⟩ : ∃ L : Nat, 1 + z = (L : Int) ∧ 1 ≤ L ∧ L ≤ 8 := ⟨(1 + z).toNat, by omega, by omega, by omega⟩
    have eL : (fun i j : Int => V.int (i + j)) 1 z = V.int L := by show V.int (1 + z) = _; rw [hL]
    rw [eL]
    clear eL hL
    have eLn : ((L : Nat) : Int).toNat = L := by omega
    refine ⟨.int L, rfl, L, rfl, by omega, by omega, ?_⟩
    rw [eLn]
    refine for_range (lo := 0) (n := L) (fun i σ H' => ∃ (y8 y9 y10 : Option V) (zs : List V) (gs : List Gt), σ = [some (.ref d), some (.int am), some (.int m), some (.ref OA), some (.ref OB), some (.ref NL), some (.ref GL), some (.int L), y8, y9, y10, none, none, none] ∧ DeckE H' d l (n + 17 + 10 * i) ∧ Fr d l H H' ∧ H' OA = some (.lst (a.map V.int)) ∧ H' OB = some (.lst (b.map V.int)) ∧ H' NL = some (.lst (natV (sumsM gs (inN a b)))) ∧ H' GL = some (.lst zs) ∧ TkAll H' zs (gs.map gD) ∧ gs.length = i ∧ NetOk m gs ∧ ∀ g ∈ gs, Par g.1)
      ⟨_, _, _, [], [], rfl, D8.mono (by omega), fr7.trans fr8, fr8 _ _ oA.1 oA.2 hA7, fr8 _ _ oB.1 oB.2 hB7, fr8 _ _ oN.1 oN.2 hN7, fr8 _ _ oG.1 oG.2 hG, .nil, rfl, fun k g e => by simp at e, fun g hg => by cases hg⟩ ?_ ?_
    · rintro i σ H9 hi ⟨y8, y9, y10, zs, gs, rfl, D9, fr9, hA9, hB9, hN9, hG9, tz, lg, ok, par⟩
      have ei : (0 : Int) + (i : Int) = (i : Int) := Int.zero_add _
      rw [ei]
      have ns_l : (sumsM gs (inN a b)).length = m + i := by rw [sumsM_len, il, lg, la]
      -- ins drawn
      refine ⟨.ref d, rfl, d, l, 3, _, rfl, D9, by omega, by decide, by decide, fun H10 c D10 fr10 c0 c1 => ⟨_, _, rfl, rfl, _, rfl, by omega, by omega, fun I nI => ?_⟩⟩
      have oI := D10.off nI
      have frD := fr9.trans fr10
      have nI0 := none_of_frE frD D10 nI
      have hA10 := fr10 _ _ oA.1 oA.2 hA9
      have hB10 := fr10 _ _ oB.1 oB.2 hB9
      have hN10 := fr10 _ _ oN.1 oN.2 hN9
      have hG10 := fr10 _ _ oG.1 oG.2 hG9
      have tz10 := tz.frE D9 fr10
      have nIs : OA ≠ I ∧ OB ≠ I ∧ NL ≠ I ∧ GL ≠ I := ⟨ne_of_none hA10 nI, ne_of_none hB10 nI, ne_of_none hN10 nI, ne_of_none hG10 nI⟩
      refine lc_range (lo := 0) (n := (1 + c : Int).toNat) (fun j H' => DeckE H' d l (n + 18 + 10 * i + j) ∧ Fr d l H H' ∧ H' OA = some (.lst (a.map V.int)) ∧ H' OB = some (.lst (b.map V.int)) ∧ H' NL = some (.lst (natV (sumsM gs (inN a b)))) ∧ H' GL = some (.lst zs) ∧ TkAll H' zs (gs.map gD) ∧ ∃ ws : List Nat, H' I = some (.lst (natV ws)) ∧ ws.length = j ∧ ∀ x ∈ ws, x < m + i)
        ⟨(D10.same (same_upd nI)).mono (by omega), frD.trans (Fr.new nI), same_upd nI _ _ hA10, same_upd nI _ _ hB10, same_upd nI _ _ hN10, same_upd nI _ _ hG10, tz10.same (same_upd nI), [], upd_same, rfl, fun x hx => by cases hx⟩ ?_ ?_
      · rintro j H11 hj ⟨D11, fr11, hA11, hB11, hN11, hG11, tz11, ws, hI, lw, wlt⟩
        refine ⟨rfl, .ref d, rfl, .int m, rfl, .int (i : Nat), rfl, _, _, rfl, rfl, d, l, _, _, rfl, D11, by omega, by omega, by omega, fun H12 x D12 fr12 x0 x1 => ?_⟩
        have hI12 := fr12 _ _ oI.1 oI.2 hI
        refine ⟨_, hI12, by rw [natV_len]; omega, (D12.upd oI.1 oI.2).mono (by push_cast; omega), Fr.upd (fr11.trans fr12) nI0, by rw [upd_ne nIs.1]; exact fr12 _ _ oA.1 oA.2 hA11, by rw [upd_ne nIs.2.1]; exact fr12 _ _ oB.1 oB.2 hB11, by rw [upd_ne nIs.2.2.1]; exact fr12 _ _ oN.1 oN.2 hN11, by rw [upd_ne nIs.2.2.2]; exact fr12 _ _ oG.1 oG.2 hG11, (tz11.frE D11 fr12).putL hI12, ws ++ [x.toNat], ?_, by rw [List.length_append, lw]; rfl, fun y hy => ?_⟩
        · rw [upd_same, natV_app, nat_of x0]
          rfl
        · rcases List.mem_append.mp hy with z | z
          · exact wlt y z
          · rw [List.mem_singleton.mp z]; omega
      rintro H11 ⟨D11, fr11, hA11, hB11, hN11, hG11, tz11, ws, hI, lw, wlt⟩
      have D11 : DeckE H11 d l (n + 21 + 10 * i) := D11.mono (by omega)
      refine ⟨I, _, rfl, .inl ⟨SqL.of hI, fun ti nti => ?_⟩⟩
      have sti := same_upd (o := HO.tup (natV ws)) nti
      have oti := D11.off nti
      -- perhaps aimed
      refine ⟨fun σ H' => ∃ (ti : Addr) (ws : List Nat), σ = [some (.ref d), some (.int am), some (.int m), some (.ref OA), some (.ref OB), some (.ref NL), some (.ref GL), some (.int L), some (.int (i : Nat)), some (.ref ti), y10, none, none, none] ∧ DeckE H' d l (n + 23 + 10 * i) ∧ Fr d l H H' ∧ H' OA = some (.lst (a.map V.int)) ∧ H' OB = some (.lst (b.map V.int)) ∧ H' NL = some (.lst (natV (sumsM gs (inN a b)))) ∧ H' GL = some (.lst zs) ∧ TkAll H' zs (gs.map gD) ∧ H' ti = some (.tup (natV ws)) ∧ 1 ≤ ws.length ∧ ws.length ≤ 3 ∧ ∀ x ∈ ws, x < m + i, ?_, ?_⟩
      · have Dt := D11.same sti
        have frt := fr11.trans (Fr.of (d := d) (l := l) sti)
        have keep : ∃ (ti' : Addr) (ws' : List Nat), [some (V.ref d), some (.int am), some (.int m), some (.ref OA), some (.ref OB), some (.ref NL), some (.ref GL), some (.int L), some (.int (i : Nat)), some (.ref ti), y10, none, none, none] = [some (V.ref d), some (.int am), some (.int m), some (.ref OA), some (.ref OB), some (.ref NL), some (.ref GL), some (.int L), some (.int (i : Nat)), some (.ref ti'), y10, none, none, none] ∧ DeckE (upd H11 ti (.tup (natV ws))) d l (n + 23 + 10 * i) ∧ Fr d l H (upd H11 ti (.tup (natV ws))) ∧ (upd H11 ti (.tup (natV ws))) OA = some (.lst (a.map V.int)) ∧ (upd H11 ti (.tup (natV ws))) OB = some (.lst (b.map V.int)) ∧ (upd H11 ti (.tup (natV ws))) NL = some (.lst (natV (sumsM gs (inN a b)))) ∧ (upd H11 ti (.tup (natV ws))) GL = some (.lst zs) ∧ TkAll (upd H11 ti (.tup (natV ws))) zs (gs.map gD) ∧ (upd H11 ti (.tup (natV ws))) ti' = some (.tup (natV ws')) ∧ 1 ≤ ws'.length ∧ ws'.length ≤ 3 ∧ ∀ x ∈ ws', x < m + i :=
          ⟨ti, ws, rfl, Dt.mono (by omega), frt, sti _ _ hA11, sti _ _ hB11, sti _ _ hN11, sti _ _ hG11, tz11.same sti, upd_same, by omega, by omega, wlt⟩
        refine ⟨.int (i : Nat), rfl, _, _, rfl, rfl, .int L, rfl, rfl, _, rfl, ite2 (fun _ => ?_) (fun _ => ?_)⟩
        · refine ⟨.int am, rfl, _, _, rfl, rfl, _, rfl, ite2 (fun _ => ?_) (fun _ => keep)⟩
          refine ⟨.ref d, rfl, .ref NL, rfl, .int am, rfl, d, l, _, NL, sumsM gs (inN a b), am, rfl, Dt, by omega, sti _ _ hN11, by omega, by omega, oN.1, oN.2, fun r H12 ins D12 fr12 h12 i2 i3 ilt => ?_⟩
          exact ⟨r, ins, rfl, D12.mono (by omega), frt.trans fr12, fr12 _ _ oA.1 oA.2 (sti _ _ hA11), fr12 _ _ oB.1 oB.2 (sti _ _ hB11), fr12 _ _ oN.1 oN.2 (sti _ _ hN11), fr12 _ _ oG.1 oG.2 (sti _ _ hG11), (tz11.same sti).frE Dt fr12, h12, by omega, i3, fun x hx => by have := ilt x hx; omega⟩
        · exact keep
      rintro σ H11 ⟨ti, ws, rfl, D11, fr11, hA11, hB11, hN11, hG11, tz11, hti, w1, w3, wlt⟩
      -- the table
      refine ⟨sl2, fun p1 n1 => ⟨sl2, fun p2 n2 => ⟨sl2, fun p3 n3 => ⟨sl3, fun p4 n4 => ?_⟩⟩⟩⟩
      have hT1 : ([V.str (Str.ofString "01"), V.str (Str.ofString "10")] : List V) = (parTs 1).map vT := by decide +kernel
      have hT2 : ([V.str (Str.ofString "0110"), V.str (Str.ofString "1001")] : List V) = (parTs 2).map vT := by decide +kernel
      have hT3 : ([V.str (Str.ofString "01101001"), V.str (Str.ofString "10010110")] : List V) = (parTs 3).map vT := by decide +kernel
      rw [hT1] at n2 n3 n4
      rw [hT2] at n3 n4
      rw [hT3] at n4
      rw [hT1, hT2, hT3]
      have t1 := same_upd (o := HO.lst ((parTs 1).map vT)) n1
      have t2 := same_upd (o := HO.lst ((parTs 2).map vT)) n2
      have t3 := same_upd (o := HO.lst ((parTs 3).map vT)) n3
      have t4 := same_upd (o := HO.lst [V.ref p1, V.ref p2, V.ref p3]) n4
      have tA := ((t1.trans t2).trans t3).trans t4
      have f1 := t4 _ _ (t3 _ _ (t2 _ _ (show (upd H11 p1 (.lst ((parTs 1).map vT))) p1 = _ from upd_same)))
      have f2 := t4 _ _ (t3 _ _ (show (upd (upd H11 p1 (.lst ((parTs 1).map vT))) p2 (.lst ((parTs 2).map vT))) p2 = _ from upd_same))
      have f3 := t4 _ _ (show (upd (upd (upd H11 p1 (.lst ((parTs 1).map vT))) p2 (.lst ((parTs 2).map vT))) p3 (.lst ((parTs 3).map vT))) p3 = _ from upd_same)
      have f4 := upd_same (H := upd (upd (upd H11 p1 (.lst ((parTs 1).map vT))) p2 (.lst ((parTs 2).map vT))) p3 (.lst ((parTs 3).map vT))) (a := p4) (o := .lst [V.ref p1, V.ref p2, V.ref p3])
      have D12 := D11.same tA
      have nn1 : H11 p1 = none := n1
      have nn2 : H11 p2 = none := t1.free n2
      have nn3 : H11 p3 = none := (t1.trans t2).free n3
      generalize upd (upd (upd (upd H11 p1 (.lst ((parTs 1).map vT))) p2 (.lst ((parTs 2).map vT))) p3 (.lst ((parTs 3).map vT))) p4 (.lst [V.ref p1, V.ref p2, V.ref p3]) = H12 at tA f1 f2 f3 f4 D12 ⊢
      clear t1 t2 t3 t4 n2 n3 n4
      have sel : ∃ pk, atI [V.ref p1, V.ref p2, V.ref p3] ((ws.length : Int) - 1) = some (.ref pk) ∧ H12 pk = some (.lst ((parTs ws.length).map vT)) ∧ H11 pk = none := by
        have : ws.length = 1 ∨ ws.length = 2 ∨ ws.length = 3 := by omega
        rcases this with e | e | e <;> rw [e]
        · exact ⟨p1, rfl, f1, nn1⟩
        · exact ⟨p2, rfl, f2, nn2⟩
        · exact ⟨p3, rfl, f3, nn3⟩
      obtain ⟨pk, a1, hk, npk⟩ := sel
      have opk := D11.off npk
      have hti12 := tA _ _ hti
      refine ⟨.ref ti, rfl, ti, _, rfl, .inr (SqT.of hti12), _, _, rfl, rfl, p4, _, (ws.length : Int) - 1, .ref pk, rfl, by rw [natV_len], SqL.of f4, a1, .ref d, rfl, d, l, 2, _, rfl, D12, by omega, by decide, by decide, fun H13 v D13 fr13 v0 v1 => ?_⟩
      obtain ⟨bs, hbs, mbs⟩ : ∃ bs, atI ((parTs ws.length).map vT) v = some (vT bs) ∧ bs ∈ parTs ws.length := by
        have : ws.length = 1 ∨ ws.length = 2 ∨ ws.length = 3 := by omega
        have hv : v = 0 ∨ v = 1 := by omega
        rcases this with e | e | e <;> rw [e] <;> rcases hv with rfl | rfl
        · exact ⟨_, rfl, by simp [parTs]⟩
        · exact ⟨_, rfl, by simp [parTs]⟩
        · exact ⟨_, rfl, by simp [parTs]⟩
        · exact ⟨_, rfl, by simp [parTs]⟩
        · exact ⟨_, rfl, by simp [parTs]⟩
        · exact ⟨_, rfl, by simp [parTs]⟩
      obtain ⟨parb, lenb⟩ := parTs_ok w1 w3 bs mbs
      refine ⟨pk, _, v, _, rfl, rfl, SqL.of (fr13 _ _ opk.1 opk.2 hk), hbs, ?_⟩
      have otd : ti ≠ d ∧ ti ≠ l := by
        obtain ⟨ne, cs, z, y', hd, hl', r⟩ := id D11
        exact ⟨ne_of hti hd (by intro z; cases z), ne_of hti hl' (by intro z; cases z)⟩
      have hA13 := fr13 _ _ oA.1 oA.2 (tA _ _ hA11)
      have hB13 := fr13 _ _ oB.1 oB.2 (tA _ _ hB11)
      have hN13 := fr13 _ _ oN.1 oN.2 (tA _ _ hN11)
      have hG13 := fr13 _ _ oG.1 oG.2 (tA _ _ hG11)
      have hti13 := fr13 _ _ otd.1 otd.2 hti12
      have tz13 := (tz11.same tA).frE D12 fr13
      have frE := (fr11.trans (Fr.of (d := d) (l := l) tA)).trans fr13
      have zl := tz13.length
      rw [List.length_map] at zl
      -- gates grow
      refine ⟨.ref GL, rfl, .inl ⟨rfl, _, SqL.of hG13⟩, .str (tabOf bs), rfl, .ref ti, rfl, sl2, fun t nt => ?_⟩
      have st := same_upd (o := HO.tup [V.str (tabOf bs), V.ref ti]) nt
      refine ⟨GL, _, _, rfl, rfl, st _ _ hG13, by omega, ?_⟩
      have hN14 : (upd (upd H13 t (.tup [V.str (tabOf bs), V.ref ti])) GL (.lst (zs ++ [.ref t]))) NL = some (.lst (natV (sumsM gs (inN a b)))) := by rw [upd_ne NG]; exact st _ _ hN13
      have hA14 : (upd (upd H13 t (.tup [V.str (tabOf bs), V.ref ti])) GL (.lst (zs ++ [.ref t]))) OA = some (.lst (a.map V.int)) := by rw [upd_ne AG]; exact st _ _ hA13
      have hB14 : (upd (upd H13 t (.tup [V.str (tabOf bs), V.ref ti])) GL (.lst (zs ++ [.ref t]))) OB = some (.lst (b.map V.int)) := by rw [upd_ne BG]; exact st _ _ hB13
      have tiG : ti ≠ GL := ne_of hti13 hG13 (by intro z; cases z)
      have tG : t ≠ GL := (ne_of_none hG13 nt).symm
      have hti14 : (upd (upd H13 t (.tup [V.str (tabOf bs), V.ref ti])) GL (.lst (zs ++ [.ref t]))) ti = some (.tup (natV ws)) := by rw [upd_ne tiG]; exact st _ _ hti13
      have ht14 : (upd (upd H13 t (.tup [V.str (tabOf bs), V.ref ti])) GL (.lst (zs ++ [.ref t]))) t = some (.tup [V.str (tabOf bs), V.ref ti]) := by rw [upd_ne tG]; exact upd_same
      have tz14 : TkAll (upd (upd H13 t (.tup [V.str (tabOf bs), V.ref ti])) GL (.lst (zs ++ [.ref t]))) (zs ++ [.ref t]) ((gs ++ [(bs, ws)]).map gD) := by
        rw [List.map_append]
        exact ((tz13.same st).putL (st _ _ hG13)).append (.cons (.tup ht14 (.cons (.str _) (.cons (.tup hti14 (TkAll.ints _)) .nil))) .nil)
      have D14 : DeckE (upd (upd H13 t (.tup [V.str (tabOf bs), V.ref ti])) GL (.lst (zs ++ [.ref t]))) d l (n + 24 + 10 * i) := ((D13.same st).upd oG.1 oG.2).mono (by omega)
      have frF : Fr d l H (upd (upd H13 t (.tup [V.str (tabOf bs), V.ref ti])) GL (.lst (zs ++ [.ref t]))) := Fr.upd (frE.trans (Fr.of st)) nG0
      have hG14 := upd_same (H := upd H13 t (.tup [V.str (tabOf bs), V.ref ti])) (a := GL) (o := .lst (zs ++ [.ref t]))
      generalize upd (upd H13 t (.tup [V.str (tabOf bs), V.ref ti])) GL (.lst (zs ++ [.ref t])) = H14 at hN14 hA14 hB14 hti14 tz14 D14 frF hG14 ⊢
      -- numbers grow
      refine ⟨.ref NL, rfl, .inl ⟨rfl, _, SqL.of hN14⟩, .ref ti, rfl, ti, rfl, ⟨_, SqT.of hti14⟩, fun M nM => ?_⟩
      refine lc_tup (K := K) (a := ti) (xs := natV ws) (fun j H' => Same H14 (hd1 M H') ∧ H' M = some (.lst (natV (pickN (sumsM gs (inN a b)) (ws.take j))))) ⟨hd1_of (same_upd nM) nM, upd_same⟩ (fun j H' _ hP => SqT.of (hd1_le _ _ (hP.1 _ _ hti14))) ?_ ?_
      · rintro j x H15 hx ⟨s15, hM⟩
        obtain ⟨wn, hw, rfl⟩ := natV_inv hx
        have hwl := wlt wn (List.mem_of_getElem? hw)
        have hjl := (List.getElem?_eq_some_iff.mp hw).1
        have hat : (natV (sumsM gs (inN a b)))[wn]? = some (.int (Int.ofNat ((sumsM gs (inN a b)).getD wn 0))) := natV_at (by rw [List.getD_eq_getElem?_getD, List.getElem?_eq_getElem (by omega)]; rfl)
        refine ⟨rfl, .ref NL, rfl, .int (Int.ofNat wn), rfl, NL, _, (wn : Int), _, rfl, rfl, SqL.of (hd1_le _ _ (s15 _ _ hN14)), atI_nat hat, _, hM, ?_, s15.trans hd1_upd, ?_⟩
        · rw [natV_len, pickN_len, List.length_take]
          omega
        · rw [upd_same, List.take_add_one, hw]
          unfold pickN
          show some (HO.lst (_ ++ [_])) = some (HO.lst (natV ((_ ++ [wn]).map _)))
          rw [List.map_append, natV_app]
          rfl
      rintro H15 ⟨s15, hM⟩
      rw [natV_len, List.take_length] at hM
      have s1415 : Same H14 H15 := fun b o e => hd1_le _ _ (s15 _ _ e)
      have hN15 := s1415 _ _ hN14
      refine ⟨M, _, rfl, SqL.of hM, NL, _, _, rfl, rfl, hN15, by rw [natV_len]; omega, ?_⟩
      rw [sum_nat]
      refine ⟨_, _, _, zs ++ [.ref t], gs ++ [(bs, ws)], rfl, ((D14.same s1415).upd oN.1 oN.2).mono (by push_cast; omega), Fr.upd (frF.trans (Fr.of s1415)) nN0, by rw [upd_ne AN]; exact s1415 _ _ hA14, by rw [upd_ne BN]; exact s1415 _ _ hB14, ?_, by rw [upd_ne NG.symm]; exact s1415 _ _ hG14, (tz14.same s1415).putL hN15, by rw [List.length_append, lg]; rfl, ok.snoc ⟨lenb, w1, w3, fun x hx => by rw [lg]; exact wlt x hx⟩, fun g hg => ?_⟩
      · rw [upd_same, sumsM_snoc]
        unfold stepU
        rw [natV_app]
        rfl
      · rcases List.mem_append.mp hg with z | z
        · exact par g z
        · rw [List.mem_singleton.mp z]; exact parb
    · rintro σ H9 ⟨y8, y9, y10, zs, gs, rfl, D9, fr9, hA9, hB9, hN9, hG9, tz, lg, ok, par⟩
      refine ⟨.int m, rfl, .ref GL, rfl, GL, _, rfl, .inl ⟨SqL.of hG9, fun tg ntg => ?_⟩⟩
      have s1 := same_upd (o := HO.tup zs) ntg
      refine ⟨sl2, fun nr nnr => ?_⟩
      have s2 := same_upd (o := HO.tup [V.int m, V.ref tg]) nnr
      have s12 := s1.trans s2
      refine ⟨.ref OA, rfl, OA, _, rfl, .inl ⟨SqL.of (s12 _ _ hA9), fun ta nta => ?_⟩⟩
      have s3 := same_upd (o := HO.tup (a.map V.int)) nta
      refine ⟨.ref OB, rfl, OB, _, rfl, .inl ⟨SqL.of (s3 _ _ (s12 _ _ hB9)), fun tb ntb => ?_⟩⟩
      have s4 := same_upd (o := HO.tup (b.map V.int)) ntb
      refine ⟨sl2, fun cr ncr => ?_⟩
      have s5 := same_upd (o := HO.tup [V.ref ta, V.ref tb]) ncr
      have s15 := ((s12.trans s3).trans s4).trans s5
      refine ⟨.ref NL, rfl, NL, _, rfl, .inl ⟨SqL.of (s15 _ _ hN9), fun ur nur => ?_⟩⟩
      have s6 := same_upd (o := HO.tup (natV (sumsM gs (inN a b)))) nur
      refine ⟨sl3, fun r nr' => ?_⟩
      have s7 := same_upd (o := HO.tup [V.ref nr, V.ref cr, V.ref ur]) nr'
      have sA := (s15.trans s6).trans s7
      have s67 := s6.trans s7
      refine q r _ nr cr ur m gs a b ((D9.same sA).mono (by omega)) (fr9.trans (Fr.of sA)) upd_same ?_ ?_ (s7 _ _ upd_same) el (by omega) (by omega) a01 b01 (by omega) (by rw [la]; exact ok) par
      · have s37 := ((s3.trans s4).trans s5).trans s67
        refine .tup (s37 _ _ upd_same) (.cons (.int _) (.cons (.tup ((s2.trans s37) _ _ upd_same) ((tz.same s12).same s37 |> fun z => ?_)) .nil))
        exact z
      · have s57 := s5.trans s67
        refine .tup (s67 _ _ upd_same) (.cons (.tup ((s4.trans s57) _ _ upd_same) (TkAll.ints _)) (.cons (.tup (s57 _ _ upd_same) (TkAll.ints _)) .nil))

end
end Gk

set_option Elab.async false
set_option linter.all false
set_option maxRecDepth 100000
set_option maxHeartbeats 1000000
set_option pp.maxSteps 1500
set_option pp.deepTerms false
namespace Gk
open PySem PySem.Spec PyProof.Rows L2
/-! ### comparing, cutting and joining data of tuples -/
mutual
theorem Tk.dp {K : PySem.W.Frag} {H : Hp} : ∀ {v : V} {d : PyData}, Tk H v d → Dp K H v d
  | _, _, .bl b => .bl b
  | _, _, .int i => .int i
  | _, _, .str x => .str x
  | _, _, .lst h t => .lst (SqL.of h) t.dp
  | _, _, .tup h t => .tup (SqT.of h) t.dp
theorem TkAll.dp {K : PySem.W.Frag} {H : Hp} : ∀ {vs : List V} {ds : List PyData}, TkAll H vs ds → DpAll K H vs ds
  | _, _, .nil => .nil
  | _, _, .cons h t => .cons h.dp t.dp
end
theorem ne_same {K : PySem.W.Frag} {H : Hp} {x y : V} {d : PyData} {Q : VK} (hx : Dp K H x d) (hy : Dp K H y d) (sh : SeqAt.shaped d = true) (q : Q (.bl false) H) : rNeD K x y H Q := by
  refine ⟨d, d, hx, hy, sh, sh, ?_⟩
  rw [SeqAt.eqv_refl d (SeqAt.canLay_of_shaped sh)]
  exact q
theorem eq_same {K : PySem.W.Frag} {H : Hp} {x y : V} {d : PyData} {Q : VK} (hx : Dp K H x d) (hy : Dp K H y d) (sh : SeqAt.shaped d = true) (q : Q (.bl true) H) : rEqD K x y H Q := by
  refine ⟨d, d, hx, hy, sh, sh, ?_⟩
  rw [SeqAt.eqv_refl d (SeqAt.canLay_of_shaped sh)]
  exact q

/-! ### what the law keeps: its deck, the program's tables, its own table -/
theorem TabS.keep {H H' : Hp} {P : Addr} {q : Str} (t : LamX.TabS H P q) (k : ∀ b o, H b = some o → ((∃ ps, o = HO.tbl ps) ∧ b = P) ∨ (∃ φ, o = HO.ext φ) → H' b = some o) : LamX.TabS H' P q := by
  obtain ⟨ps, h1, h2, h3⟩ := t
  refine ⟨ps, k _ _ h1 (.inl ⟨⟨ps, rfl⟩, rfl⟩), h2, fun pos cv hc => ?_⟩
  obtain ⟨c, e1, e2⟩ := h3 pos cv hc
  exact ⟨c, e1, k _ _ e2 (.inr ⟨_, rfl⟩)⟩
structure LawE (H : Hp) (d l : Addr) (n : Int) (Ps : List Addr) (Pl : Addr) (q : Str) : Prop where
  deck : DeckE H d l n
  tabs : Tabs H Ps
  own : LamX.TabS H Pl q
  off : Pl ∉ Ps
section
variable {H H' : Hp} {d l Pl : Addr} {n n' : Int} {Ps : List Addr} {q : Str}
theorem LawE.same (h : LawE H d l n Ps Pl q) (s : Same H H') : LawE H' d l n Ps Pl q := ⟨h.deck.same s, h.tabs.same s, TabS.keep h.own fun b o e _ => s b o e, h.off⟩
theorem LawE.mono (h : LawE H d l n Ps Pl q) (le : n ≤ n') : LawE H d l n' Ps Pl q := ⟨h.deck.mono le, h.tabs, h.own, h.off⟩
theorem LawE.fr (h : LawE H d l n Ps Pl q) (f : Fr d l H H') (D : DeckE H' d l n') : LawE H' d l n' Ps Pl q := by
  obtain ⟨ne, cs, z, y, hd, hl, r⟩ := id h.deck
  have k : ∀ b o, H b = some o → (∀ kv, o ≠ HO.dK kv) → (∀ xs, o ≠ HO.lst xs) → H' b = some o := fun b o e n1 n2 => f b o (fun z => by rw [z, hd] at e; exact n1 _ (Option.some.inj e).symm) (fun z => by rw [z, hl] at e; exact n2 _ (Option.some.inj e).symm) e
  refine ⟨D, fun P m => ?_, TabS.keep h.own fun b o e w => ?_, h.off⟩
  · obtain ⟨ps, e, t⟩ := h.tabs P m
    exact ⟨ps, k _ _ e (fun _ z => by cases z) (fun _ z => by cases z), t⟩
  · rcases w with ⟨⟨ps, rfl⟩, _⟩ | ⟨φ, rfl⟩ <;> exact k _ _ e (fun _ z => by cases z) (fun _ z => by cases z)
theorem LawE.step (h : LawE H d l n Ps Pl q) (s : LamG.Step Pl q H H') : LawE H' d l n Ps Pl q := by
  obtain ⟨ne, cs, z, y, hd, hl, r⟩ := id h.deck
  obtain ⟨ps, hP, _⟩ := id h.own
  have nP : ∀ {b : Addr} {o : HO}, H b = some o → (∀ ps, o ≠ HO.tbl ps) → b ≠ Pl := fun {b o} e no z => by rw [z, hP] at e; exact no ps (Option.some.inj e).symm
  refine ⟨⟨ne, cs, z, y, s.1 _ _ (nP hd (fun _ z => by cases z)) hd, s.1 _ _ (nP hl (fun _ z => by cases z)) hl, r⟩, fun P m => ?_, s.2, h.off⟩
  obtain ⟨ps', e, t⟩ := h.tabs P m
  exact ⟨ps', s.1 _ _ (fun z => h.off (by rw [← z]; exact m)) e, t⟩
theorem LawE.grt (h : LawE H d l n Ps Pl q) (g : GrT Ps H H') : LawE H' d l n Ps Pl q := by
  obtain ⟨ne, cs, z, y, hd, hl, r⟩ := id h.deck
  refine ⟨⟨ne, cs, z, y, g.1 _ _ (h.tabs.off (fun _ z => by cases z) hd) hd, g.lst h.tabs hl, r⟩, g.tabs h.tabs, TabS.keep h.own fun b o e w => ?_, h.off⟩
  rcases w with ⟨_, rfl⟩ | ⟨φ, rfl⟩
  · exact g.1 _ _ h.off e
  · exact g.1 _ _ (h.tabs.off (fun _ z => by cases z) e) e
theorem step_gr (s : LamG.Step Pl q H H') (w : LamX.TabS H Pl q) : Gr H H' := by
  obtain ⟨ps, hP, _⟩ := w
  refine ⟨fun b o no e => s.1 _ _ (fun z => by rw [z, hP] at e; exact no ps (Option.some.inj e).symm) e, fun b t => ?_⟩
  by_cases z : b = Pl
  · obtain ⟨ps', e, t', _⟩ := s.2
    rw [z]
    exact ⟨ps', e, t'⟩
  · obtain ⟨ps', e, t'⟩ := t
    exact ⟨ps', s.1 _ _ z e, t'⟩
end

def toldD (ns : List Nat) : PyData := .tuple [.str (Str.ofString "told"), rowD (ns.map Int.ofNat)]
def dueD (ns : List Nat) : PyData := if (ns.any fun x => decide (12 < x)) = true then refD true false true false else toldD ns
theorem sh_told (ns : List Nat) : SeqAt.shaped (toldD ns) = true := by
  unfold SeqAt.shaped toldD rowD
  rw [Bool.and_eq_true]
  refine ⟨?_, decide_eq_true ?_⟩
  · have : PyData.canLay0 (.str (Str.ofString "told")) = true := by decide +kernel
    simp only [PyData.canLay0, PyData.canLayAll0, canLayAll_ints, Bool.and_true] at this ⊢
    exact this
  · simp only [PyData.depth, PyData.depthAll, depthAll_ints]
    omega
theorem sh_ref : SeqAt.shaped (refD true false true false) = true := by decide +kernel
theorem sh_due (ns : List Nat) : SeqAt.shaped (dueD ns) = true := by
  unfold dueD
  split
  · exact sh_ref
  · exact sh_told ns
section
variable {P : Program} {w : World} {K : PySem.W.Frag} {mg : Str → Option Value} {base : Heap}
theorem pt_off (T : Tx K mg) : T.P_law ∉ T.pt := by
  unfold Tx.pt
  simp only [List.mem_cons, List.not_mem_nil, or_false, not_or]
  exact ⟨T.n_law_greatest, T.n_law_input_numbers, T.n_law_at_wires⟩
abbrev qLaw : Str := Str.ofString "law" ++ ".<locals>." ++ "<lambda>"
def sp_law (K : PySem.W.Frag) (Ps : List Addr) (Pl : Addr) : Sp := fun vs H Q _ => ∃ (a : Addr) (ns : List Int), vs = [.ref a] ∧ SqL K H a (ns.map V.int) ∧ ns.length ≤ 63 ∧ Tabs H Ps ∧ H Pl = some (.tbl #[]) ∧ ∀ H', Q (.bl true) H'
theorem ok_law (T : Tx K mg) (B : Tb base T) : FnOk P w K mg base CX0 9 T.f_law T.fd_law ["_law_script"] (sp_law K T.tabs T.P_law) := by
  refine okC T.F_law sc_law (fun vs H Q E h => ?_) (fun A outer s H vs Q E hr h => ?_)
  · obtain ⟨a, ns, rfl, _⟩ := h
    rfl
  · obtain ⟨a, ns, rfl, hS, hlen, tabs, hPl, q⟩ := h
    refine ⟨_, (pss_cons (ps_set (i := 1) sc_law.nd rfl (by first | exact .inl rfl | exact .inr rfl) (pe_call (ok_deck T) (hr.mono (by decide)) (by rfl) T.g_deck T.F_deck.kp T.b_deck .nil pass0 (pa_cons (pv 0) pa_nil))) (pss_cons (ps_for PassesOwn.never rfl (pi_range1 (by rfl) T.m_range (pa_cons (pe_callB (call_max2 rfl) (by rfl) T.m_max (by decide +kernel) (pa_cons pe_int (pa_cons (pe_callB (call_min2 rfl) (by rfl) T.m_min (by decide +kernel) (pa_cons pe_int (pa_cons (pe_callB call_len_seq (by rfl) T.m_len PySem.boot_len (pa_cons (pv 0) pa_nil)) pa_nil))) pa_nil))) pa_nil)) (pg_name (i := 2) sc_law.nd rfl (by first | exact .inl rfl | exact .inr rfl)) (pss_cons (ps_asg (pe_call (ok_sums T) (hr.mono (by decide)) (by rfl) T.g_sums T.F_sums.kp T.b_sums .nil pass0 (pa_cons (pv 1) pa_nil)) (pg_tup rfl (pgs_cons (pg_name (i := 3) sc_law.nd rfl (by first | exact .inl rfl | exact .inr rfl)) (pgs_cons (pg_name (i := 4) sc_law.nd rfl (by first | exact .inl rfl | exact .inr rfl)) (pgs_cons (pg_name (i := 5) sc_law.nd rfl (by first | exact .inl rfl | exact .inr rfl)) pgs_nil))))) (pss_cons (ps_set (i := 6) sc_law.nd rfl (by first | exact .inl rfl | exact .inr rfl) (pe_tup (pa_cons pe_str (pa_cons (pv 5) pa_nil)))) (C8.pss_cut (ps_if (pt_cmpR op_gt (pe_callB (cr_maxT rfl) (by rfl) T.m_max (by decide +kernel) (pa_cons (pv 5) pa_nil)) pe_int (nomark _)) (pss_one (ps_set (i := 6) sc_law.nd rfl (by first | exact .inl rfl | exact .inr rfl) (pe_tup (pa_cons pe_str (pa_cons (pe_lst (pa_cons pe_bl (pa_cons pe_bl (pa_cons pe_bl (pa_cons pe_bl pa_nil))))) pa_nil))))) pss_nil) (pss_one (ps_if (pt_cmpR (op_neD hr.units) (LamG.pe_lam (lv := 6) (by rfl) T.g_told T.F_told T.b_told sc_told rfl (.inl rfl) (fun cdv => gives_told T rfl rfl cdv) ⟨B.TB_law.code, B.TB_law.bm, B.TB_law.gP⟩ T.cd_law (hr.mono (by decide)) (LamX.lamS_by (sc := defScope s_law) (by decide +kernel)) rfl (fun _ _ _ _ _ => rfl) (fun _ _ _ _ _ _ _ hr => (pe_callS (ok_greatest T B) (hr.mono (by decide)) (by rfl) T.g_greatest T.F_greatest.kp T.b_greatest (fun σ => L2.passAt (L2.takes_of rfl rfl rfl rfl) σ) (pa_cons (pv 3) (pa_cons (pv 4) pa_nil))))) (pv 6) (nomark _)) (pss_one (ps_ret pe_bl)) pss_nil)))))) (pss_one (ps_ret pe_bl)))), ?_⟩
    have sl : (16777216 : Nat) = sizeLine := by decide
    refine ⟨.ref a, rfl, a, ns, rfl, hS, hlen, fun H1 d l s1 D1 => ?_⟩
    have L1 : LawE H1 d l 0 T.pt T.P_law qLaw := ⟨D1, Tabs.same (fun P hP => tabs P (by unfold Tx.pt at hP; unfold Tx.tabs; simp only [List.mem_cons, List.not_mem_nil, or_false] at hP ⊢; rcases hP with z | z | z <;> simp [z])) s1, LamX.TabS.nil (s1 _ _ hPl), pt_off T⟩
    refine ⟨.ref a, rfl, a, _, rfl, .inl (s1.seq hS), _, _, rfl, _, _, rfl, _, rfl, ?_, ?_, ?_⟩
    · split <;> split <;> omega
    · rw [List.length_map]; split <;> split <;> omega
    obtain ⟨N, hN⟩ : ∃ N : Nat, N = (if (if ((ns.map V.int).length : Int) < 6 then ((ns.map V.int).length : Int) else 6) > 2 then (if ((ns.map V.int).length : Int) < 6 then ((ns.map V.int).length : Int) else 6) else 2 : Int).toNat := ⟨_, rfl⟩
    have N6 : N ≤ 6 := by rw [hN]; split <;> split <;> omega
    rw [← hN]
    clear hN
    refine for_range (lo := 0) (n := N) (fun i σ H' => ∃ y2 y3 y4 y5 y6, σ = [some (.ref a), some (.ref d), y2, y3, y4, y5, y6] ∧ LawE H' d l (200 * i) T.pt T.P_law qLaw)
      ⟨_, _, _, _, _, rfl, L1.mono (by omega)⟩ ?_ ?_
    · rintro i σ H2 hi ⟨y2, y3, y4, y5, y6, rfl, L2⟩
      refine ⟨.ref d, rfl, d, l, _, rfl, L2.deck, by omega, fun r H3 nr cr ur m gs x b D3 fr3 h3 tn tc hu el x1 x6 x01 b01 g8 ok par => ?_⟩
      have L3 := (L2.fr fr3 D3).mono (n' := 200 * i + 150) (by omega)
      refine ⟨r, _, rfl, SqT.of h3, rfl, _, _, rfl, _, _, rfl, _, _, rfl, rfl, ?_⟩
      obtain ⟨nums, hnums⟩ : ∃ nums, nums = sumsM gs (inN x b) := ⟨_, rfl⟩
      rw [← hnums] at hu
      have nl : nums.length = x.length + gs.length := by rw [hnums, sumsM_len, inN_len el]
      have en : numsM (settledM gs x) gs (inN x b) = nums := by
        rw [hnums]
        refine nums_sums (settledM_01 gs x x01) gs _ fun g hg => ?_
        obtain ⟨k, hk⟩ := List.getElem?_of_mem hg
        obtain ⟨o1, o2, o3, o4⟩ := ok k g hk
        have := (List.getElem?_eq_some_iff.mp hk).1
        exact ⟨par g hg, o1, o3, fun j hj => by have := o4 j hj; rw [settledM_len]; omega⟩
      refine ⟨.ref ur, rfl, sl2, fun du ndu => ?_⟩
      have sdu := same_upd (o := HO.tup [V.str (Str.ofString "told"), V.ref ur]) ndu
      have tdu : Tk (upd H3 du (.tup [V.str (Str.ofString "told"), V.ref ur])) (.ref du) (toldD nums) := .tup upd_same (.cons (.str _) (.cons (.tup (sdu _ _ hu) (TkAll.ints _)) .nil))
      have hu4 := sdu _ _ hu
      generalize upd H3 du (.tup [V.str (Str.ofString "told"), V.ref ur]) = H4 at sdu tdu hu4 ⊢
      refine ⟨fun σ H' => ∃ du, σ = [some (.ref a), some (.ref d), some (.int (0 + (i : Int))), some (.ref nr), some (.ref cr), some (.ref ur), some (.ref du)] ∧ Same H3 H' ∧ Tk H' (.ref du) (dueD nums), ?_, ?_⟩
      · refine ⟨.ref ur, rfl, ur, nums.map Int.ofNat, rfl, SqT.of hu4, by rw [List.length_map]; omega, fun mx mem ge => ⟨_, _, rfl, rfl, _, rfl, ite2 (fun hgt => ?_) (fun hle => ?_)⟩⟩
        · have hgt : 12 < mx := of_decide_eq_true hgt
          obtain ⟨k, hk, rfl⟩ := List.mem_map.mp mem
          have any : (nums.any fun x => decide (12 < x)) = true := List.any_eq_true.mpr ⟨k, hk, decide_eq_true (by have : (12 : Int) < (k : Int) := hgt; omega)⟩
          refine ⟨sl4, fun lb nlb => ⟨sl2, fun dr ndr => ?_⟩⟩
          have s5 := same_upd (o := HO.lst [V.bl true, V.bl false, V.bl true, V.bl false]) nlb
          have s6 := same_upd (o := HO.tup [V.str (Str.ofString "refused"), V.ref lb]) ndr
          refine ⟨dr, rfl, (sdu.trans s5).trans s6, ?_⟩
          unfold dueD
          rw [if_pos any]
          exact .tup upd_same (.cons (.str _) (.cons (.lst (s6 _ _ upd_same) (.cons (.bl _) (.cons (.bl _) (.cons (.bl _) (.cons (.bl _) .nil))))) .nil))
        · have hle : mx ≤ 12 := Int.not_lt.mp fun z => hle (decide_eq_true z)
          refine ⟨du, rfl, sdu, ?_⟩
          unfold dueD
          rw [if_neg]
          · exact tdu
          · intro z
            obtain ⟨k, hk, hk2⟩ := List.any_eq_true.mp z
            have h1 := of_decide_eq_true hk2
            have h2 := ge _ (List.mem_map.mpr ⟨k, hk, rfl⟩)
            have h2 : (k : Int) ≤ mx := h2
            omega
      clear tdu sdu hu4 ndu du H4
      rintro σ H4 ⟨du, rfl, s4, tdu⟩
      have L4 := L3.same s4
      refine ⟨L4.own, fun H5 st5 => ?_⟩
      have L5 := L4.step st5
      have g45 := step_gr st5 L4.own
      intro t0 n0 E1 Q1 hE hQ
      have s0 := same_upd (o := HO.tup [V.str (Str.ofString "none"), V.non]) n0
      have L6 := L5.same s0
      have g36 := (Gr.of (fun b o e => s4 b o e)).trans (g45.trans (Gr.of fun b o e => s0 b o e))
      have tdu6 := (tdu.gr g45).same s0
      have fin : ∀ {H7 : Hp} {v : V}, GrT T.pt (upd H5 t0 (.tup [V.str (Str.ofString "none"), V.non])) H7 → Tk H7 v (dueD nums) → Tk H7 (.ref du) (dueD nums) := fun {H7 v} g _ => tdu6.gr (g.gr L6.tabs)
      refine ⟨.ref nr, rfl, .ref cr, rfl, .ref nr, .ref cr, m, gs, x, b, rfl, tn.gr g36, tc.gr g36, el, x01, b01, by omega, by omega, ok, L6.tabs, fun le12 gr H7 g7 h7 => ?_, fun ex H7 g7 => ?_⟩
      · rw [en] at le12 h7
        refine hQ _ _ fun t nt => ?_
        have st := same_upd (o := HO.tup [V.str (Str.ofString "told"), V.ref gr]) nt
        have ed : dueD nums = toldD nums := by
          unfold dueD
          rw [if_neg]
          intro z
          obtain ⟨k, hk, hk2⟩ := List.any_eq_true.mp z
          have := of_decide_eq_true hk2
          have := le12 k hk
          omega
        have t1 : Tk (upd H7 t (.tup [V.str (Str.ofString "told"), V.ref gr])) (.ref t) (dueD nums) := by
          rw [ed]
          exact .tup upd_same (.cons (.str _) (.cons (.tup (st _ _ h7) (TkAll.ints _)) .nil))
        have t2 : Tk (upd H7 t (.tup [V.str (Str.ofString "told"), V.ref gr])) (.ref du) (dueD nums) := (tdu6.gr (g7.gr L6.tabs)).same st
        refine ⟨.ref du, rfl, ne_same t1.dp t2.dp (sh_due nums) ⟨_, rfl, iteF ?_⟩⟩
        exact ⟨_, _, _, _, _, rfl, ((L6.grt g7).same st).mono (by push_cast; omega)⟩
      · rw [en] at ex
        obtain ⟨k, hk, k12⟩ := ex
        refine hE T.C_TooMany true false true false H7 (kinds_TooMany T) fun t H8 s8 t8 => ?_
        have ed : dueD nums = refD true false true false := by
          unfold dueD
          rw [if_pos (List.any_eq_true.mpr ⟨k, hk, decide_eq_true k12⟩)]
        have t2 : Tk H8 (.ref du) (dueD nums) := (tdu6.gr (g7.gr L6.tabs)).same s8
        rw [← ed] at t8
        refine ⟨.ref du, rfl, ne_same t8.dp t2.dp (sh_due nums) ⟨_, rfl, iteF ?_⟩⟩
        exact ⟨_, _, _, _, _, rfl, ((L6.grt g7).same s8).mono (by push_cast; omega)⟩
    · rintro σ H2 ⟨y2, y3, y4, y5, y6, rfl, L2⟩
      exact q _
end
def d_choices_of : He.DefD := ⟨("choices_of", none), "choices_of", "choices_of", defArgs s_choices_of, defBody s_choices_of, defScope s_choices_of, [], []⟩
def d_table_worth : He.DefD := ⟨("table_worth", none), "table_worth", "table_worth", defArgs s_table_worth, defBody s_table_worth, defScope s_table_worth, [], []⟩
def d_settled : He.DefD := ⟨("settled", none), "settled", "settled", defArgs s_settled, defBody s_settled, defScope s_settled, [], []⟩
def d_greatest : He.DefD := ⟨("greatest", none), "greatest", "greatest", defArgs s_greatest, defBody s_greatest, defScope s_greatest, [], []⟩
def d_input_numbers : He.DefD := ⟨("input_numbers", none), "input_numbers", "input_numbers", defArgs s_input_numbers, defBody s_input_numbers, defScope s_input_numbers, [], []⟩
def d_parts_of : He.DefD := ⟨("parts_of", none), "parts_of", "parts_of", defArgs s_parts_of, defBody s_parts_of, defScope s_parts_of, [], []⟩
def d_at_wires : He.DefD := ⟨("at_wires", none), "at_wires", "at_wires", defArgs s_at_wires, defBody s_at_wires, defScope s_at_wires, [], []⟩
def d_gate_part : He.DefD := ⟨("gate_part", none), "gate_part", "gate_part", defArgs s_gate_part, defBody s_gate_part, defScope s_gate_part, [], []⟩
def d_steps_from : He.DefD := ⟨("steps_from", none), "steps_from", "steps_from", defArgs s_steps_from, defBody s_steps_from, defScope s_steps_from, [], []⟩
def d_worth_by : He.DefD := ⟨("worth_by", none), "worth_by", "worth_by", defArgs s_worth_by, defBody s_worth_by, defScope s_worth_by, [], []⟩
def d_strides_of : He.DefD := ⟨("strides_of", none), "strides_of", "strides_of", defArgs s_strides_of, defBody s_strides_of, defScope s_strides_of, [], []⟩
def d_many_counts : He.DefD := ⟨("many_counts", none), "many_counts", "many_counts", defArgs s_many_counts, defBody s_many_counts, defScope s_many_counts, [], []⟩
def d_deck : He.DefD := ⟨("_law_deck", none), "_law_deck", "_law_deck", defArgs s_deck, defBody s_deck, defScope s_deck, [], []⟩
def d_draw : He.DefD := ⟨("_law_draw", none), "_law_draw", "_law_draw", defArgs s_draw, defBody s_draw, defScope s_draw, [], []⟩
def d_told : He.DefD := ⟨("_law_told", none), "_law_told", "_law_told", defArgs s_told, defBody s_told, defScope s_told, [], []⟩
def d_aimed : He.DefD := ⟨("_law_aimed", none), "_law_aimed", "_law_aimed", defArgs s_aimed, defBody s_aimed, defScope s_aimed, [], []⟩
def d_sums : He.DefD := ⟨("_law_sums", none), "_law_sums", "_law_sums", defArgs s_sums, defBody s_sums, defScope s_sums, [], []⟩
def d_law : He.DefD := ⟨("law", none), "law", "law", defArgs s_law, defBody s_law, defScope s_law, [], []⟩
def fn : List He.DefD := [d_choices_of, d_table_worth, d_settled, d_greatest, d_input_numbers, d_parts_of, d_at_wires, d_gate_part, d_steps_from, d_worth_by, d_strides_of, d_many_counts, d_deck, d_draw, d_told, d_aimed, d_sums, d_law]
def fa : List He.Fa := [.glo "choices_of", .glo "table_worth", .glo "settled", .glo "greatest", .glo "input_numbers", .glo "parts_of", .glo "at_wires", .glo "gate_part", .glo "steps_from", .glo "worth_by", .glo "strides_of", .glo "many_counts", .glo "_law_deck", .glo "_law_draw", .glo "_law_told", .glo "_law_aimed", .glo "_law_sums", .glo "law", .free "ValueError", .free "enumerate", .free "int", .free "isinstance", .free "len", .free "list", .free "max", .free "min", .free "range", .free "sum", .free "tuple", .free "zip", .int "MOST_TURNS" 12, .glo "NetError", .glo "NoText", .glo "TooMany", .glo "NotFormula", .glo "NoTurn", .glo "NoForms", .glo "NoRow", .exc "TooMany"]
def tf : List He.Defn := [("greatest", none), ("input_numbers", none), ("at_wires", none), ("law", none)]
abbrev RR : PySem.W.OpenRow := PySem.W.OpenLaw.row PySem.Challenge.rw_glitchnet_k29_refused_just_beyond_twelve
def yes : PySem.W.Frag → Bool := fun K => (GxE.excCB K (He.ga K "TooMany") && (decide (PySem.W.kitOne K (.ref (He.ga K "TooMany")) (.type "ValueError") = some true) && (decide (PySem.W.kitOne K (.ref (He.ga K "TooMany")) (.ref (He.ga K "NetError")) = some true) && (decide (PySem.W.exmOne K (.ref (He.ga K "TooMany")) (.ref (He.ga K "NetError")) = some true) && (decide (PySem.W.kitOne K (.ref (He.ga K "TooMany")) (.ref (He.ga K "NoText")) = some false) && (decide (PySem.W.exmOne K (.ref (He.ga K "TooMany")) (.ref (He.ga K "NoText")) = some false) && (decide (PySem.W.kitOne K (.ref (He.ga K "TooMany")) (.ref (He.ga K "TooMany")) = some true) && (decide (PySem.W.exmOne K (.ref (He.ga K "TooMany")) (.ref (He.ga K "TooMany")) = some true) && (decide (PySem.W.kitOne K (.ref (He.ga K "TooMany")) (.ref (He.ga K "NotFormula")) = some false) && (decide (PySem.W.exmOne K (.ref (He.ga K "TooMany")) (.ref (He.ga K "NotFormula")) = some false) && (decide (PySem.W.kitOne K (.ref (He.ga K "TooMany")) (.ref (He.ga K "NoTurn")) = some false) && (decide (PySem.W.exmOne K (.ref (He.ga K "TooMany")) (.ref (He.ga K "NoTurn")) = some false) && (decide (PySem.W.kitOne K (.ref (He.ga K "TooMany")) (.ref (He.ga K "NoForms")) = some false) && (decide (PySem.W.exmOne K (.ref (He.ga K "TooMany")) (.ref (He.ga K "NoForms")) = some false) && (decide (PySem.W.kitOne K (.ref (He.ga K "TooMany")) (.ref (He.ga K "NoRow")) = some false) && (decide (PySem.W.exmOne K (.ref (He.ga K "TooMany")) (.ref (He.ga K "NoRow")) = some false) && (decide ((He.cT K ("law", none)).2 ≠ (He.cT K ("greatest", none)).2) && (decide ((He.cT K ("law", none)).2 ≠ (He.cT K ("input_numbers", none)).2) && (decide ((He.cT K ("law", none)).2 ≠ (He.cT K ("at_wires", none)).2) && true)))))))))))))))))))
abbrev hk : PySem.W.Hook := He.hookX 4 fa fn [] tf yes
def ob (s : PySem.W.SharedT) : He.AlX := He.obsX 4 fa fn [] tf yes (HandSHeadRun.getT s)
theorem ob_eq (s : PySem.W.SharedT) : ob s = hk.obs s.abs := He.obsX_eq (HandSHeadRun.getT_eq s)
theorem run (w : World) : HandSHeadRun.RunEq RR (PySem.W.view RR.prog [29]) hk ob 3000 [("NetError" : PySem.Str), ("NoText" : PySem.Str), ("TooMany" : PySem.Str), ("NotFormula" : PySem.Str), ("NoTurn" : PySem.Str), ("NoForms" : PySem.Str), ("NoRow" : PySem.Str), ("choices_of" : PySem.Str), ("table_worth" : PySem.Str), ("settled" : PySem.Str), ("MOST_TURNS" : PySem.Str), ("greatest" : PySem.Str), ("input_numbers" : PySem.Str), ("parts_of" : PySem.Str), ("at_wires" : PySem.Str), ("gate_part" : PySem.Str), ("steps_from" : PySem.Str), ("worth_by" : PySem.Str), ("strides_of" : PySem.Str), ("many_counts" : PySem.Str), ("_law_deck" : PySem.Str), ("_law_draw" : PySem.Str), ("_law_told" : PySem.Str), ("_law_aimed" : PySem.Str), ("_law_sums" : PySem.Str)] w := by
  intro os
  kernel_rfl
theorem facts {w : World} {K : PySem.W.Frag} {h : Heap} {mg : Str → Option Value} {f : Addr} (X : K.In h) (G : h.Ns mainGlobals mg) (hfa : mg ("law" : Str) = some (.ref f)) (c : He.SaysX fa fn [] tf yes w h K) : LamX.LawAtS PySem.Challenge.rw_glitchnet_k29_refused_just_beyond_twelve w K CX0 9 63 "_law_script" mg f h := by
  obtain ⟨fd0, D0⟩ := c.t.d.def_ 0 (d := d_choices_of) rfl
  have F0 : Fun K "choices_of" "choices_of" s_choices_of (He.fAd K ("choices_of", none)) fd0 := fun_of D0
  have b0 := F0.binds (ps := ["lists"]) fun _ _ _ _ _ _ us hl => match us, hl with | [_], _ => rfl
  obtain ⟨fd1, D1⟩ := c.t.d.def_ 1 (d := d_table_worth) rfl
  have F1 : Fun K "table_worth" "table_worth" s_table_worth (He.fAd K ("table_worth", none)) fd1 := fun_of D1
  have b1 := F1.binds (ps := ["table", "worths"]) fun _ _ _ _ _ _ us hl => match us, hl with | [_, _], _ => rfl
  obtain ⟨fd2, D2⟩ := c.t.d.def_ 2 (d := d_settled) rfl
  have F2 : Fun K "settled" "settled" s_settled (He.fAd K ("settled", none)) fd2 := fun_of D2
  have b2 := F2.binds (ps := ["net", "row"]) fun _ _ _ _ _ _ us hl => match us, hl with | [_, _], _ => rfl
  obtain ⟨fd3, D3⟩ := c.t.d.def_ 3 (d := d_greatest) rfl
  have F3 : Fun K "greatest" "greatest" s_greatest (He.fAd K ("greatest", none)) fd3 := fun_of D3
  have b3 := F3.binds (ps := ["net", "change"]) fun _ _ _ _ _ _ us hl => match us, hl with | [_, _], _ => rfl
  obtain ⟨fd4, D4⟩ := c.t.d.def_ 4 (d := d_input_numbers) rfl
  have F4 : Fun K "input_numbers" "input_numbers" s_input_numbers (He.fAd K ("input_numbers", none)) fd4 := fun_of D4
  have b4 := F4.binds (ps := ["change"]) fun _ _ _ _ _ _ us hl => match us, hl with | [_], _ => rfl
  obtain ⟨fd5, D5⟩ := c.t.d.def_ 5 (d := d_parts_of) rfl
  have F5 : Fun K "parts_of" "parts_of" s_parts_of (He.fAd K ("parts_of", none)) fd5 := fun_of D5
  have b5 := F5.binds (ps := ["net", "change"]) fun _ _ _ _ _ _ us hl => match us, hl with | [_, _], _ => rfl
  obtain ⟨fd6, D6⟩ := c.t.d.def_ 6 (d := d_at_wires) rfl
  have F6 : Fun K "at_wires" "at_wires" s_at_wires (He.fAd K ("at_wires", none)) fd6 := fun_of D6
  have b6 := F6.binds (ps := ["row", "wires"]) fun _ _ _ _ _ _ us hl => match us, hl with | [_, _], _ => rfl
  obtain ⟨fd7, D7⟩ := c.t.d.def_ 7 (d := d_gate_part) rfl
  have F7 : Fun K "gate_part" "gate_part" s_gate_part (He.fAd K ("gate_part", none)) fd7 := fun_of D7
  have b7 := F7.binds (ps := ["table", "firsts", "numbers"]) fun _ _ _ _ _ _ us hl => match us, hl with | [_, _, _], _ => rfl
  obtain ⟨fd8, D8⟩ := c.t.d.def_ 8 (d := d_steps_from) rfl
  have F8 : Fun K "steps_from" "steps_from" s_steps_from (He.fAd K ("steps_from", none)) fd8 := fun_of D8
  have b8 := F8.binds (ps := ["table", "firsts", "numbers"]) fun _ _ _ _ _ _ us hl => match us, hl with | [_, _, _], _ => rfl
  obtain ⟨fd9, D9⟩ := c.t.d.def_ 9 (d := d_worth_by) rfl
  have F9 : Fun K "worth_by" "worth_by" s_worth_by (He.fAd K ("worth_by", none)) fd9 := fun_of D9
  have b9 := F9.binds (ps := ["table", "firsts", "counts"]) fun _ _ _ _ _ _ us hl => match us, hl with | [_, _, _], _ => rfl
  obtain ⟨fd10, D10⟩ := c.t.d.def_ 10 (d := d_strides_of) rfl
  have F10 : Fun K "strides_of" "strides_of" s_strides_of (He.fAd K ("strides_of", none)) fd10 := fun_of D10
  have b10 := F10.binds (ps := ["numbers"]) fun _ _ _ _ _ _ us hl => match us, hl with | [_], _ => rfl
  obtain ⟨fd11, D11⟩ := c.t.d.def_ 11 (d := d_many_counts) rfl
  have F11 : Fun K "many_counts" "many_counts" s_many_counts (He.fAd K ("many_counts", none)) fd11 := fun_of D11
  have b11 := F11.binds (ps := ["numbers"]) fun _ _ _ _ _ _ us hl => match us, hl with | [_], _ => rfl
  obtain ⟨fd12, D12⟩ := c.t.d.def_ 12 (d := d_deck) rfl
  have F12 : Fun K "_law_deck" "_law_deck" s_deck (He.fAd K ("_law_deck", none)) fd12 := fun_of D12
  have b12 := F12.binds (ps := ["_law_script"]) fun _ _ _ _ _ _ us hl => match us, hl with | [_], _ => rfl
  obtain ⟨fd13, D13⟩ := c.t.d.def_ 13 (d := d_draw) rfl
  have F13 : Fun K "_law_draw" "_law_draw" s_draw (He.fAd K ("_law_draw", none)) fd13 := fun_of D13
  have b13 := F13.binds (ps := ["_law_deck_here", "_law_most"]) fun _ _ _ _ _ _ us hl => match us, hl with | [_, _], _ => rfl
  obtain ⟨fd14, D14⟩ := c.t.d.def_ 14 (d := d_told) rfl
  have F14 : Fun K "_law_told" "_law_told" s_told (He.fAd K ("_law_told", none)) fd14 := fun_of D14
  have b14 := F14.binds (ps := ["_law_does"]) fun _ _ _ _ _ _ us hl => match us, hl with | [_], _ => rfl
  obtain ⟨fd15, D15⟩ := c.t.d.def_ 15 (d := d_aimed) rfl
  have F15 : Fun K "_law_aimed" "_law_aimed" s_aimed (He.fAd K ("_law_aimed", none)) fd15 := fun_of D15
  have b15 := F15.binds (ps := ["_law_deck_here", "_law_numbers", "_law_aim"]) fun _ _ _ _ _ _ us hl => match us, hl with | [_, _, _], _ => rfl
  obtain ⟨fd16, D16⟩ := c.t.d.def_ 16 (d := d_sums) rfl
  have F16 : Fun K "_law_sums" "_law_sums" s_sums (He.fAd K ("_law_sums", none)) fd16 := fun_of D16
  have b16 := F16.binds (ps := ["_law_deck_here"]) fun _ _ _ _ _ _ us hl => match us, hl with | [_], _ => rfl
  obtain ⟨fd17, D17⟩ := c.t.d.def_ 17 (d := d_law) rfl
  have F17 : Fun K "law" "law" s_law (He.fAd K ("law", none)) fd17 := fun_of D17
  have b17 := F17.binds (ps := ["_law_script"]) fun _ _ _ _ _ _ us hl => match us, hl with | [_], _ => rfl
  obtain ⟨q_TooMany, kC_TooMany, su_TooMany, ty_TooMany⟩ := He.exc_ok (c.t.d.fact 38 (f := .exc "TooMany") rfl)
  have mo := c.more
  obtain ⟨y0, mo⟩ := He.ba mo
  obtain ⟨y1, mo⟩ := He.ba mo
  obtain ⟨y2, mo⟩ := He.ba mo
  obtain ⟨y3, mo⟩ := He.ba mo
  obtain ⟨y4, mo⟩ := He.ba mo
  obtain ⟨y5, mo⟩ := He.ba mo
  obtain ⟨y6, mo⟩ := He.ba mo
  obtain ⟨y7, mo⟩ := He.ba mo
  obtain ⟨y8, mo⟩ := He.ba mo
  obtain ⟨y9, mo⟩ := He.ba mo
  obtain ⟨y10, mo⟩ := He.ba mo
  obtain ⟨y11, mo⟩ := He.ba mo
  obtain ⟨y12, mo⟩ := He.ba mo
  obtain ⟨y13, mo⟩ := He.ba mo
  obtain ⟨y14, mo⟩ := He.ba mo
  obtain ⟨y15, mo⟩ := He.ba mo
  obtain ⟨y16, mo⟩ := He.ba mo
  obtain ⟨y17, mo⟩ := He.ba mo
  obtain ⟨y18, mo⟩ := He.ba mo
  have e := hfa.symm.trans (He.glo_ok X G (c.t.d.fact 17 (f := .glo "law") rfl))
  cases e
  let T : Tx K mg := { f_choices_of := _, fd_choices_of := _, F_choices_of := F0, g_choices_of := He.glo_ok X G (c.t.d.fact 0 (f := .glo "choices_of") rfl), b_choices_of := b0, f_table_worth := _, fd_table_worth := _, F_table_worth := F1, g_table_worth := He.glo_ok X G (c.t.d.fact 1 (f := .glo "table_worth") rfl), b_table_worth := b1, f_settled := _, fd_settled := _, F_settled := F2, g_settled := He.glo_ok X G (c.t.d.fact 2 (f := .glo "settled") rfl), b_settled := b2, f_greatest := _, fd_greatest := _, F_greatest := F3, g_greatest := He.glo_ok X G (c.t.d.fact 3 (f := .glo "greatest") rfl), b_greatest := b3, c_greatest := (He.cT K ("greatest", none)).1, P_greatest := (He.cT K ("greatest", none)).2, cd_greatest := code_of F3, f_input_numbers := _, fd_input_numbers := _, F_input_numbers := F4, g_input_numbers := He.glo_ok X G (c.t.d.fact 4 (f := .glo "input_numbers") rfl), b_input_numbers := b4, c_input_numbers := (He.cT K ("input_numbers", none)).1, P_input_numbers := (He.cT K ("input_numbers", none)).2, cd_input_numbers := code_of F4, f_parts_of := _, fd_parts_of := _, F_parts_of := F5, g_parts_of := He.glo_ok X G (c.t.d.fact 5 (f := .glo "parts_of") rfl), b_parts_of := b5, f_at_wires := _, fd_at_wires := _, F_at_wires := F6, g_at_wires := He.glo_ok X G (c.t.d.fact 6 (f := .glo "at_wires") rfl), b_at_wires := b6, c_at_wires := (He.cT K ("at_wires", none)).1, P_at_wires := (He.cT K ("at_wires", none)).2, cd_at_wires := code_of F6, f_gate_part := _, fd_gate_part := _, F_gate_part := F7, g_gate_part := He.glo_ok X G (c.t.d.fact 7 (f := .glo "gate_part") rfl), b_gate_part := b7, f_steps_from := _, fd_steps_from := _, F_steps_from := F8, g_steps_from := He.glo_ok X G (c.t.d.fact 8 (f := .glo "steps_from") rfl), b_steps_from := b8, f_worth_by := _, fd_worth_by := _, F_worth_by := F9, g_worth_by := He.glo_ok X G (c.t.d.fact 9 (f := .glo "worth_by") rfl), b_worth_by := b9, f_strides_of := _, fd_strides_of := _, F_strides_of := F10, g_strides_of := He.glo_ok X G (c.t.d.fact 10 (f := .glo "strides_of") rfl), b_strides_of := b10, f_many_counts := _, fd_many_counts := _, F_many_counts := F11, g_many_counts := He.glo_ok X G (c.t.d.fact 11 (f := .glo "many_counts") rfl), b_many_counts := b11, f_deck := _, fd_deck := _, F_deck := F12, g_deck := He.glo_ok X G (c.t.d.fact 12 (f := .glo "_law_deck") rfl), b_deck := b12, f_draw := _, fd_draw := _, F_draw := F13, g_draw := He.glo_ok X G (c.t.d.fact 13 (f := .glo "_law_draw") rfl), b_draw := b13, f_told := _, fd_told := _, F_told := F14, g_told := He.glo_ok X G (c.t.d.fact 14 (f := .glo "_law_told") rfl), b_told := b14, f_aimed := _, fd_aimed := _, F_aimed := F15, g_aimed := He.glo_ok X G (c.t.d.fact 15 (f := .glo "_law_aimed") rfl), b_aimed := b15, f_sums := _, fd_sums := _, F_sums := F16, g_sums := He.glo_ok X G (c.t.d.fact 16 (f := .glo "_law_sums") rfl), b_sums := b16, f_law := _, fd_law := _, F_law := F17, g_law := He.glo_ok X G (c.t.d.fact 17 (f := .glo "law") rfl), b_law := b17, c_law := (He.cT K ("law", none)).1, P_law := (He.cT K ("law", none)).2, cd_law := code_of F17, m_ValueError := He.free_ok X G (c.t.d.fact 18 (f := .free "ValueError") rfl), m_enumerate := He.free_ok X G (c.t.d.fact 19 (f := .free "enumerate") rfl), m_int := He.free_ok X G (c.t.d.fact 20 (f := .free "int") rfl), m_isinstance := He.free_ok X G (c.t.d.fact 21 (f := .free "isinstance") rfl), m_len := He.free_ok X G (c.t.d.fact 22 (f := .free "len") rfl), m_list := He.free_ok X G (c.t.d.fact 23 (f := .free "list") rfl), m_max := He.free_ok X G (c.t.d.fact 24 (f := .free "max") rfl), m_min := He.free_ok X G (c.t.d.fact 25 (f := .free "min") rfl), m_range := He.free_ok X G (c.t.d.fact 26 (f := .free "range") rfl), m_sum := He.free_ok X G (c.t.d.fact 27 (f := .free "sum") rfl), m_tuple := He.free_ok X G (c.t.d.fact 28 (f := .free "tuple") rfl), m_zip := He.free_ok X G (c.t.d.fact 29 (f := .free "zip") rfl), k_MOST_TURNS := He.int_ok X G (c.t.d.fact 30 (f := .int "MOST_TURNS" 12) rfl), C_NetError := _, gC_NetError := He.glo_ok X G (c.t.d.fact 31 (f := .glo "NetError") rfl), C_NoText := _, gC_NoText := He.glo_ok X G (c.t.d.fact 32 (f := .glo "NoText") rfl), C_TooMany := _, gC_TooMany := He.glo_ok X G (c.t.d.fact 33 (f := .glo "TooMany") rfl), C_NotFormula := _, gC_NotFormula := He.glo_ok X G (c.t.d.fact 34 (f := .glo "NotFormula") rfl), C_NoTurn := _, gC_NoTurn := He.glo_ok X G (c.t.d.fact 35 (f := .glo "NoTurn") rfl), C_NoForms := _, gC_NoForms := He.glo_ok X G (c.t.d.fact 36 (f := .glo "NoForms") rfl), C_NoRow := _, gC_NoRow := He.glo_ok X G (c.t.d.fact 37 (f := .glo "NoRow") rfl), q_TooMany := q_TooMany, kC_TooMany := kC_TooMany, su_TooMany := su_TooMany, ty_TooMany := ty_TooMany, X_TooMany := GxE.excC_ok y0, v_TooMany := of_decide_eq_true y1, t_TooMany_NetError := of_decide_eq_true y2, x_TooMany_NetError := of_decide_eq_true y3, t_TooMany_NoText := of_decide_eq_true y4, x_TooMany_NoText := of_decide_eq_true y5, t_TooMany_TooMany := of_decide_eq_true y6, x_TooMany_TooMany := of_decide_eq_true y7, t_TooMany_NotFormula := of_decide_eq_true y8, x_TooMany_NotFormula := of_decide_eq_true y9, t_TooMany_NoTurn := of_decide_eq_true y10, x_TooMany_NoTurn := of_decide_eq_true y11, t_TooMany_NoForms := of_decide_eq_true y12, x_TooMany_NoForms := of_decide_eq_true y13, t_TooMany_NoRow := of_decide_eq_true y14, x_TooMany_NoRow := of_decide_eq_true y15, n_law_greatest := of_decide_eq_true y16, n_law_input_numbers := of_decide_eq_true y17, n_law_at_wires := of_decide_eq_true y18 }
  refine ⟨fd17, tf.map (He.cT K), sp_law K T.tabs T.P_law, ?_, ?_, ?_, ?_, ?_, ?_⟩
  · rintro p hp
    obtain ⟨d, hd, rfl⟩ := List.mem_map.mp hp
    exact c.empty d hd
  · rintro p hp
    obtain ⟨d, hd, rfl⟩ := List.mem_map.mp hp
    exact c.out d hd
  · rintro p hp
    obtain ⟨d, hd, rfl⟩ := List.mem_map.mp hp
    exact PySem.W.codeHd_of_K X (c.hd d hd)
  · obtain ⟨oc, od, kV, doc, pm, an, cdv, ct, osl, rfl, lk, hcd⟩ := F17.ex
    exact fun s v => .of_eq rfl
  · intro H a ns hl hbits hT hS
    refine ⟨a, ns, rfl, hS, hl, fun P hP => ?_, hT (He.cT K ("law", none)) (List.mem_map.mpr ⟨_, (show (("law", none) : He.Defn) ∈ tf by decide), rfl⟩), fun _ => rfl⟩
    have hP : P ∈ (tf.map (He.cT K)).map (·.2) := hP
    obtain ⟨p, hp, rfl⟩ := List.mem_map.mp hP
    exact ⟨#[], hT p hp, by trivial⟩
  · intro base KB GB hTB
    have B : Tb base T := ⟨tab_of (hTB (He.cT K ("greatest", none)) (List.mem_map.mpr ⟨_, (show (("greatest", none) : He.Defn) ∈ tf by decide), rfl⟩)), tab_of (hTB (He.cT K ("input_numbers", none)) (List.mem_map.mpr ⟨_, (show (("input_numbers", none) : He.Defn) ∈ tf by decide), rfl⟩)), tab_of (hTB (He.cT K ("at_wires", none)) (List.mem_map.mpr ⟨_, (show (("at_wires", none) : He.Defn) ∈ tf by decide), rfl⟩)), tab_of (hTB (He.cT K ("law", none)) (List.mem_map.mpr ⟨_, (show (("law", none) : He.Defn) ∈ tf by decide), rfl⟩))⟩
    exact ok_law T B
end Gk
open PySem PySem.W PyProof.Rows
set_option maxRecDepth 100000 in
set_option maxHeartbeats 0 in
theorem PySem.Challenge.cw_glitchnet_k29_refused_just_beyond_twelve_holds : PySem.Challenge.rw_glitchnet_k29_refused_just_beyond_twelve.Holds := by
  w_on; o_law
  refine HandSHeadRun.head_any (r := OpenLaw.row PySem.Challenge.rw_glitchnet_k29_refused_just_beyond_twelve) (q := view (OpenLaw.row PySem.Challenge.rw_glitchnet_k29_refused_just_beyond_twelve).prog [29]) (H := Gk.hk) (ob := Gk.ob) (M := 3000) (loose := [("NetError" : PySem.Str), ("NoText" : PySem.Str), ("TooMany" : PySem.Str), ("NotFormula" : PySem.Str), ("NoTurn" : PySem.Str), ("NoForms" : PySem.Str), ("NoRow" : PySem.Str), ("choices_of" : PySem.Str), ("table_worth" : PySem.Str), ("settled" : PySem.Str), ("MOST_TURNS" : PySem.Str), ("greatest" : PySem.Str), ("input_numbers" : PySem.Str), ("parts_of" : PySem.Str), ("at_wires" : PySem.Str), ("gate_part" : PySem.Str), ("steps_from" : PySem.Str), ("worth_by" : PySem.Str), ("strides_of" : PySem.Str), ("many_counts" : PySem.Str), ("_law_deck" : PySem.Str), ("_law_draw" : PySem.Str), ("_law_told" : PySem.Str), ("_law_aimed" : PySem.Str), ("_law_sums" : PySem.Str)]) (d := HandSHeadRun.topDef (OpenLaw.row PySem.Challenge.rw_glitchnet_k29_refused_just_beyond_twelve).prog 29) (kwd := []) Gk.ob_eq
    (by kernel_rfl) (fun s => by kernel_rfl) Gk.run (by kernel_rfl) (by kernel_rfl) (by kernel_rfl) (by rfl) (by first | assumption | decide +kernel) (by decide +kernel) ⟨rfl, rfl, rfl, rfl, rfl, by decide +kernel⟩ ?hw ?hc
  case hw => w_witness2
  case hc =>
    refine LamX.walk_ofTsE (l := PySem.Challenge.rw_glitchnet_k29_refused_just_beyond_twelve) (n := 63) (k := 9) (x := "_law_script") (CX := fun _ => L2.CX0) rfl (by decide) (by kernel_rfl) ⟨rfl, by decide, by decide⟩ ?F (fun _ _ _ _ _ z => z)
    intro w mg fa h Y G hmg0
    obtain ⟨K, KX, c⟩ := Y
    have hmg : mg ("law" : PySem.Str) = some (.ref fa) := by
      have e : (HandSHeadRun.topDef (OpenLaw.row PySem.Challenge.rw_glitchnet_k29_refused_just_beyond_twelve).prog 29).name = ("law" : PySem.Str) := by kernel_rfl
      rw [← e]
      exact hmg0
    exact ⟨K, KX, Gk.facts KX G hmg c⟩
