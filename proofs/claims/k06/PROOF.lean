import PyProof.Rows.All
import Wide.All
import OpenK.AllK
import Wide.FinOn
import HandS.ForMost
import HandS.ForExc
import HandS.IsInst
import HandS.ExcIs
import HandS.ExcValue
import HandS.ExcCtx
import HandS.HotCalls
import HandS.ExcInitHot
import HandS.Head0
import HandS.Head1
import HandS.Head2
import HandS.HeadEnd
import HandS.HeadHook1
import HandS.HeadHook2
import HandS.HeadHook3
import HandS.HeadHook4
import HandS.HeadWalk
import HandS.Defaults
import HandS.ReplaceLit
import HandS.TupLe
import HandS.TupAny
import HandS.TupMul
import HandS.More
import HandS.Codes
import HandS.Conv
import HandS.Deep
import HandS.TupSets
import HandS.Style
import HandS.Strs
import HandS.AnyAll
import HandS.GenList
import HandS.JoinGen
import HandS.Zip
import HandS.Rev
import HandS.FStr
import HandS.RevTup
import KE.KUnpackStar
import PyProof.ReprLen
import PyProof.ReprRoads
import HandS.Text
import HandS.TryOnly
import HandS.StrMore
import PySem.Challenge.RW_glitchnet_k06_changes_and_refusals
set_option Elab.async false
set_option linter.all false
set_option maxRecDepth 100000
set_option maxHeartbeats 1000000
namespace Gk
open PySem PySem.Spec PyProof.Rows L2
/-! ### an exception handed on to a def -/
namespace GxE
open PySem PySem.Spec PyProof.Rows L2
/-- a caught exception, as it stands -/
def ExP (a : Addr) (oe : Obj) : HO := .ext fun h => h.get? a = some oe
theorem exP_ok {P : Program} {w : World} {H : Hp} {h : Heap} {a : Addr} {oe : Obj} (e : h.get? a = some oe) : ObjOk P w H h a (ExP a oe) := ⟨e, ⟨oe, e⟩, fun _ _ q k => k _ q⟩
/-- it is seen: told of, or there since the law began -/
def Seen (base : Heap) (H : Hp) (a : Addr) (oe : Obj) : Prop := H a = some (ExP a oe) ∨ base.get? a = some oe
theorem Seen.same {base : Heap} {H H' : Hp} {a : Addr} {oe : Obj} (h : Seen base H a oe) (s : Same H H') : Seen base H' a oe := h.imp (fun e => s _ _ e) id
section
variable {X : Cx} {pins : List (Addr × Obj)} {σ : L2.St} {H : Hp} {s : Shared}
theorem seen_at {a : Addr} {oe : Obj} (I : Inv X pins σ H s) (h : Seen X.base H a oe) : s.heap.get? a = some oe := by
  rcases h with h | h
  · exact (I.hok a _ h).1
  · exact (I.bs a oe h).1
theorem inst_of {h : Heap} {a D : Addr} {oe : Obj} (e : h.get? a = some oe) (hz : Zc (.ref D) none oe) (hf : ∃ vs, oe.data = .fields vs) : PySem.W.InstAt h a oe D none := by
  obtain ⟨vs, hv⟩ := hf
  obtain ⟨oc, od, oda, osl⟩ := oe
  obtain ⟨h1, h2⟩ := hz
  dsimp only at h1 h2 hv
  subst h1 h2 hv
  exact ⟨e, rfl, rfl, trivial⟩
/-- isinstance(e, c) -/
def rIsX (K : PySem.W.Frag) (base : Heap) : List V → Hp → VK → Prop := fun xs H Q => ∃ (a D : Addr) (oe : Obj) (c : V) (cv : Value) (b : Bool), xs = [.ref a, c] ∧ Seen base H a oe ∧ Zc (.ref D) none oe ∧ (∃ vs, oe.data = .fields vs) ∧ ExcC K D ∧ ClsV c cv ∧ PySem.W.kitOne K (.ref D) cv = some b ∧ Q (.bl b) H
theorem call_isX : CallR X (.builtin "isinstance") (rIsX X.K X.base) := by
  intro pins s σ H xs us Q I r h
  obtain ⟨a, D, oe, c, cv, b, rfl, seen, hz, hf, C, k, e, q⟩ := h
  obtain ⟨u1, u2, rfl, r1, r2⟩ := vals2 r
  have e2 := k.eq r2
  subst e2
  cases (show u1 = Value.ref a from r1)
  exact PySem.W.kia_one (PySem.W.handS_kitx_exc C.hg C.hk C.hs C.hd C.ha C.hn C.ht C.hm) I.kIn (inst_of (seen_at I seen) hz hf) e (fun z => nomatch z) fun tk => ⟨.bl b, H, I.tok tk, rfl, q⟩
/-- isinstance(e, (c1, c2, ..)) -/
def rIsXT (K : PySem.W.Frag) (base : Heap) : List V → Hp → VK → Prop := fun xs H Q => ∃ (a D : Addr) (oe : Obj) (tp : Addr) (cs : List V) (us : List Value) (b : Bool), xs = [.ref a, .ref tp] ∧ Seen base H a oe ∧ Zc (.ref D) none oe ∧ (∃ vs, oe.data = .fields vs) ∧ ExcC K D ∧ H tp = some (.tup cs) ∧ Paired ClsV cs us ∧ PySem.W.kitAny K (.ref D) us = some b ∧ Q (.bl b) H
theorem call_isXT : CallR X (.builtin "isinstance") (rIsXT X.K X.base) := by
  intro pins s σ H xs us Q I r h
  obtain ⟨a, D, oe, tp, cs, ws, b, rfl, seen, hz, hf, C, hT, k, e, q⟩ := h
  obtain ⟨u1, u2, rfl, r1, r2⟩ := vals2 r
  cases (show u1 = Value.ref a from r1)
  cases (show u2 = Value.ref tp from r2)
  obtain ⟨_, its, rv, o, h1, h2, n, h3⟩ := (show ObjOk X.prog X.w H s.heap tp (.tup cs) from I.hok tp _ hT)
  have e3 := ClsV.all k rv
  subst e3
  obtain ⟨oc, od, dt, sl⟩ := o
  simp only at h2 h3
  subst h2 h3
  exact PySem.W.kia_tup (PySem.W.handS_kitx_exc C.hg C.hk C.hs C.hd C.ha C.hn C.ht C.hm) I.kIn (inst_of (seen_at I seen) hz hf) h1 e (fun z => nomatch z) fun tk => ⟨.bl b, H, I.tok tk, rfl, q⟩
end
section
variable {P : Program} {w : World} {H H' : Hp} {h h' : Heap} {a : Addr} {oe : Obj}
theorem hok_add (x : HOk P w H h) (n : H a = none) (e : h.get? a = some oe) : HOk P w (upd H a (ExP a oe)) h := HOk.laidN x (fun _ _ z => z) n (exP_ok e)
theorem paired_imp {α β : Type} {R S : α → β → Prop} (f : ∀ a b, R a b → S a b) : ∀ {xs : List α} {ys : List β}, Paired R xs ys → Paired S xs ys
  | _, _, .nil => .nil
  | _, _, .cons r t => .cons (f _ _ r) (paired_imp f t)
/-- without what is only told of -/
theorem objOk_del {φ : Heap → Prop} (ha : H a = some (.ext φ)) : ∀ (u : HO) (b : Addr), ObjOk P w H h b u → ObjOk P w (delH H a) h b u := by
  have tup : ∀ {b xs}, H b = some (.tup xs) → delH H a b = some (.tup xs) := fun {b xs} e => by
    rw [delH_ne (fun z => by rw [z, ha] at e; cases e)]
    exact e
  have own : ∀ {b c}, H b = some (.own c) → delH H a b = some (.own c) := fun {b c} e => by
    rw [delH_ne (fun z => by rw [z, ha] at e; cases e)]
    exact e
  intro u
  induction u with
  | dT kvs =>
    rintro b ⟨h1, h2, xs, p, r⟩
    refine ⟨h1, h2, xs, ?_, r⟩
    exact paired_imp (fun _ _ ⟨q1, q2, q3⟩ => ⟨q1, tup q2, q3⟩) p
  | ins C dx fs =>
    rintro b ⟨h1, r⟩
    exact ⟨own h1, r⟩
  | frz o u ih =>
    rintro b ⟨h1, h2⟩
    exact ⟨h1, ih b h2⟩
  | _ => exact fun b x => x
theorem hok_del {φ : Heap → Prop} (x : HOk P w H h) (ha : H a = some (.ext φ)) : HOk P w (delH H a) h := fun b u e => by
  by_cases hb : b = a
  · rw [hb, delH_same] at e
    cases e
  · rw [delH_ne hb] at e
    exact objOk_del ha u b (x b u e)
end
section
variable {fs : List Addr} {H H2 : Hp} {h h' : Heap} {a : Addr} {oe : Obj}
theorem un_del (u : Un fs [] (upd H a (ExP a oe)) H2 h h') (n : H a = none) (e : h.get? a = some oe) (e' : h'.get? a = some oe) : Un fs [] H (delH H2 a) h h' := by
  have ne : ∀ {b : Addr} {o : HO}, H b = some o → b ≠ a := fun {b o} q z => by rw [z, n] at q; cases q
  refine ⟨fun b o q nb hb hx => ?_, fun b o q nb hb hx => ?_, fun b o q nb hx => ?_, fun b o q hx => u.there b o q hx, fun b xs q => ?_, fun b o v q => ?_, fun b ps q => ?_⟩
  · by_cases hz : b = a
    · rw [hz] at q ⊢
      rw [e] at q
      rw [e', ← q]
    · exact u.keep b o q (by rw [upd_ne hz]; exact nb) hb hx
  · by_cases hz : b = a
    · rw [hz] at q ⊢
      rw [e] at q
      cases q
      exact ⟨oe.slots, e'⟩
    · exact u.slot b o q (by rw [upd_ne hz]; exact nb) hb hx
  · by_cases hz : b = a
    · rw [hz]; exact delH_same
    · rw [delH_ne hz]
      exact u.free b o q (by rw [upd_ne hz]; exact nb) hx
  · rw [delH_ne (ne q)]
    exact u.tups b xs (by rw [upd_ne (ne q)]; exact q)
  · rw [delH_ne (ne q)]
    exact u.frzs b o v (by rw [upd_ne (ne q)]; exact q)
  · rw [delH_ne (ne q)]
    exact u.tbls b ps (by rw [upd_ne (ne q)]; exact q)
end
/-! ### a def that runs also where an exception is handled -/
structure FnR (P : Program) (w : World) (K : PySem.W.Frag) (mg : PySem.Str → Option Value) (base : Heap) (k : Nat) (f : Addr) (fd : FuncData) (ps : List PySem.Str) (sp : Sp) : Prop where
  len : ∀ vs H Q E, sp vs H Q E → vs.length = ps.length
  run : ∀ (A : Around) (outer : List Env) (s : Shared) (H : Hp) (args : Args) (us : List Value) (vs : List V) (Q : VK), L2H.RoomH k A → Env0 P w K mg base A outer s H → BindsTo s fd args (ps.zip us) → Vals vs us → sp vs H Q E0 →
    codeAny (model P w) A (.call (.ref f) args) (CR CX0 outer P w H s Q E0) s
theorem okR {P : Program} {w : World} {K : PySem.W.Frag} {mg : PySem.Str → Option Value} {base : Heap} {x qual : PySem.Str} {st : Stmt} {f : Addr} {fd : FuncData} {N ps : List PySem.Str} {k : Nat} {sp : Sp} (F : Fun K x qual st f fd) (S : FnScope N ps (defScope st)) (len : ∀ vs H Q E, sp vs H Q E → vs.length = ps.length)
    (body : ∀ (cdv : Value) (A : Around) (outer : List Env) (s : Shared) (H : Hp) (vs : List V) (Q : VK) (p : Addr × Obj), L2H.RoomH k (A.deeper (envOfC qual (defScope st) s.heap.objs.size f cdv)) → sp vs H Q E0 →
      ∃ t, PSs (L2H.cxH CX0 P w K mg base N qual (defScope st) f cdv A outer s H E0 p) (defBody st) t ∧ t { nx := fun _ H' => Q .non H', rt := Q } (L2.start N vs) H) : FnR P w K mg base (k + 1) f fd ps sp := by
  obtain ⟨oc, od, kV, doc, pm, an, cdv, ct, osl, rfl, lk, hcd⟩ := F.ex
  refine ⟨len, fun A outer s H args us vs Q hr e0 hb r hsp => ?_⟩
  have kin : K.In s.heap := e0.mod.kin.keeps fun b o e => (e0.bs b o e).1
  have nol : s.heap.NoLimit := e0.mod.nolimit.keeps fun b o e => (e0.bs b o e).1
  obtain ⟨go, ges, gep, hgo, hgx⟩ := id e0.mod.glob
  have pin : L2H.PinOk outer H s (mainGlobals, go) := by
    refine ⟨(e0.bs _ _ hgo).1, (e0.bs _ _ hgo).2, fun hm => ?_, fun v z => ?_⟩
    · have z := (e0.funs.mem hm).1
      rw [hgo] at z
      cases z
    · have z : go.data = .cell v := z
      rw [hgx.1] at z
      cases z
  have places : ∀ y ∈ ps.zip us, (defScope st).names.lookup y.1 = some .local ∨ ((defScope st).names.lookup y.1 = some .cell ∧ ((cellsFrom (s.heap.objs.size + 1) (defScope st).names []).lookup y.1).isSome = true) := fun ⟨n, v⟩ hy => by
    rcases S.par n (List.of_mem_zip hy).1 with q | q
    · exact .inl q
    · exact .inr ⟨q, PySem.W.cellsFrom_some _ _ _ (.inl q)⟩
  refine codeAny_call_function hr.depth (kin _ _ lk) rfl S.co S.gen rfl (PySem.W.codeRec_of kin hcd) (hb _ _ _ _ ?_)
  refine wpAny_newFunctionEnv_cells S.kind places fun env he s1 x => ?_
  subst he
  refine ⟨nol.keeps x.toInCall.keep, codeAny_func ?_⟩
  obtain ⟨t, ht, hq⟩ := body cdv A outer s H vs Q (mainGlobals, go) (hr.deeper _) hsp
  have I := L2H.inv_startH (CX := CX0) (E := E0) (f := f) (cd := cdv) (qual := qual) S pin e0 (len _ _ _ _ hsp) r x
  refine wpAny_mono (ht.run [] s1 (L2.start N vs) H _ I hq) (fun fl s' hs => ?_) fun e s' hs => hs
  cases fl with
  | ret u =>
    obtain ⟨v, σ', H', J, rv, q⟩ := hs
    exact ⟨v, H', J.os, J.bare, J.base, J.hok, rv, q⟩
  | next =>
    obtain ⟨σ', H', J, q⟩ := hs
    exact ⟨.non, H', J.os, J.bare, J.base, J.hok, rfl, q⟩
  | brk =>
    obtain ⟨_, _, _, q⟩ := hs
    exact False.elim q
  | cont =>
    obtain ⟨_, _, _, q⟩ := hs
    exact False.elim q
section
variable {X : Cx} {k : Nat} {f : Addr} {fd : FuncData} {ps : List PySem.Str} {sp : Sp} {x : PySem.Str} {p pos : Pos} {e : Expr} {es : List Expr} {t : TA} {a : Addr} {oe : Obj} {pn : List (Addr × Obj)} {cls : Value} {d : Option Addr}
/-- f(.., e, ..) in an except suite, e the exception -/
def tCallX (base : Heap) (a : Addr) (cls : Value) (d : Option Addr) (sp : Sp) (t : TA) : TE := fun σ H Q => t σ H fun vs H1 => ∀ oe : Obj, Zc cls d oe → (∃ vs, oe.data = .fields vs) →
  (H1 a = none → sp vs (upd H1 a (ExP a oe)) (fun v H2 => H2 a = some (ExP a oe) ∧ Q v (delH H2 a)) E0) ∧ (base.get? a = some oe → sp vs H1 Q E0)
theorem pe_callX (hz : Zc cls d oe) (hf : ∃ vs, oe.data = .fields vs) (F : FnR X.prog X.w X.K X.mg X.base k f fd ps sp) (hr : L2H.RoomH k (X.suite a ((a, oe) :: pn)).A) (hg : Gl X x) (hm : X.mg x = some (.ref f)) (hk : PySem.W.keepIn X.K (.ref f) = true) (hb : Binds X.K fd ps [])
    (ha : PA (X.suite a ((a, oe) :: pn)) (e :: es) t) (hdb : (x == ("__debug__" : PySem.Str)) = false := by decide) (he : starEach (e :: es) X.env = (false, eval e X.env) :: starEach es X.env := by rfl) (hpl : (backTo pos (starEach es X.env)).any (·.1) = false := by rfl) :
    PE (X.suite a ((a, oe) :: pn)) (.Call (.Name x p) (e :: es) [] pos) (tCallX X.base a cls d sp t) := by
  refine ⟨fun pins s σ H Q I h => ?_⟩
  refine wpAny_Call_Name_kw (ld_glob (X := X.suite a ((a, oe) :: pn)) I hg hm ?_ hdb)
  refine PySem.W.callWith_K (h₀ := X.base) I.ok.mod.kin hk (thn (ha.run pos pins s σ H _ I h) fun us s1 ⟨vs, H1, I1, r, q0⟩ => ⟨I1.kIn, ?_⟩) he hpl
  have q := q0 oe hz hf
  have pin := I1.pin (a, oe) (List.mem_append.mpr (.inl List.mem_cons_self))
  have e0 := I1.env0
  have na : H1 a = none := pin.2.1
  have bind : ∀ {H2 : Hp} {Q2 : VK}, sp vs H2 Q2 E0 → BindsTo s1 fd ⟨us, []⟩ (ps.zip us) := fun {H2 Q2} z => by
    have hl : (us ++ ([] : List Value)).length = ps.length := by rw [List.append_nil, ← r.length]; exact F.len _ _ _ _ z
    have y := hb s1 us I1.kIn hl
    rw [List.append_nil] at y
    exact y
  cases hbase : X.base.get? a with
  | some o =>
    have := (e0.bs a o hbase).1
    rw [pin.1] at this
    cases Option.some.inj this
    have h2 := q.2 hbase
    refine wpAny_call (codeAny_mono (F.run _ _ s1 _ ⟨us, []⟩ us vs _ hr e0 (bind h2) r h2) fun r' s' hq => ?_)
    cases r' with
    | error e' => exact False.elim hq
    | ok fl =>
      cases fl with
      | ret u => exact I1.after hq
      | next => exact False.elim hq
      | brk => exact False.elim hq
      | cont => exact False.elim hq
  | none =>
    have h2 := q.1 na
    have E1 : Env0 X.prog X.w X.K X.mg X.base (X.suite a ((a, oe) :: pn)).A (X.suite a ((a, oe) :: pn)).stack s1 (upd H1 a (ExP a oe)) :=
      ⟨e0.frames, e0.mod, fun b o z => ⟨(e0.bs b o z).1, by rw [upd_ne (fun y => by rw [y, hbase] at z; cases z)]; exact (e0.bs b o z).2⟩, e0.bsz, e0.funs, fun b hb' => by
        by_cases y : b = a
        · exfalso
          obtain ⟨_, o, ho, hnf⟩ := e0.funs.mem (show b ∈ frs _ from hb')
          rw [y, pin.1] at ho
          cases ho
          obtain ⟨vs', hv⟩ := hf
          exact hnf vs' hv
        · rw [upd_ne y]; exact e0.frf b hb', hok_add e0.hok na pin.1, e0.bare⟩
    refine wpAny_call (codeAny_mono (F.run _ _ s1 _ ⟨us, []⟩ us vs _ hr E1 (bind h2) r h2) fun r' s' hq => ?_)
    cases r' with
    | error e' => exact False.elim hq
    | ok fl =>
      cases fl with
      | ret u =>
        obtain ⟨v, H', os, bare, un, hok, rv, q1, q2⟩ := hq
        have e' : s'.heap.get? a = some oe := (hok a _ q1).1
        exact I1.after ⟨v, delH H' a, os, bare, un_del un na pin.1 e', hok_del hok q1, rv, q2⟩
      | next => exact False.elim hq
      | brk => exact False.elim hq
      | cont => exact False.elim hq
end
/-! ### defs that raise -/
theorem okN {P : Program} {w : World} {K : PySem.W.Frag} {mg : PySem.Str → Option Value} {base : Heap} {x qual : PySem.Str} {st : Stmt} {f : Addr} {fd : FuncData} {N ps : List PySem.Str} {k : Nat} {sp : Sp} (F : Fun K x qual st f fd) (S : FnScope N ps (defScope st)) (len : ∀ vs H Q E, sp vs H Q E → vs.length = ps.length)
    (body : ∀ (cdv : Value) (A : Around) (outer : List Env) (s : Shared) (H : Hp) (vs : List V) (Q : VK) (E : XK), Room k (A.deeper (envOfC qual (defScope st) s.heap.objs.size f cdv)) → sp vs H Q E →
      ∃ t, PSs (cxOf (L2N.CX P w) P w K mg base N qual (defScope st) f cdv A outer s H E) (defBody st) t ∧ t { nx := fun _ H' => Q .non H', rt := Q } (L2.start N vs) H) : FnOk P w K mg base (L2N.CX P w) (k + 1) f fd ps sp := by
  obtain ⟨oc, od, kV, doc, pm, an, cdv, ct, osl, rfl, lk, hcd⟩ := F.ex
  exact fn_of lk hcd S len fun A outer s H vs Q E hr hsp => body cdv A outer s H vs Q E hr hsp
theorem takesE {P : Program} {w : World} {K : PySem.W.Frag} {mg : PySem.Str → Option Value} {base : Heap} {N : List PySem.Str} {qual : PySem.Str} {sc : Scope} {f : Addr} {cd : Value} {A : Around} {outer : List Env} {s : Shared} {H : Hp} {E : XK} :
    L2N.Takes (cxOf (L2N.CX P w) P w K mg base N qual sc f cd A outer s H E) (fun cls d _ H => E cls d H) := L2N.takes_of rfl rfl rfl rfl
theorem takesN {X : Cx} : L2N.Takes X (fun _ _ _ _ => False) := fun _ _ x => by
  obtain ⟨_, _, _, _, _, _, _, _, _, _, _, _, _, _, _, _, z⟩ := x
  exact z.elim
end GxE
/-! ### what the top says of classes and of tuples of texts -/
namespace GxE
open PySem PySem.Spec PyProof.Rows L2
def excCB (K : PySem.W.Frag) (D : Addr) : Bool :=
  decide (PySem.W.findIn K (.ref D) "__getattribute__" = some (some (.builtin "BaseException.__getattribute__"))) && (decide (PySem.W.findIn K (.ref D) "__getattr__" = some none) &&
  (decide (PySem.W.subIn K (.ref D) (.type "BaseException") = some true) && (PySem.W.hasDictIn K D && (decide (PySem.W.findIn K (.ref D) "__class__" = some (some (.builtin "object.__class__"))) &&
  (decide (PySem.W.specialIn K (.builtin "object.__class__") "__get__" = some (some (.builtin "getset_descriptor.__get__"))) && (decide (PySem.W.takesIn K (.builtin "object.__class__") = some true) && decide (PySem.W.mroIn K D (.type "object") = some true)))))))
theorem excC_ok {K : PySem.W.Frag} {D : Addr} (h : excCB K D = true) : ExcC K D := by
  obtain ⟨h1, h⟩ := He.ba h
  obtain ⟨h2, h⟩ := He.ba h
  obtain ⟨h3, h⟩ := He.ba h
  obtain ⟨h4, h⟩ := He.ba h
  obtain ⟨h5, h⟩ := He.ba h
  obtain ⟨h6, h⟩ := He.ba h
  obtain ⟨h7, h8⟩ := He.ba h
  exact ⟨of_decide_eq_true h1, of_decide_eq_true h2, of_decide_eq_true h3, h4, of_decide_eq_true h5, of_decide_eq_true h6, of_decide_eq_true h7, of_decide_eq_true h8⟩
def strsB : List PySem.Str → List Value → Bool
  | [], [] => true
  | x :: r, .str y _ :: t => decide (y = x) && strsB r t
  | _, _ => false
theorem strsB_ok : ∀ {xs : List PySem.Str} {us : List Value}, strsB xs us = true → Vals (xs.map V.str) us
  | [], [], _ => .nil
  | x :: r, u :: t, h => by
    cases u with
    | str y k =>
      obtain ⟨h1, h2⟩ := He.ba h
      cases of_decide_eq_true h1
      exact .cons ⟨k, rfl⟩ (strsB_ok h2)
    | _ => cases h
  | [], _ :: _, h => by cases h
  | _ :: _, [], h => by cases h
def tupB (K : PySem.W.Frag) (x : PySem.Str) (xs : List PySem.Str) : Bool := match K.lookup (He.ga K x) with
  | some ⟨.type "tuple", none, .seq its _, _⟩ => strsB xs its.toList && decide (its.size ≤ 1000)
  | _ => false
theorem tupB_ok {K : PySem.W.Frag} {x : PySem.Str} {xs : List PySem.Str} (h : tupB K x xs = true) (H : Hp) : SqT K H (He.ga K x) (xs.map V.str) := by
  unfold tupB at h
  split at h
  · rename_i its n sl e
    obtain ⟨h1, h2⟩ := He.ba h
    exact .inr ⟨_, its, n, e, rfl, rfl, Nat.le_trans (of_decide_eq_true h2) (by decide), strsB_ok h1⟩
  · cases h
theorem tupB_ty {K : PySem.W.Frag} {x : PySem.Str} {xs : List PySem.Str} (h : tupB K x xs = true) : ∃ o, K.lookup (He.ga K x) = some o ∧ o.cls = .type "tuple" ∧ o.dict = none := by
  unfold tupB at h
  split at h
  · rename_i its n sl e
    exact ⟨_, e, rfl, rfl⟩
  · cases h
end GxE

/-! ### calls within a def that runs in an except suite; isinstance in the suite itself; X(e) -/
namespace GxE
open PySem PySem.Spec PyProof.Rows L2
section
variable {X : Cx} {k : Nat} {f : Addr} {fd : FuncData} {ps : List PySem.Str} {sp : Sp} {x : PySem.Str} {p pos : Pos} {e : Expr} {es : List Expr} {t : TA} {a : Addr} {oe : Obj} {pn : List (Addr × Obj)} {cls : Value} {d : Option Addr}
def tCallR (sp : Sp) (t : TA) : TE := fun σ H Q => t σ H fun vs H1 => sp vs H1 Q E0
theorem pe_callR (F : FnR X.prog X.w X.K X.mg X.base k f fd ps sp) (hr : L2H.RoomH k X.A) (hg : Gl X x) (hm : X.mg x = some (.ref f)) (hk : PySem.W.keepIn X.K (.ref f) = true) (hb : Binds X.K fd ps [])
    (ha : PA X (e :: es) t) (hdb : (x == ("__debug__" : PySem.Str)) = false := by decide) (he : starEach (e :: es) X.env = (false, eval e X.env) :: starEach es X.env := by rfl) (hpl : (backTo pos (starEach es X.env)).any (·.1) = false := by rfl) :
    PE X (.Call (.Name x p) (e :: es) [] pos) (tCallR sp t) := by
  refine ⟨fun pins s σ H Q I h => ?_⟩
  refine wpAny_Call_Name_kw (ld_glob I hg hm ?_ hdb)
  refine PySem.W.callWith_K (h₀ := X.base) I.ok.mod.kin hk (thn (ha.run pos pins s σ H _ I h) fun us s1 ⟨vs, H1, I1, r, q⟩ => ⟨I1.kIn, ?_⟩) he hpl
  have hl : (us ++ ([] : List Value)).length = ps.length := by rw [List.append_nil, ← r.length]; exact F.len _ _ _ _ q
  have y := hb s1 us I1.kIn hl
  rw [List.append_nil] at y
  refine wpAny_call (codeAny_mono (F.run _ _ s1 _ ⟨us, []⟩ us vs _ hr I1.env0 y r q) fun r' s' hq => ?_)
  cases r' with
  | error e' => exact False.elim hq
  | ok fl =>
    cases fl with
    | ret u => exact I1.after hq
    | next => exact False.elim hq
    | brk => exact False.elim hq
    | cont => exact False.elim hq
/-- isinstance(e, c) in the suite -/
def rIsP (K : PySem.W.Frag) (a : Addr) (cls : Value) (d : Option Addr) : List V → Hp → VK → Prop := fun xs H Q => ∃ (D : Addr) (c : V) (cv : Value) (b : Bool), xs = [.ref a, c] ∧ cls = .ref D ∧ d = none ∧ ExcC K D ∧ ClsV c cv ∧ PySem.W.kitOne K (.ref D) cv = some b ∧ Q (.bl b) H
theorem call_isP (hz : Zc cls d oe) (hf : ∃ vs, oe.data = .fields vs) : CallR (X.suite a ((a, oe) :: pn)) (.builtin "isinstance") (rIsP X.K a cls d) := by
  intro pins s σ H xs us Q I r h
  obtain ⟨D, c, cv, b, rfl, rfl, rfl, C, k, e, q⟩ := h
  obtain ⟨u1, u2, rfl, r1, r2⟩ := vals2 r
  have e2 := k.eq r2
  subst e2
  cases (show u1 = Value.ref a from r1)
  have pin := I.pin (a, oe) (List.mem_append.mpr (.inl List.mem_cons_self))
  exact PySem.W.kia_one (PySem.W.handS_kitx_exc C.hg C.hk C.hs C.hd C.ha C.hn C.ht C.hm) I.kIn (inst_of pin.1 hz hf) e (fun z => nomatch z) fun tk => ⟨.bl b, H, I.tok tk, rfl, q⟩
def rIsPT (K : PySem.W.Frag) (a : Addr) (cls : Value) (d : Option Addr) : List V → Hp → VK → Prop := fun xs H Q => ∃ (D tp : Addr) (cs : List V) (us : List Value) (b : Bool), xs = [.ref a, .ref tp] ∧ cls = .ref D ∧ d = none ∧ ExcC K D ∧ H tp = some (.tup cs) ∧ Paired ClsV cs us ∧ PySem.W.kitAny K (.ref D) us = some b ∧ Q (.bl b) H
theorem call_isPT (hz : Zc cls d oe) (hf : ∃ vs, oe.data = .fields vs) : CallR (X.suite a ((a, oe) :: pn)) (.builtin "isinstance") (rIsPT X.K a cls d) := by
  intro pins s σ H xs us Q I r h
  obtain ⟨D, tp, cs, ws, b, rfl, rfl, rfl, C, hT, k, e, q⟩ := h
  obtain ⟨u1, u2, rfl, r1, r2⟩ := vals2 r
  cases (show u1 = Value.ref a from r1)
  cases (show u2 = Value.ref tp from r2)
  obtain ⟨_, its, rv, o, h1, h2, n, h3⟩ := (show ObjOk X.prog X.w H s.heap tp (.tup cs) from I.hok tp _ hT)
  have e3 := ClsV.all k rv
  subst e3
  obtain ⟨oc, od, dt, sl⟩ := o
  simp only at h2 h3
  subst h2 h3
  have pin := I.pin (a, oe) (List.mem_append.mpr (.inl List.mem_cons_self))
  exact PySem.W.kia_tup (PySem.W.handS_kitx_exc C.hg C.hk C.hs C.hd C.ha C.hn C.ht C.hm) I.kIn (inst_of pin.1 hz hf) h1 e (fun z => nomatch z) fun tk => ⟨.bl b, H, I.tok tk, rfl, q⟩
end
section
variable {X : Cx}
/-- X(e), e a value -/
theorem pmk_one {C : Addr} {bmB : List Value} {B newId initId : String} {x : PySem.Str} {e : Expr} {ta : TE} {p pos : Pos} (F : ExcBaseFacts B newId initId bmB) (q : PySem.W.excIn X.K C bmB newId = true) (gC : X.mg x = some (.ref C)) (kC : PySem.W.keepIn X.K (.ref C) = true) (r : Raises X (.ref C)) (hg : Gl X x)
    (he : PE X e ta) (hs : starEach [e] X.env = (false, eval e X.env) :: starEach [] X.env := by rfl) (hdb : (x == ("__debug__" : PySem.Str)) = false := by decide) :
    L2N.PMk X (.Call (.Name x p) [e] [] pos) (fun σ H Q => ta σ H fun _ H1 => Q (.ref C) none H1) := by
  intro pins s σ H Q I h
  refine wpAny_Call_Name_kw (ld_glob I hg gC ?_ hdb)
  refine PySem.W.callWith_K (h₀ := X.base) I.ok.mod.kin kC ?_ hs (by rfl)
  rw [hs]
  show wpAny _ _ (spliced ((false, eval e X.env) :: backTo pos (starEach [] X.env))) _ _ s
  refine Calls.spliced_cons (thn (he.run pins s σ H _ I h) fun u s1 ⟨v, H1, I1, r1, q1⟩ => ?_)
  refine Calls.spliced_nil ⟨I1.kIn, ?_⟩
  show wpAny _ _ (call (.ref C) [u]) _ _ _
  obtain ⟨bm, N, nm, qn, bs, hdct, sn, sub, ab, col, dd, k0, k1, k2, k3, k5, mN, hC, hN, hni, T⟩ := exc_obj I1.kIn q
  refine wpAny_call_exc_subT F T hC hN hni (fun h' e hm => ?_) (by show 1 ≤ sizeLine; rw [sizeLine_eq]; omega)
  exact L2N.mk_of I1 hm r q1 (I1.hok.gone hm.new)
end
end GxE
theorem GxE.unH {k : Nat} {A : Around} (h : L2H.RoomH k A) : A.units + 64 < cLine := by
  have := h.un
  omega

end Gk

set_option Elab.async false
set_option linter.all false
set_option maxRecDepth 100000
set_option maxHeartbeats 1000000
namespace Gk
open PySem PySem.Spec PyProof.Rows L2
/-! ### the text -/
def topS (i : Nat) : Stmt := PySem.Challenge.pw_glitchnet_k06_changes_and_refusals.main.body.getD i (.Pass ⟨0, 0, 0, 0⟩)
abbrev s_is_signs : Stmt := topS 9
abbrev s_show_row : Stmt := topS 11
abbrev s_show_change : Stmt := topS 12
abbrev s_read_change : Stmt := topS 13
abbrev s_read_row : Stmt := topS 14
abbrev s_deck : Stmt := topS 16
abbrev s_mixed : Stmt := topS 17
abbrev s_take : Stmt := topS 18
abbrev s_kinds : Stmt := topS 19
abbrev s_refused : Stmt := topS 20
abbrev s_bent : Stmt := topS 21
abbrev s_row : Stmt := topS 22
abbrev s_shown : Stmt := topS 23
abbrev s_read : Stmt := topS 24
abbrev s_told : Stmt := topS 25
abbrev s_right : Stmt := topS 26
abbrev s_raised : Stmt := topS 27
abbrev s_law : Stmt := topS 28
theorem sc_is_signs : FnScope ["many", "thing", "sign"] ["many", "thing"] (defScope s_is_signs) := ⟨rfl, rfl, rfl, by decide +kernel, rfl, by decide +kernel, by decide +kernel⟩
theorem sc_show_row : FnScope ["row", "worth"] ["row"] (defScope s_show_row) := ⟨rfl, rfl, rfl, by decide +kernel, rfl, by decide +kernel, by decide +kernel⟩
theorem sc_show_change : FnScope ["change", "a", "b"] ["change"] (defScope s_show_change) := ⟨rfl, rfl, rfl, by decide +kernel, rfl, by decide +kernel, by decide +kernel⟩
theorem sc_read_change : FnScope ["many", "text", "rows", "a", "b", "row"] ["many", "text"] (defScope s_read_change) := ⟨rfl, rfl, rfl, by decide +kernel, rfl, by decide +kernel, by decide +kernel⟩
theorem sc_read_row : FnScope ["signs", "sign"] ["signs"] (defScope s_read_row) := ⟨rfl, rfl, rfl, by decide +kernel, rfl, by decide +kernel, by decide +kernel⟩
theorem sc_deck : FnScope ["_law_script"] ["_law_script"] (defScope s_deck) := ⟨rfl, rfl, rfl, by decide +kernel, rfl, by decide +kernel, by decide +kernel⟩
theorem sc_mixed : FnScope ["_law_cell", "_law_k", "_law_number"] ["_law_cell", "_law_k"] (defScope s_mixed) := ⟨rfl, rfl, rfl, by decide +kernel, rfl, by decide +kernel, by decide +kernel⟩
theorem sc_take : FnScope ["_law_deck_here", "_law_most", "_law_cells", "_law_cell"] ["_law_deck_here", "_law_most"] (defScope s_take) := ⟨rfl, rfl, rfl, by decide +kernel, rfl, by decide +kernel, by decide +kernel⟩
theorem sc_kinds : FnScope ["_law_error", "_law_found"] ["_law_error"] (defScope s_kinds) := ⟨rfl, rfl, rfl, by decide +kernel, rfl, by decide +kernel, by decide +kernel⟩
theorem sc_refused : FnScope ["_law_error"] ["_law_error"] (defScope s_refused) := ⟨rfl, rfl, rfl, by decide +kernel, rfl, by decide +kernel, by decide +kernel⟩
theorem sc_bent : FnScope ["_law_deck_here", "_law_text", "_law_way", "_law_signs", "_law_sign", "_law_at", "_law_some", "_law_lines", "_law_k", "_law_other", "_law_words", "_law_j", "_law_word", "_law_more", "_law_put", "_law_line"] ["_law_deck_here", "_law_text"] (defScope s_bent) := ⟨rfl, rfl, rfl, by decide +kernel, rfl, by decide +kernel, by decide +kernel⟩
theorem sc_row : FnScope ["_law_deck_here", "_law_many", "_law_k"] ["_law_deck_here", "_law_many"] (defScope s_row) := ⟨rfl, rfl, rfl, by decide +kernel, rfl, by decide +kernel, by decide +kernel⟩
theorem sc_shown : FnScope ["_law_change", "_law_one"] ["_law_change"] (defScope s_shown) := ⟨rfl, rfl, rfl, by decide +kernel, rfl, by decide +kernel, by decide +kernel⟩
theorem sc_read : FnScope ["_law_many", "_law_text", "_law_signs", "_law_worths", "_law_sign"] ["_law_many", "_law_text"] (defScope s_read) := ⟨rfl, rfl, rfl, by decide +kernel, rfl, by decide +kernel, by decide +kernel⟩
theorem sc_told : FnScope ["_law_many", "_law_thing", "_law_found", "e"] ["_law_many", "_law_thing"] (defScope s_told) := ⟨rfl, rfl, rfl, by decide +kernel, rfl, by decide +kernel, by decide +kernel⟩
theorem sc_right : FnScope ["_law_many", "_law_text", "_law_due"] ["_law_many", "_law_text"] (defScope s_right) := ⟨rfl, rfl, rfl, by decide +kernel, rfl, by decide +kernel, by decide +kernel⟩
theorem sc_raised : FnScope ["_law_k", "_law_text", "_law_kinds_here", "e"] ["_law_k", "_law_text"] (defScope s_raised) := ⟨rfl, rfl, rfl, by decide +kernel, rfl, by decide +kernel, by decide +kernel⟩
theorem sc_law : FnScope ["_law_script", "_law_deck_here", "_law_turn", "_law_steps", "_law_many", "_law_row_here", "_law_change", "_law_text", "_law_again", "_law_other", "_law_step", "_law_thing", "_law_kept", "_law_place"] ["_law_script"] (defScope s_law) := ⟨rfl, rfl, rfl, by decide +kernel, rfl, by decide +kernel, by decide +kernel⟩
structure Tx (K : PySem.W.Frag) (mg : Str → Option Value) where
  f_is_signs : Addr
  fd_is_signs : FuncData
  F_is_signs : Fun K "is_signs" "is_signs" s_is_signs f_is_signs fd_is_signs
  g_is_signs : mg "is_signs" = some (.ref f_is_signs)
  b_is_signs : Binds K fd_is_signs ["many", "thing"] []
  c_is_signs : Addr
  P_is_signs : Addr
  cd_is_signs : fd_is_signs.code = .ref c_is_signs
  f_show_row : Addr
  fd_show_row : FuncData
  F_show_row : Fun K "show_row" "show_row" s_show_row f_show_row fd_show_row
  g_show_row : mg "show_row" = some (.ref f_show_row)
  b_show_row : Binds K fd_show_row ["row"] []
  c_show_row : Addr
  P_show_row : Addr
  cd_show_row : fd_show_row.code = .ref c_show_row
  f_show_change : Addr
  fd_show_change : FuncData
  F_show_change : Fun K "show_change" "show_change" s_show_change f_show_change fd_show_change
  g_show_change : mg "show_change" = some (.ref f_show_change)
  b_show_change : Binds K fd_show_change ["change"] []
  f_read_change : Addr
  fd_read_change : FuncData
  F_read_change : Fun K "read_change" "read_change" s_read_change f_read_change fd_read_change
  g_read_change : mg "read_change" = some (.ref f_read_change)
  b_read_change : Binds K fd_read_change ["many", "text"] []
  c_read_change : Addr
  P_read_change : Addr
  cd_read_change : fd_read_change.code = .ref c_read_change
  f_read_row : Addr
  fd_read_row : FuncData
  F_read_row : Fun K "read_row" "read_row" s_read_row f_read_row fd_read_row
  g_read_row : mg "read_row" = some (.ref f_read_row)
  b_read_row : Binds K fd_read_row ["signs"] []
  c_read_row : Addr
  P_read_row : Addr
  cd_read_row : fd_read_row.code = .ref c_read_row
  f_deck : Addr
  fd_deck : FuncData
  F_deck : Fun K "_law_deck" "_law_deck" s_deck f_deck fd_deck
  g_deck : mg "_law_deck" = some (.ref f_deck)
  b_deck : Binds K fd_deck ["_law_script"] []
  f_mixed : Addr
  fd_mixed : FuncData
  F_mixed : Fun K "_law_mixed" "_law_mixed" s_mixed f_mixed fd_mixed
  g_mixed : mg "_law_mixed" = some (.ref f_mixed)
  b_mixed : Binds K fd_mixed ["_law_cell", "_law_k"] []
  f_take : Addr
  fd_take : FuncData
  F_take : Fun K "_law_take" "_law_take" s_take f_take fd_take
  g_take : mg "_law_take" = some (.ref f_take)
  b_take : Binds K fd_take ["_law_deck_here", "_law_most"] []
  f_kinds : Addr
  fd_kinds : FuncData
  F_kinds : Fun K "_law_kinds" "_law_kinds" s_kinds f_kinds fd_kinds
  g_kinds : mg "_law_kinds" = some (.ref f_kinds)
  b_kinds : Binds K fd_kinds ["_law_error"] []
  f_refused : Addr
  fd_refused : FuncData
  F_refused : Fun K "_law_refused" "_law_refused" s_refused f_refused fd_refused
  g_refused : mg "_law_refused" = some (.ref f_refused)
  b_refused : Binds K fd_refused ["_law_error"] []
  f_bent : Addr
  fd_bent : FuncData
  F_bent : Fun K "_law_bent" "_law_bent" s_bent f_bent fd_bent
  g_bent : mg "_law_bent" = some (.ref f_bent)
  b_bent : Binds K fd_bent ["_law_deck_here", "_law_text"] []
  f_row : Addr
  fd_row : FuncData
  F_row : Fun K "_law_row" "_law_row" s_row f_row fd_row
  g_row : mg "_law_row" = some (.ref f_row)
  b_row : Binds K fd_row ["_law_deck_here", "_law_many"] []
  f_shown : Addr
  fd_shown : FuncData
  F_shown : Fun K "_law_shown" "_law_shown" s_shown f_shown fd_shown
  g_shown : mg "_law_shown" = some (.ref f_shown)
  b_shown : Binds K fd_shown ["_law_change"] []
  f_read : Addr
  fd_read : FuncData
  F_read : Fun K "_law_read" "_law_read" s_read f_read fd_read
  g_read : mg "_law_read" = some (.ref f_read)
  b_read : Binds K fd_read ["_law_many", "_law_text"] []
  f_told : Addr
  fd_told : FuncData
  F_told : Fun K "_law_told" "_law_told" s_told f_told fd_told
  g_told : mg "_law_told" = some (.ref f_told)
  b_told : Binds K fd_told ["_law_many", "_law_thing"] []
  f_right : Addr
  fd_right : FuncData
  F_right : Fun K "_law_right" "_law_right" s_right f_right fd_right
  g_right : mg "_law_right" = some (.ref f_right)
  b_right : Binds K fd_right ["_law_many", "_law_text"] []
  f_raised : Addr
  fd_raised : FuncData
  F_raised : Fun K "_law_raised" "_law_raised" s_raised f_raised fd_raised
  g_raised : mg "_law_raised" = some (.ref f_raised)
  b_raised : Binds K fd_raised ["_law_k", "_law_text"] []
  f_law : Addr
  fd_law : FuncData
  F_law : Fun K "law" "law" s_law f_law fd_law
  g_law : mg "law" = some (.ref f_law)
  b_law : Binds K fd_law ["_law_script"] []
  m_ValueError : mg "ValueError" = none
  m_all : mg "all" = none
  m_int : mg "int" = none
  m_isinstance : mg "isinstance" = none
  m_len : mg "len" = none
  m_list : mg "list" = none
  m_range : mg "range" = none
  m_repr : mg "repr" = none
  m_reversed : mg "reversed" = none
  m_str : mg "str" = none
  m_sum : mg "sum" = none
  m_tuple : mg "tuple" = none
  C_NetError : Addr
  gC_NetError : mg "NetError" = some (.ref C_NetError)
  C_NoText : Addr
  gC_NoText : mg "NoText" = some (.ref C_NoText)
  C_TooMany : Addr
  gC_TooMany : mg "TooMany" = some (.ref C_TooMany)
  C_NotFormula : Addr
  gC_NotFormula : mg "NotFormula" = some (.ref C_NotFormula)
  C_NoTurn : Addr
  gC_NoTurn : mg "NoTurn" = some (.ref C_NoTurn)
  C_NoForms : Addr
  gC_NoForms : mg "NoForms" = some (.ref C_NoForms)
  C_NoRow : Addr
  gC_NoRow : mg "NoRow" = some (.ref C_NoRow)
  q_NoText : PySem.W.excIn K C_NoText He.veBase "ValueError.__new__" = true
  kC_NoText : PySem.W.keepIn K (.ref C_NoText) = true
  su_NoText : PySem.W.subIn K (.ref C_NoText) (.type "BaseException") = some true
  ty_NoText : PySem.W.typeIn K (.ref C_NoText) = some (.type "type")
  X_NoText : ExcC K C_NoText
  v_NoText : PySem.W.kitOne K (.ref C_NoText) (.type "ValueError") = some true
  t_NoText_NetError : PySem.W.kitOne K (.ref C_NoText) (.ref C_NetError) = some true
  x_NoText_NetError : PySem.W.exmOne K (.ref C_NoText) (.ref C_NetError) = some true
  t_NoText_NoText : PySem.W.kitOne K (.ref C_NoText) (.ref C_NoText) = some true
  x_NoText_NoText : PySem.W.exmOne K (.ref C_NoText) (.ref C_NoText) = some true
  t_NoText_TooMany : PySem.W.kitOne K (.ref C_NoText) (.ref C_TooMany) = some false
  x_NoText_TooMany : PySem.W.exmOne K (.ref C_NoText) (.ref C_TooMany) = some false
  t_NoText_NotFormula : PySem.W.kitOne K (.ref C_NoText) (.ref C_NotFormula) = some false
  x_NoText_NotFormula : PySem.W.exmOne K (.ref C_NoText) (.ref C_NotFormula) = some false
  t_NoText_NoTurn : PySem.W.kitOne K (.ref C_NoText) (.ref C_NoTurn) = some false
  x_NoText_NoTurn : PySem.W.exmOne K (.ref C_NoText) (.ref C_NoTurn) = some false
  t_NoText_NoForms : PySem.W.kitOne K (.ref C_NoText) (.ref C_NoForms) = some false
  x_NoText_NoForms : PySem.W.exmOne K (.ref C_NoText) (.ref C_NoForms) = some false
  t_NoText_NoRow : PySem.W.kitOne K (.ref C_NoText) (.ref C_NoRow) = some false
  x_NoText_NoRow : PySem.W.exmOne K (.ref C_NoText) (.ref C_NoRow) = some false
  q_TooMany : PySem.W.excIn K C_TooMany He.veBase "ValueError.__new__" = true
  kC_TooMany : PySem.W.keepIn K (.ref C_TooMany) = true
  su_TooMany : PySem.W.subIn K (.ref C_TooMany) (.type "BaseException") = some true
  ty_TooMany : PySem.W.typeIn K (.ref C_TooMany) = some (.type "type")
  X_TooMany : ExcC K C_TooMany
  v_TooMany : PySem.W.kitOne K (.ref C_TooMany) (.type "ValueError") = some true
  t_TooMany_NetError : PySem.W.kitOne K (.ref C_TooMany) (.ref C_NetError) = some true
  x_TooMany_NetError : PySem.W.exmOne K (.ref C_TooMany) (.ref C_NetError) = some true
  t_TooMany_NoText : PySem.W.kitOne K (.ref C_TooMany) (.ref C_NoText) = some false
  x_TooMany_NoText : PySem.W.exmOne K (.ref C_TooMany) (.ref C_NoText) = some false
  t_TooMany_TooMany : PySem.W.kitOne K (.ref C_TooMany) (.ref C_TooMany) = some true
  x_TooMany_TooMany : PySem.W.exmOne K (.ref C_TooMany) (.ref C_TooMany) = some true
  t_TooMany_NotFormula : PySem.W.kitOne K (.ref C_TooMany) (.ref C_NotFormula) = some false
  x_TooMany_NotFormula : PySem.W.exmOne K (.ref C_TooMany) (.ref C_NotFormula) = some false
  t_TooMany_NoTurn : PySem.W.kitOne K (.ref C_TooMany) (.ref C_NoTurn) = some false
  x_TooMany_NoTurn : PySem.W.exmOne K (.ref C_TooMany) (.ref C_NoTurn) = some false
  t_TooMany_NoForms : PySem.W.kitOne K (.ref C_TooMany) (.ref C_NoForms) = some false
  x_TooMany_NoForms : PySem.W.exmOne K (.ref C_TooMany) (.ref C_NoForms) = some false
  t_TooMany_NoRow : PySem.W.kitOne K (.ref C_TooMany) (.ref C_NoRow) = some false
  x_TooMany_NoRow : PySem.W.exmOne K (.ref C_TooMany) (.ref C_NoRow) = some false
  q_NotFormula : PySem.W.excIn K C_NotFormula He.veBase "ValueError.__new__" = true
  kC_NotFormula : PySem.W.keepIn K (.ref C_NotFormula) = true
  su_NotFormula : PySem.W.subIn K (.ref C_NotFormula) (.type "BaseException") = some true
  ty_NotFormula : PySem.W.typeIn K (.ref C_NotFormula) = some (.type "type")
  X_NotFormula : ExcC K C_NotFormula
  v_NotFormula : PySem.W.kitOne K (.ref C_NotFormula) (.type "ValueError") = some true
  t_NotFormula_NetError : PySem.W.kitOne K (.ref C_NotFormula) (.ref C_NetError) = some true
  x_NotFormula_NetError : PySem.W.exmOne K (.ref C_NotFormula) (.ref C_NetError) = some true
  t_NotFormula_NoText : PySem.W.kitOne K (.ref C_NotFormula) (.ref C_NoText) = some false
  x_NotFormula_NoText : PySem.W.exmOne K (.ref C_NotFormula) (.ref C_NoText) = some false
  t_NotFormula_TooMany : PySem.W.kitOne K (.ref C_NotFormula) (.ref C_TooMany) = some false
  x_NotFormula_TooMany : PySem.W.exmOne K (.ref C_NotFormula) (.ref C_TooMany) = some false
  t_NotFormula_NotFormula : PySem.W.kitOne K (.ref C_NotFormula) (.ref C_NotFormula) = some true
  x_NotFormula_NotFormula : PySem.W.exmOne K (.ref C_NotFormula) (.ref C_NotFormula) = some true
  t_NotFormula_NoTurn : PySem.W.kitOne K (.ref C_NotFormula) (.ref C_NoTurn) = some false
  x_NotFormula_NoTurn : PySem.W.exmOne K (.ref C_NotFormula) (.ref C_NoTurn) = some false
  t_NotFormula_NoForms : PySem.W.kitOne K (.ref C_NotFormula) (.ref C_NoForms) = some false
  x_NotFormula_NoForms : PySem.W.exmOne K (.ref C_NotFormula) (.ref C_NoForms) = some false
  t_NotFormula_NoRow : PySem.W.kitOne K (.ref C_NotFormula) (.ref C_NoRow) = some false
  x_NotFormula_NoRow : PySem.W.exmOne K (.ref C_NotFormula) (.ref C_NoRow) = some false
  q_NoTurn : PySem.W.excIn K C_NoTurn He.veBase "ValueError.__new__" = true
  kC_NoTurn : PySem.W.keepIn K (.ref C_NoTurn) = true
  su_NoTurn : PySem.W.subIn K (.ref C_NoTurn) (.type "BaseException") = some true
  ty_NoTurn : PySem.W.typeIn K (.ref C_NoTurn) = some (.type "type")
  X_NoTurn : ExcC K C_NoTurn
  v_NoTurn : PySem.W.kitOne K (.ref C_NoTurn) (.type "ValueError") = some true
  t_NoTurn_NetError : PySem.W.kitOne K (.ref C_NoTurn) (.ref C_NetError) = some true
  x_NoTurn_NetError : PySem.W.exmOne K (.ref C_NoTurn) (.ref C_NetError) = some true
  t_NoTurn_NoText : PySem.W.kitOne K (.ref C_NoTurn) (.ref C_NoText) = some false
  x_NoTurn_NoText : PySem.W.exmOne K (.ref C_NoTurn) (.ref C_NoText) = some false
  t_NoTurn_TooMany : PySem.W.kitOne K (.ref C_NoTurn) (.ref C_TooMany) = some false
  x_NoTurn_TooMany : PySem.W.exmOne K (.ref C_NoTurn) (.ref C_TooMany) = some false
  t_NoTurn_NotFormula : PySem.W.kitOne K (.ref C_NoTurn) (.ref C_NotFormula) = some false
  x_NoTurn_NotFormula : PySem.W.exmOne K (.ref C_NoTurn) (.ref C_NotFormula) = some false
  t_NoTurn_NoTurn : PySem.W.kitOne K (.ref C_NoTurn) (.ref C_NoTurn) = some true
  x_NoTurn_NoTurn : PySem.W.exmOne K (.ref C_NoTurn) (.ref C_NoTurn) = some true
  t_NoTurn_NoForms : PySem.W.kitOne K (.ref C_NoTurn) (.ref C_NoForms) = some false
  x_NoTurn_NoForms : PySem.W.exmOne K (.ref C_NoTurn) (.ref C_NoForms) = some false
  t_NoTurn_NoRow : PySem.W.kitOne K (.ref C_NoTurn) (.ref C_NoRow) = some false
  x_NoTurn_NoRow : PySem.W.exmOne K (.ref C_NoTurn) (.ref C_NoRow) = some false
  q_NoForms : PySem.W.excIn K C_NoForms He.veBase "ValueError.__new__" = true
  kC_NoForms : PySem.W.keepIn K (.ref C_NoForms) = true
  su_NoForms : PySem.W.subIn K (.ref C_NoForms) (.type "BaseException") = some true
  ty_NoForms : PySem.W.typeIn K (.ref C_NoForms) = some (.type "type")
  X_NoForms : ExcC K C_NoForms
  v_NoForms : PySem.W.kitOne K (.ref C_NoForms) (.type "ValueError") = some true
  t_NoForms_NetError : PySem.W.kitOne K (.ref C_NoForms) (.ref C_NetError) = some true
  x_NoForms_NetError : PySem.W.exmOne K (.ref C_NoForms) (.ref C_NetError) = some true
  t_NoForms_NoText : PySem.W.kitOne K (.ref C_NoForms) (.ref C_NoText) = some false
  x_NoForms_NoText : PySem.W.exmOne K (.ref C_NoForms) (.ref C_NoText) = some false
  t_NoForms_TooMany : PySem.W.kitOne K (.ref C_NoForms) (.ref C_TooMany) = some false
  x_NoForms_TooMany : PySem.W.exmOne K (.ref C_NoForms) (.ref C_TooMany) = some false
  t_NoForms_NotFormula : PySem.W.kitOne K (.ref C_NoForms) (.ref C_NotFormula) = some false
  x_NoForms_NotFormula : PySem.W.exmOne K (.ref C_NoForms) (.ref C_NotFormula) = some false
  t_NoForms_NoTurn : PySem.W.kitOne K (.ref C_NoForms) (.ref C_NoTurn) = some false
  x_NoForms_NoTurn : PySem.W.exmOne K (.ref C_NoForms) (.ref C_NoTurn) = some false
  t_NoForms_NoForms : PySem.W.kitOne K (.ref C_NoForms) (.ref C_NoForms) = some true
  x_NoForms_NoForms : PySem.W.exmOne K (.ref C_NoForms) (.ref C_NoForms) = some true
  t_NoForms_NoRow : PySem.W.kitOne K (.ref C_NoForms) (.ref C_NoRow) = some false
  x_NoForms_NoRow : PySem.W.exmOne K (.ref C_NoForms) (.ref C_NoRow) = some false
  q_NoRow : PySem.W.excIn K C_NoRow He.veBase "ValueError.__new__" = true
  kC_NoRow : PySem.W.keepIn K (.ref C_NoRow) = true
  su_NoRow : PySem.W.subIn K (.ref C_NoRow) (.type "BaseException") = some true
  ty_NoRow : PySem.W.typeIn K (.ref C_NoRow) = some (.type "type")
  X_NoRow : ExcC K C_NoRow
  v_NoRow : PySem.W.kitOne K (.ref C_NoRow) (.type "ValueError") = some true
  t_NoRow_NetError : PySem.W.kitOne K (.ref C_NoRow) (.ref C_NetError) = some true
  x_NoRow_NetError : PySem.W.exmOne K (.ref C_NoRow) (.ref C_NetError) = some true
  t_NoRow_NoText : PySem.W.kitOne K (.ref C_NoRow) (.ref C_NoText) = some false
  x_NoRow_NoText : PySem.W.exmOne K (.ref C_NoRow) (.ref C_NoText) = some false
  t_NoRow_TooMany : PySem.W.kitOne K (.ref C_NoRow) (.ref C_TooMany) = some false
  x_NoRow_TooMany : PySem.W.exmOne K (.ref C_NoRow) (.ref C_TooMany) = some false
  t_NoRow_NotFormula : PySem.W.kitOne K (.ref C_NoRow) (.ref C_NotFormula) = some false
  x_NoRow_NotFormula : PySem.W.exmOne K (.ref C_NoRow) (.ref C_NotFormula) = some false
  t_NoRow_NoTurn : PySem.W.kitOne K (.ref C_NoRow) (.ref C_NoTurn) = some false
  x_NoRow_NoTurn : PySem.W.exmOne K (.ref C_NoRow) (.ref C_NoTurn) = some false
  t_NoRow_NoForms : PySem.W.kitOne K (.ref C_NoRow) (.ref C_NoForms) = some false
  x_NoRow_NoForms : PySem.W.exmOne K (.ref C_NoRow) (.ref C_NoForms) = some false
  t_NoRow_NoRow : PySem.W.kitOne K (.ref C_NoRow) (.ref C_NoRow) = some true
  x_NoRow_NoRow : PySem.W.exmOne K (.ref C_NoRow) (.ref C_NoRow) = some true
structure Tb (base : Heap) {K : PySem.W.Frag} {mg : Str → Option Value} (T : Tx K mg) : Prop where
  TB_is_signs : GxR.TabB base mg T.c_is_signs T.P_is_signs
  TB_show_row : GxR.TabB base mg T.c_show_row T.P_show_row
  TB_read_change : GxR.TabB base mg T.c_read_change T.P_read_change
  TB_read_row : GxR.TabB base mg T.c_read_row T.P_read_row
def Tx.tabs {K : PySem.W.Frag} {mg : Str → Option Value} (T : Tx K mg) : List Addr := [T.P_is_signs, T.P_show_row, T.P_read_change, T.P_read_row]
/-! ### generator expressions whose elements may call -/
theorem inv_moved {X : Cx} {cp : List (Addr × Obj)} {σ : L2.St} {H : Hp} {s s' : Shared} (I : Inv X cp σ H s) (os : s'.os = s.os) (bare : AllBare s'.gens) (k : ∀ b o, s.heap.get? b = some o → s'.heap.get? b = some o) : Inv X cp σ H s' :=
  I.call' (ch := []) os (Un.kept k) (I.hok.kept k) bare fun b hb => absurd hb (by simp)
/-- the context of a generator expression's frame: C its frame, s, H the entry, fp its iterator's objects -/
abbrev gblk (X : Cx) (A : Around) (s : Shared) (H : Hp) (cenv : Env) (fp : List Addr) : Cx :=
  { X with A := A, s_0 := s, H_0 := H, env := cenv, outer := X.stack, stack := cenv :: X.stack, ex := fp, fn := fun _ => false, pn := [], xe := fun _ _ => False }
section
variable {X : Cx} {pins : List (Addr × Obj)} {σ : L2.St} {H : Hp} {s : Shared}
theorem gen_start {scope : Scope} {own : List (Str × Nat)} {fp : List Addr} {A : Around} {code it : Value} {s5 : Shared} {cp : List (Addr × Obj)}
    (I : Inv X pins σ H s) (ok : BlkOk X.N X.env.scope scope own) (nocell : ∀ y ∈ scope.names, y.2 ≠ .cell) (hN : X.N.Nodup) (hfp : ∀ b ∈ fp, FpOk X pins H b ∧ b < s.heap.objs.size)
    (hh : A.handled = none) (hfr : A.frames = some (genEnv scope (cloFrom X.env.cells scope.names []) s.heap.objs.size code builtinsNs X.env :: X.stack))
    (os : s5.os = s.os) (bare : AllBare s5.gens) (kp : ∀ b o, s.heap.get? b = some o → s5.heap.get? b = some o)
    (hns : s5.heap.Ns s.heap.objs.size fun y => if y = ".0" then some it else none)
    (hcp : ∀ p ∈ cp, s.heap.objs.size < p.1 ∧ s5.heap.get? p.1 = some p.2 ∧ ∀ v, p.2.data ≠ .cell v) :
    Inv (gblk X A s H (genEnv scope (cloFrom X.env.cells scope.names []) s.heap.objs.size code builtinsNs X.env) fp) cp (wipe σ (own.map (·.2))) H s5 := by
  have hfree : ∀ y ∈ scope.names, y.2 = .free → ∃ c, X.env.cells.lookup y.1 = some c := fun y hy e => by
    rcases ok.free y hy e with k | k
    · exact I.ok.has _ (.inl k)
    · exact I.ok.has _ (.inr k)
  generalize hcenv : genEnv scope (cloFrom X.env.cells scope.names []) s.heap.objs.size code builtinsNs X.env = cenv at hfr ⊢
  have hL : cenv.locals = s.heap.objs.size := by rw [← hcenv]; rfl
  have hcl : cenv.cells = cloFrom X.env.cells scope.names [] := by rw [← hcenv]; rfl
  have hsc : cenv.scope = scope := by rw [← hcenv]; rfl
  have cm : ∀ {y c}, (y, c) ∈ cloFrom X.env.cells scope.names [] → X.env.cells.lookup y = some c ∧ c < s.heap.objs.size := fun {y c} hm => by
    rcases cloFrom_mem hm with hm | ⟨h1, rfl⟩
    · cases hm
    · obtain ⟨c, hc⟩ := hfree _ h1 rfl
      rw [hc]
      obtain ⟨w, z⟩ := I.cell _ _ hc
      exact ⟨rfl, z.lt⟩
  have mem : ∀ {y c}, cenv.cells.lookup y = some c → X.env.cells.lookup y = some c ∧ c < s.heap.objs.size := fun {y c} e => by
    rw [hcl] at e
    exact cm (PySem.mem_of_lookup e)
  have look : ∀ {y}, scope.names.lookup y = some .free → ∃ c, cenv.cells.lookup y = some c ∧ X.env.cells.lookup y = some c := fun {y} hl => by
    have hy : (y, NameKind.free) ∈ scope.names := PySem.mem_of_lookup hl
    obtain ⟨c', e'⟩ := mem_lookup (cloFrom_has (cells := X.env.cells) (acc := []) hy)
    rw [← hcl] at e'
    exact ⟨c', e', (mem e').1⟩
  have okB : (gblk X A s H cenv fp).Ok := by
    refine ⟨I.ok.mod, by show cenv.scope.kind = _; rw [hsc]; exact ok.kind, by show cenv.globals = _; rw [← hcenv]; exact I.ok.glob, by show cenv.builtins = _; rw [← hcenv]; rfl, by show s.heap.objs.size ≤ cenv.locals; rw [hL]; exact Nat.le_refl _,
      fun y z c e1 e2 => I.ok.inj y z c (mem e1).1 (mem e2).1, fun y hy => ?_, fun y c z e => (by cases z), fun _ => hh, hfr, .inr ⟨rfl, by show cenv.frame = some cenv.locals; rw [← hcenv]; rfl⟩, fun b hb => ⟨?_, fun y c e z => ?_⟩, I.bs, Nat.le_trans I.ok.bsz I.sz, fun b o e hb => ?_, fun b hb z => ?_, I.stack, I.stkFree⟩
    · have hy' : scope.names.lookup y = some .cell ∨ scope.names.lookup y = some .free := by
        rw [← hsc]
        exact hy
      rcases hy' with e | e
      · exact absurd rfl (nocell _ (PySem.mem_of_lookup e))
      · obtain ⟨c, h1, _⟩ := look e
        exact ⟨c, h1⟩
    · show b ≠ cenv.locals
      rw [hL]; exact Nat.ne_of_lt (hfp b hb).2
    · exact (hfp b hb).1.2.2.2.2.1 y c (mem e).1 z
    · rcases (hfp b hb).1.2.2.2.1 with z | z
      · exact I.ok.noex b o e z
      · exact absurd (Nat.lt_of_lt_of_le (Heap.lt_size e) (Nat.le_trans I.ok.bsz z)) (Nat.lt_irrefl _)
    · rcases List.mem_cons.mp (I.stkSub b z) with z | z
      · exact (hfp b hb).1.2.1 z
      · exact (hfp b hb).1.2.2.1 z
  refine ⟨okB, os, bare, Un.kept kp, ⟨_, (by show s5.heap.Ns cenv.locals _; rw [hL]; exact hns), fun i y av e1 e2 e3 => ?_⟩, fun y c e => ?_, ?_, fun y c e => I.freeC y c (mem e).1, fun p hp => ?_, I.hok.kept kp, by rw [wipe_length]; exact I.len⟩
  · obtain ⟨e2, hne⟩ := wipe_some e2
    have e3 : Vis scope y := by rw [← hsc]; exact e3
    have no : ∀ k, scope.names.lookup y = some k → ¬ (k = .local ∨ k = .cell) := fun k e hh => by
      rcases ok.own _ (PySem.mem_of_lookup e) hh with e' | e'
      · obtain ⟨p, hp, hpy⟩ := List.mem_map.mp e'
        have e3 := ok.ix p hp
        have : p.1 = y := hpy
        rw [this] at e3
        exact hne (List.mem_map.mpr ⟨p, hp, nodup_ix hN e3 e1⟩)
      · exact e' (List.mem_of_getElem? e1)
    have hfr2 : scope.names.lookup y = some .free := by
      rcases e3 with e | e | e
      · exact absurd (.inl rfl) (no _ e)
      · exact absurd (.inr rfl) (no _ e)
      · exact e
    obtain ⟨m, hn, hl⟩ := I.loc
    have hvis : Vis X.env.scope y := (ok.free _ (PySem.mem_of_lookup hfr2) rfl).elim (fun k => .inr (.inl k)) (fun k => .inr (.inr k))
    obtain ⟨w, r, q⟩ := hl i y av e1 e2 hvis
    refine ⟨w, r, .inr ⟨.inr (by show cenv.scope.names.lookup y = some .free; rw [hsc]; exact hfr2), ?_⟩⟩
    obtain ⟨c, h1, h2⟩ := look hfr2
    rcases q with ⟨k, _⟩ | ⟨_, c', e', z⟩
    · have k : X.env.scope.names.lookup y = some .local := k
      rcases ok.free _ (PySem.mem_of_lookup hfr2) rfl with k' | k' <;> rw [show X.env.scope.names.lookup y = _ from k'] at k <;> cases k
    · rw [h2] at e'; cases e'
      exact ⟨c, h1, z.keeps kp⟩
  · obtain ⟨w, z⟩ := I.cell y c (mem e).1
    exact ⟨w, z.keeps kp⟩
  · show H cenv.locals = none
    rw [hL]; exact I.hok.fresh (Nat.le_refl _)
  · have hp : p ∈ cp := by simpa using hp
    obtain ⟨h1, h2, h3⟩ := hcp p hp
    refine ⟨h2, I.hok.fresh (Nat.le_of_lt h1), by show p.1 ≠ cenv.locals; rw [hL]; exact Nat.ne_of_gt h1, fun z => ?_, h3⟩
    rcases List.mem_cons.mp (I.stkSub _ z) with z | z
    · exact absurd (Nat.lt_trans I.lt h1) (by rw [z]; exact Nat.lt_irrefl _)
    · exact I.nofs (Nat.le_of_lt h1) z
end
/-! ### the talk of a generator and who asks it -/
section
variable {α : Type}
/-- handed out: x; the asker's state a (laid down in the pins cp) goes to one with Nx -/
def YG (Xg : Cx) (fp : List Addr) (tn : Nat → Heap → Prop) (AC : α → List (Addr × Obj) → Prop) (Yd : α → V → Hp → (α → Hp → Prop) → Prop) : Protocol := fun _ _ v s kap =>
  ∃ (a : α) (x : V) (σ : L2.St) (H : Hp) (i : Nat) (cp : List (Addr × Obj)) (Nx : α → Hp → Prop), RelV x v ∧ AC a cp ∧ Inv Xg cp σ H s ∧ tn i s.heap ∧ (∀ b ∈ fp, H b = none) ∧ Yd a x H Nx ∧
    ∀ a' cp' s', Nx a' H → AC a' cp' → Inv Xg cp' σ H s' → tn i s'.heap → kap (.send .none) s'
def RG (Xg : Cx) (AC : α → List (Addr × Obj) → Prop) (End : α → Hp → Prop) : GenEnd := fun _ _ r s =>
  ((r = .ok (.ret .none) ∨ r = .ok .next) ∧ ∃ (a : α) (σ : L2.St) (H : Hp) (cp : List (Addr × Obj)), AC a cp ∧ Inv Xg cp σ H s ∧ End a H) ∨ ∃ e, r = .error e ∧ False
/-- a generator's turns -/
def tGx (J : It) (g : TG) (tt : TT) (te : TE) (σ0 : L2.St) (vs : List Nat) (End : α → Hp → Prop) (Yd : α → V → Hp → (α → Hp → Prop) → Prop) (W : Nat → Nat → α → Hp → Prop) : Prop :=
  ∀ i m a H, W i m a H → (J.stop i H ∧ End a H) ∨ (J.go i H ∧ ∃ Nx : α → Hp → Prop, (∀ a' H', Nx a' H' → ∃ m', m' < m ∧ W (i + 1) m' a' H') ∧
    ∀ x H', J.yld i H x H' → g x σ0 H' fun σ2 H2 => wipe σ2 vs = σ0 ∧ tt σ2 H2 fun b H3 => if b = true then te σ2 H3 fun y H4 => Yd a y H4 Nx else Nx a H3)
theorem wipe_wipe_some {σ σ2 : L2.St} {vs : List Nat} (h : wipe σ2 vs = σ) : ∀ (j : Nat) v, σ[j]? = some (some v) → σ2[j]? = some (some v) := fun j v e => by
  rw [← h] at e
  exact (wipe_some e).1
theorem seg_gx {X : Cx} {A A' : Around} {s_0 : Shared} {H_0 : Hp} {elt tg iter : Expr} {ifs : List Expr} {scope : Scope} {pos : Pos} {it : Addr} {fp : List Addr} {tn : Nat → Heap → Prop} {J : It} {cenv : Env} {g : TG} {tt : TT} {te : TE} {σ0 : L2.St} {vs : List Nat}
    {AC : α → List (Addr × Obj) → Prop} {End : α → Hp → Prop} {Yd : α → V → Hp → (α → Hp → Prop) → Prop} {W : Nat → Nat → α → Hp → Prop}
    (hA : A.over (.compLoop (.GeneratorExp elt [⟨tg, iter, ifs, 0⟩] scope pos) 0 (.ref it) .none cenv) [] = A') (hc : X.calm = true) (hco : cenv.scope.isCoroutine = false)
    (T : Turn X.prog X.w X.K tg J fp it tn) (pg : PG (gblk X A' s_0 H_0 cenv fp) tg g) (pt : PTs (gblk X A' s_0 H_0 cenv fp) ifs tt) (pe : PE (gblk X A' s_0 H_0 cenv fp) elt te)
    (hAC : ∀ a cp, AC a cp → ∀ p ∈ cp, ∀ b ∈ fp, p.1 ≠ b) (turn : tGx J g tt te σ0 vs End Yd W) :
    ∀ (m n i : Nat) (a : α) (H : Hp) (s₀ s : Shared) (cp : List (Addr × Obj)), m < n → W i m a H → AC a cp → Inv (gblk X A' s_0 H_0 cenv fp) cp σ0 H s → tn i s.heap → (∀ b ∈ fp, H b = none) →
      Seg (model X.prog X.w) A (RG (gblk X A' s_0 H_0 cenv fp) AC End) (YG (gblk X A' s_0 H_0 cenv fp) fp tn AC Yd) n s₀
        (.compLoop (.GeneratorExp elt [⟨tg, iter, ifs, 0⟩] scope pos) 0 (.ref it) .none cenv)
        ((model X.prog X.w).den (.compLoop (.GeneratorExp elt [⟨tg, iter, ifs, 0⟩] scope pos) 0 (.ref it) .none cenv)) [] s := by
  have stat : ∀ {a : α} {cp : List (Addr × Obj)} {σ' : L2.St} {H' : Hp} {s' : Shared}, AC a cp → Inv (gblk X A' s_0 H_0 cenv fp) cp σ' H' s' → (∀ b ∈ fp, H' b = none) → ∀ b ∈ fp, FpOk (gblk X A' s_0 H_0 cenv fp) cp H' b := fun {a cp σ' H' s'} hac I' hn b hb =>
    ⟨hn b hb, (I'.ok.exf b hb).1, I'.ok.exfs b hb, .inl hb, fun x c e => (I'.ok.exf b hb).2 x c e, fun p hp => hAC a cp hac p (by simpa using hp) b hb⟩
  intro m
  induction m using Nat.strongRecOn with
  | ind m ih =>
    intro n i a H s₀ s cp hmn w hac I st nf
    show Seg _ A _ _ _ s₀ _ ((compTurn (.GeneratorExp elt [⟨tg, iter, ifs, 0⟩] scope pos) 0 (.ref it) .none cenv).onRaise (leaving cenv)) [] s
    rw [compTurn_gen, Sem.onRaise_eq_wrap]
    refine seg_bind_wrap (wpAny_standAt ?_)
    rcases turn i m a H w with ⟨stop, hend⟩ | ⟨go, Nx, hNx, step⟩
    · refine seg_bind_wrap ?_
      rw [hA]
      refine thnF (T.done (gblk X A' s_0 H_0 cenv fp) rfl rfl rfl hc i cp s σ0 H (fun _ _ => False) I (stat hac I nf) st stop) fun r s1 ⟨hr, I1⟩ => ?_
      subst hr
      exact seg_end (.ok .next) (.inl ⟨.inr rfl, a, _, H, cp, hac, I1, hend⟩)
    · refine seg_bind_wrap ?_
      rw [hA]
      refine thnF (T.item (gblk X A' s_0 H_0 cenv fp) rfl rfl rfl hc i cp s σ0 H (fun _ _ => False) I (stat hac I nf) st go) fun r s1 ⟨u, hr, h1⟩ => ?_
      subst hr
      refine seg_bind_wrap ?_
      rw [hA]
      refine thnF h1 fun _ s2 ⟨x, H2, I2, r2, y2, st2, n2⟩ => ?_
      have I2' := I2.pinned (stat hac I2 n2) (T.obj _ _ st2)
      refine seg_bind_wrap ?_
      rw [hA]
      refine thnF (pg.run _ s2 _ H2 x u _ I2' r2 (step x H2 y2)) fun _ s3 ⟨σ3, H3, I3, hw3, q3⟩ => ?_
      refine seg_bind_wrap ?_
      rw [hA]
      refine thnF (pt.run _ s3 σ3 H3 _ I3 q3) fun b s4 ⟨H4, I4, q4⟩ => ?_
      have hl : σ0.length = σ3.length := by rw [← hw3, wipe_length]
      have fin : ∀ {s' : Shared} {H' : Hp}, Inv (gblk X A' s_0 H_0 cenv fp) (cp ++ pinsAt fp s2.heap) σ3 H' s' → Inv (gblk X A' s_0 H_0 cenv fp) cp σ0 H' s' ∧ tn (i + 1) s'.heap ∧ ∀ b ∈ fp, H' b = none := fun {s' H'} I' => by
        have pin' : ∀ b ∈ fp, ∀ o, s2.heap.get? b = some o → s'.heap.get? b = some o ∧ H' b = none := fun b hb o e =>
          let z := I'.pin (b, o) (List.mem_append_right _ (List.mem_append_right _ (mem_pinsAt hb e)))
          ⟨z.1, z.2.1⟩
        refine ⟨(I'.unpinned (pins := cp)).weak hl (wipe_wipe_some hw3), T.keep _ _ _ st2 fun b hb o e => (pin' b hb o e).1, fun b hb => ?_⟩
        obtain ⟨o, e, _⟩ := T.obj _ _ st2 b hb
        exact (pin' b hb o e).2
      cases b with
      | false =>
        simp only [Bool.false_eq_true, if_false] at q4 ⊢
        obtain ⟨m', hm, w'⟩ := hNx a H4 q4
        obtain ⟨J1, J2, J3⟩ := fin I4
        exact seg_again rfl (ih m' hm n (i + 1) a H4 s₀ s4 cp (by omega) w' hac J1 J2 J3)
      | true =>
        simp only [if_true] at q4 ⊢
        have hy : ∀ v, yieldOut cenv v = yieldValue v := fun v => by simp only [yieldOut, hco, Bool.false_eq_true, if_false]
        simp only [hy]
        rw [Sem.bind_eq_wrap', Sem.bind_eq_wrap', Sem.wrap_wrap, Sem.wrap_wrap]
        refine seg_wrap ?_
        rw [hA]
        refine thnF (pe.run _ s4 σ3 H4 _ I4 q4) fun yv s5 ⟨y, H5, I5, r5, q5⟩ => ?_
        obtain ⟨J1, J2, J3⟩ := fin I5
        -- at least one more
        cases n with
        | zero => exact absurd hmn (Nat.not_lt_zero _)
        | succ n =>
          refine seg_at (seg_yield rfl rfl rfl ⟨a, y, σ0, H5, i + 1, cp, Nx, r5, hac, J1, J2, J3, q5, fun a' cp' s' nx hac' I' st' => ?_⟩)
          obtain ⟨m', hm, w'⟩ := hNx a' H5 nx
          exact seg_again rfl (ih m' hm n (i + 1) a' H5 s' s' cp' (by omega) w' hac' I' st' J3)
end
/-! ### a generator that is made -/
section
variable {X : Cx} {pins : List (Addr × Obj)} {σ : L2.St} {H : Hp} {s : Shared}
def GenObj (o : Obj) (g : Nat) : Prop := ∃ nm qn, o.cls = .type "generator" ∧ o.data = .fields #[.int g 0, nm, qn] ∧ o.slots = #[]
theorem GenObj.isGen {o : Obj} {g : Nat} (h : GenObj o g) {a : Addr} {hp : Heap} (e : hp.get? a = some o) : hp.IsGen a g := by
  obtain ⟨nm, qn, h1, h2, h3⟩ := h
  exact ⟨o, nm, qn, e, h1, h2, h3⟩
/-- the generator u, made and not begun, in the state s5 -/
def Gx (X : Cx) (pins : List (Addr × Obj)) (σ : L2.St) (A : Around) (J : It) (g : TG) (tt : TT) (te : TE) (vs : List Nat) (H4 : Hp) (u : Value) (s5 : Shared) : Prop :=
  ∃ (A' : Around) (s_0 : Shared) (H_0 : Hp) (cenv : Env) (fp : List Addr) (ga : Addr) (gn : Nat) (go : Obj) (tn : Nat → Heap → Prop) (gs : GenState),
    u = .ref ga ∧ GenObj go gn ∧ s5.gens[gn]? = some gs ∧ gs.bare = true ∧ Inv (gblk X A' s_0 H_0 cenv fp) [(ga, go)] (wipe σ vs) H4 s5 ∧ tn 0 s5.heap ∧ (∀ b ∈ fp, H4 b = none) ∧ (∀ b ∈ fp, b < ga) ∧
    (∀ i h h', tn i h → (∀ b ∈ fp, ∀ o, h.get? b = some o → h'.get? b = some o) → tn i h') ∧ (∀ cp σ' H' s', Inv (gblk X A' s_0 H_0 cenv fp) cp σ' H' s' → Inv X pins σ H' s') ∧
    ∀ (α : Type) (AC : α → List (Addr × Obj) → Prop) (End : α → Hp → Prop) (Yd : α → V → Hp → (α → Hp → Prop) → Prop) (W : Nat → Nat → α → Hp → Prop) (m n : Nat) (a : α) (cp : List (Addr × Obj)) (s' : Shared),
      tGx J g tt te (wipe σ vs) vs End Yd W → W 0 m a H4 → m < n → (∀ a cp, AC a cp → ∀ p ∈ cp, ∀ b ∈ fp, p.1 ≠ b) → AC a cp → Inv (gblk X A' s_0 H_0 cenv fp) cp (wipe σ vs) H4 s' → tn 0 s'.heap →
      gs.Goes (model X.prog X.w) A (RG (gblk X A' s_0 H_0 cenv fp) AC End) (YG (gblk X A' s_0 H_0 cenv fp) fp tn AC Yd) n (.send .none) s'
/-- what stands about an asker -/
structure Near (A B : Around) : Prop where
  hd : B.handled = A.handled
  fr : B.frames = A.frames
  gd : B.guards = A.guards
  dp : B.depth = A.depth
  un : B.units ≤ A.units + 8
theorem gx_make {c P : Addr} {elt tg iter : Expr} {ifs : List Expr} {gpos : Pos} {scope : Scope} {own : List (Str × Nat)} {wi : TI} {g : TG} {tt : TT} {te : TE} {k : Nat} {Q' : Value → Shared → Prop} {R : It → Hp → Prop} {A : Around}
    (hr : Room (k + 1) X.A) (near : Near X.A A) (hc : X.calm = true) (hN : X.N.Nodup) (TB : GxR.TabB X.base X.mg c P) (hcode : X.env.code = .ref c) (hco : scope.isCoroutine = false) (hdot : scope.names.lookup (".0" : Str) = some NameKind.local)
    (nocell : ∀ y ∈ scope.names, y.2 ≠ .cell) (ok : BlkOk X.N X.env.scope scope own) (hi : PI X tg iter wi)
    (hg : ∀ (A' : Around) (s : Shared) (H : Hp) (C : Addr) (cl : List (Str × Addr)) (code : Value) (fp : List Addr), Room k A' → A'.guards = X.A.guards → PG (gblk X A' s H (genEnv scope cl C code builtinsNs X.env) fp) tg g)
    (ht : ∀ (A' : Around) (s : Shared) (H : Hp) (C : Addr) (cl : List (Str × Addr)) (code : Value) (fp : List Addr), Room k A' → A'.guards = X.A.guards → PTs (gblk X A' s H (genEnv scope cl C code builtinsNs X.env) fp) ifs tt)
    (he : ∀ (A' : Around) (s : Shared) (H : Hp) (C : Addr) (cl : List (Str × Addr)) (code : Value) (fp : List Addr), Room k A' → A'.guards = X.A.guards → PE (gblk X A' s H (genEnv scope cl C code builtinsNs X.env) fp) elt te)
    (hs : ∀ v, genFold iter X.env v = pure v) (I : Inv X pins σ H s) (h : wi σ H fun J H1 => GxR.TabG H1 P ∧ R J H1)
    (hQ : ∀ J H1 H2 u s5, R J H1 → GxR.Tabbed P H1 H2 → Gx X pins σ A J g tt te (own.map (·.2)) H2 u s5 → Q' u s5) :
    wpAny (model X.prog X.w) X.A (eval (.GeneratorExp elt [⟨tg, iter, ifs, 0⟩] scope gpos) X.env) Q' X.xe s := by
  have hfree : ∀ y ∈ scope.names, y.2 = .free → ∃ c, X.env.cells.lookup y.1 = some c := fun y hy e => by
    rcases ok.free y hy e with k | k
    · exact I.ok.has _ (.inl k)
    · exact I.ok.has _ (.inr k)
  refine wpAny_GeneratorExp_make hco (closure_ok hfree) nocell hdot ok.kind (by have := hr.dp; omega) ?_ hs
  refine thn (hi.run pins s σ H _ I h) fun xv s1 hx => thn hx fun itv s2 h2 => ?_
  obtain ⟨it, fp, tn, J, H2, rfl, I2, T, st2, f2, ⟨ps, hP, ht3⟩, q⟩ := h2
  refine ⟨I2.nolimit, ?_⟩
  have hPs : s2.heap.get? P = some { cls := .none, data := .fields ps } := I2.hok P _ hP
  have cd : PySem.W.CodeHd s2.heap c P := TB.code.keeps fun b u e => I2.bk b u e
  have nP : ∀ b, H2 b = none → b ≠ P := fun b e z => by
    rw [z, hP] at e
    cases e
  have cont : ∀ (code : Value) (h3 : Heap) (tk : Nat) (ps' : Array Value), Heap.ExtBut P s2.heap h3 → s2.heap.objs.size ≤ h3.objs.size → h3.get? P = some { cls := .none, data := .fields ps' } → (∃ more, ps' = ps ++ more) → TriplesOk ps'.toList →
      wpAny (model X.prog X.w) X.A (builtinsFor X.env.globals X.env.builtins) (fun bi s₄ =>
        ∀ h', h'.Ns s₄.heap.objs.size (fun y => if y = ".0" then some (Value.ref it) else none) → Heap.SameBut s₄.heap.objs.size (s₄.heap.push { cls := .type "frame", data := .dict #[] }) h' →
          Q' (.ref h'.objs.size) { s₄ with
            gens := s₄.gens.push (.fresh (.compStart (.GeneratorExp elt [⟨tg, iter, ifs, 0⟩] scope gpos) 0 (.ref it) .none (genEnv scope (cloFrom X.env.cells scope.names []) s₄.heap.objs.size code bi X.env))),
            toks := s₄.toks + 1 + 1 + 1,
            heap := h'.push { cls := .type "generator", data := .fields #[.int s₄.gens.size 0, .str "<genexpr>" (s₄.toks + 1), .str (X.env.qual ++ "<genexpr>") (s₄.toks + 1 + 1)] } }) X.xe { s2 with heap := h3, toks := tk } := by
    rintro code h3 tk ps' hx hsz hP3 ⟨more, rfl⟩ ht4
    obtain ⟨bm, ob, e1, e2, e3, e4, e5, e6, e7, e8⟩ := TB.bm
    refine wpAny_builtinsFor (m := X.mg) (by rw [I2.ok.glob]; exact (I2.mod.glob.keeps I2.bk).extBut hx TB.gP) e1 e2 (hx _ _ e4 (I2.bk _ _ e5)) e6 e7 e8 ?_
    intro h' hns hsb
    have I3 : Inv X pins σ (upd H2 P (.tbl (ps ++ more))) { s2 with heap := h3, toks := tk } := GxR.inv_tab (g' := s2.gens) (d' := s2.drawn) I2 hP (fun b o hb e => hx b o hb e) hP3 I2.bare
    have lt2 : ∀ b ∈ fp, b < s2.heap.objs.size := fun b hb => by
      obtain ⟨o, e, _⟩ := T.obj _ _ st2 b hb
      exact Heap.lt_size e
    have f3 : ∀ b ∈ fp, FpOk X pins (upd H2 P (.tbl (ps ++ more))) b ∧ b < ({ s2 with heap := h3, toks := tk } : Shared).heap.objs.size := fun b hb => by
      refine ⟨⟨?_, (f2 b hb).2⟩, Nat.lt_of_lt_of_le (lt2 b hb) hsz⟩
      rw [upd_ne (nP b (f2 b hb).1)]
      exact (f2 b hb).1
    have st3 : tn 0 h3 := T.keep _ _ _ st2 fun b hb o e => hx b o (nP b (f2 b hb).1) e
    generalize hs4 : ({ s2 with heap := h3, toks := tk } : Shared) = s4 at I3 f3 hns hsb ⊢
    have h4 : s4.heap = h3 := by rw [← hs4]
    have hsz4 : h'.objs.size = s4.heap.objs.size + 1 := by rw [hsb.1, Heap.size_push]
    have keep' : ∀ b o, s4.heap.get? b = some o → h'.get? b = some o := fun b o e => hsb.extBut b o (Nat.ne_of_lt (Heap.lt_size e)) (Heap.get?_push_of_some _ e)
    generalize hgo : ({ cls := .type "generator", data := .fields #[.int s4.gens.size 0, .str "<genexpr>" (s4.toks + 1), .str (X.env.qual ++ "<genexpr>") (s4.toks + 1 + 1)] } : Obj) = go
    have hGO : GenObj go s4.gens.size := by rw [← hgo]; exact ⟨_, _, rfl, rfl, rfl⟩
    have k5 : ∀ b o, s4.heap.get? b = some o → (h'.push go).get? b = some o := fun b o e => Heap.get?_push_of_some _ (keep' b o e)
    have pg := fun A' => hg A' s4 (upd H2 P (.tbl (ps ++ more))) s4.heap.objs.size (cloFrom X.env.cells scope.names []) code fp
    have pt := fun A' => ht A' s4 (upd H2 P (.tbl (ps ++ more))) s4.heap.objs.size (cloFrom X.env.cells scope.names []) code fp
    have pe := fun A' => he A' s4 (upd H2 P (.tbl (ps ++ more))) s4.heap.objs.size (cloFrom X.env.cells scope.names []) code fp
    generalize hce : genEnv scope (cloFrom X.env.cells scope.names []) s4.heap.objs.size code builtinsNs X.env = cenv at pg pt pe ⊢
    have hscn : cenv.scope = scope := by rw [← hce]; rfl
    generalize hA' : A.over (.compLoop (.GeneratorExp elt [⟨tg, iter, ifs, 0⟩] scope gpos) 0 (.ref it) .none cenv) [] = A'
    have hfrA : A'.frames = some (cenv :: X.stack) := by
      rw [← hA']
      show pushEnvs [cenv] A.frames = _
      rw [near.fr, I2.ok.frames]
      rfl
    have hhd : A'.handled = none := by
      rw [← hA']
      show A.handled = none
      rw [near.hd]
      exact hr.hd
    have rm : Room k A' := by
      refine ⟨hhd, ?_, ?_⟩
      · have := hr.dp
        have := near.dp
        rw [← hA']
        show A.depth + 0 + 1 + 3 * k + 5 < _
        omega
      · have := hr.un
        have := near.un
        rw [← hA']
        show A.units + 0 + 3 + 16 * k + 200 < _
        omega
    have gdA : A'.guards = X.A.guards := by
      rw [← hA']
      show pushGuards [] A.guards = _
      rw [near.gd]
      rfl
    have I5 : Inv (gblk X A' s4 (upd H2 P (.tbl (ps ++ more))) cenv fp) [(h'.objs.size, go)] (wipe σ (own.map (·.2))) (upd H2 P (.tbl (ps ++ more)))
        { s4 with gens := s4.gens.push (.fresh (.compStart (.GeneratorExp elt [⟨tg, iter, ifs, 0⟩] scope gpos) 0 (.ref it) .none cenv)), toks := s4.toks + 1 + 1 + 1, heap := h'.push go } := by
      subst hce
      refine gen_start (it := .ref it) I3 ok nocell hN f3 hhd hfrA rfl (I3.bare.push rfl) k5 (hns.push _) fun p hp => ?_
      have e : p = (h'.objs.size, go) := by simpa using hp
      subst e
      refine ⟨by show s4.heap.objs.size < h'.objs.size; omega, Heap.get?_push_size _ (by rw [← hgo]; rfl), fun v z => ?_⟩
      rw [← hgo] at z
      cases z
    refine hQ J H2 _ _ _ q ⟨⟨_, upd_same, ht4⟩, fun b hb => upd_ne hb⟩ ⟨A', s4, _, cenv, fp, h'.objs.size, s4.gens.size, go, tn, _, rfl, hGO, Array.getElem?_push_size .., rfl, I5, ?_, fun b hb => (f3 b hb).1.1, fun b hb => ?_, T.keep, fun cp σ' H' s' I' => ?_, ?_⟩
    · exact T.keep _ _ _ st3 fun b _ o e => k5 b o (by rw [h4]; exact e)
    · have := (f3 b hb).2
      rw [hsz4]
      exact Nat.lt_succ_of_lt this
    · exact I3.call' (ch := fp) I'.os I'.base I'.hok I'.bare fun b hb => ⟨(f3 b hb).1.2.2.2.1, (f3 b hb).1.2.1, (f3 b hb).1.2.2.2.2.1, (f3 b hb).1.2.2.2.2.2⟩
    · intro α AC End Yd W m n a cp s' turn w hmn hAC hac I' st'
      refine ⟨rfl, ?_⟩
      have loop := seg_gx (A := A) (pos := gpos) (iter := iter) (scope := scope) hA' hc (by rw [hscn]; exact hco) T (pg A' rm gdA) (pt A' rm gdA) (pe A' rm gdA) hAC turn m n 0 a _ s' s' cp hmn w hac I' st' fun b hb => (f3 b hb).1.1
      show Seg _ A _ _ _ s' _ ((compStart (.GeneratorExp elt [⟨tg, iter, ifs, 0⟩] scope gpos) 0 (.ref it) .none cenv).onRaise (leaving cenv)) [] s'
      unfold compStart
      rw [Sem.onRaise_eq_wrap]
      show Seg _ A _ _ _ s' _ ((ask >>= _).wrap _ _ _ _) [] s'
      refine seg_bind_wrap (wpAny_askSetting ?_)
      split
      · exact seg_again rfl loop
      · first
          | exact seg_bind_wrap (wpAny_rule (seg_bind_wrap (wpAny_standAt (seg_bind_wrap (T.self _ 0 s' _ _ st' (seg_again rfl loop))))))
          | (refine seg_bind_wrap (wpAny_rule ?_); show Seg _ A _ _ _ s' _ ((standAt iter.pos >>= _).wrap _ _ _ _) [] s'; exact seg_bind_wrap (wpAny_standAt (seg_bind_wrap (T.self _ 0 s' _ _ st' (seg_again rfl loop)))))
  cases hf : codeAmong gpos ps.toList with
  | none =>
    refine wpAny_genexprCodeX hcode (cd.code hPs ht3) (cd.tab hPs) hf fun c' h' tk hx hge hlt hco' _ htab' _ => ?_
    obtain ⟨o1, vs, f1, tf, fl, tg, inF, tx, tt, op, _, _, _, _, _, _, _, _, _, htr, _⟩ := hco'
    exact cont _ h' tk _ hx (Nat.le_trans hge (Nat.le_of_lt hlt)) htab'.2 ⟨_, rfl⟩ htr
  | some cv =>
    refine wpAny_genexprCode_hit hcode (cd.code hPs ht3) hf ?_
    exact cont cv s2.heap s2.toks ps (Heap.ExtBut.refl _ _) (Nat.le_refl _) hPs ⟨#[], by simp⟩ ht3
end
/-! ### asking -/
section
variable {α : Type} {X : Cx} {A A' : Around} {s_0 : Shared} {H_0 : Hp} {cenv : Env} {fp : List Addr} {tn : Nat → Heap → Prop} {AC : α → List (Addr × Obj) → Prop} {End : α → Hp → Prop} {Yd : α → V → Hp → (α → Hp → Prop) → Prop} {ga : Addr} {gn n : Nat} {go : Obj}
theorem next_gx {gs : GenState} {s : Shared} {Q : Option Value → Shared → Prop} {E : Value → Shared → Prop} (hh : A.handled = none) (hroom : A.depth < recursionLimit) (hl : s.heap.NoLimit) (hG : GenObj go gn) (e : s.heap.get? ga = some go) (hgs : s.gens[gn]? = some gs)
    (hgo : gs.Goes (model X.prog X.w) A.in1 (RG (gblk X A' s_0 H_0 cenv fp) AC End) (YG (gblk X A' s_0 H_0 cenv fp) fp tn AC Yd) n (.send .none) (s.setGen gn .running))
    (item : ∀ (a : α) (x : V) (σ : L2.St) (H : Hp) (i : Nat) (cp : List (Addr × Obj)) (Nx : α → Hp → Prop) (v : Value) (s1 : Shared) (gs' : GenState), RelV x v → AC a cp → Inv (gblk X A' s_0 H_0 cenv fp) cp σ H s1 → tn i s1.heap → Yd a x H Nx → s1.gens[gn]? = some gs' →
      (∀ a' cp' s', Nx a' H → AC a' cp' → Inv (gblk X A' s_0 H_0 cenv fp) cp' σ H s' → tn i s'.heap → ∃ m, n = m + 1 ∧ gs'.Goes (model X.prog X.w) A.in1 (RG (gblk X A' s_0 H_0 cenv fp) AC End) (YG (gblk X A' s_0 H_0 cenv fp) fp tn AC Yd) m (.send .none) s') → Q (some v) s1)
    (done : ∀ (a : α) (σ : L2.St) (H : Hp) (cp : List (Addr × Obj)) (s1 : Shared), AC a cp → Inv (gblk X A' s_0 H_0 cenv fp) cp σ H s1 → End a H → Q none s1) :
    wpAny (model X.prog X.w) A (pyNext (.ref ga)) Q E s := by
  have hgl : gn < s.gens.size := (Array.getElem?_eq_some_iff.mp hgs).1
  refine GenW.wpAny_gsz (n := gn + 1) hgl (next_genG (Er := fun _ _ => False) hh hl hroom (hG.isGen e) hgs hgo (fun v s₁ gs' hbare hv => ?_) (fun s₁ hp h' hk => ?_) fun e s₁ he => he.elim)
  · intro hsz
    obtain ⟨a, x, σ, H, i, cp, Nx, r, hac, I, st, nf, hy, kap⟩ := hv
    have hsz1 : gn < s₁.gens.size := by
      have q : (s₁.setGen gn gs').gens.size = s₁.gens.size := GenW.setGen_size _ _ _
      have hsz' : gn + 1 ≤ (s₁.setGen gn gs').gens.size := hsz
      omega
    refine item a x σ H i cp Nx v (s₁.setGen gn gs') gs' r hac (inv_moved I rfl (allBare_setGen I.bare hbare) fun _ _ q => q) st hy (setGen_at hsz1) fun a' cp' s' nx hac' I' st' => ?_
    have z := kap a' cp' s' nx hac' I' st'
    cases n with
    | zero => exact z.elim
    | succ m => exact ⟨m, rfl, z⟩
  · intro _
    obtain ⟨a, σ, H, cp, hac, I, q⟩ := hp
    exact done a σ H cp _ hac (inv_moved I rfl (allBare_setGen I.bare rfl) hk) q
/-- all(..) asks on -/
theorem all_gx {R : Result → Shared → Prop} {Stop : Hp → Prop} {End : Unit → Hp → Prop} (hh : A.handled = none) (hroom : A.depth < recursionLimit) (hG : GenObj go gn)
    (yes : ∀ (σ : L2.St) (H : Hp) (cp : List (Addr × Obj)) (s1 : Shared), Inv (gblk X A' s_0 H_0 cenv fp) cp σ H s1 → End () H → R (.ok (.ret (.bool true))) s1)
    (no : ∀ (σ : L2.St) (H : Hp) (cp : List (Addr × Obj)) (s1 : Shared), Inv (gblk X A' s_0 H_0 cenv fp) cp σ H s1 → Stop H → R (.ok (.ret (.bool false))) s1) :
    ∀ (n : Nat) (s : Shared), s.heap.NoLimit → s.heap.get? ga = some go → (∃ gs, s.gens[gn]? = some gs ∧ gs.Goes (model X.prog X.w) A.in1.in1 (RG (gblk X A' s_0 H_0 cenv fp) (fun _ cp => cp = [(ga, go)]) End)
      (YG (gblk X A' s_0 H_0 cenv fp) fp tn (fun _ cp => cp = [(ga, go)]) (fun _ y H Nx => ∃ b : Bool, y = .bl b ∧ if b = true then Nx () H else Stop H)) n (.send .none) (s.setGen gn .running)) →
      codeAny (model X.prog X.w) A (.builtin "all.loop" ⟨[.ref ga], []⟩) R s := by
  intro n
  induction n with
  | zero =>
    rintro s hl e ⟨gs, hgs, hgo⟩
    refine codeAny_builtin F.entry_all_loop ?_
    rw [Around.under_plainId F.plain_all_loop _]
    show wpAny _ A.in1 (pyNext (.ref ga) >>= _) _ _ s
    refine wpAny_bind (next_gx (A := A.in1) hh hroom hl hG e hgs hgo (fun a x σ H i cp Nx v s1 gs' r hac I st hy at_ kap => ?_) fun a σ H cp s1 hac I q => ?_)
    · obtain ⟨b, rfl, hb⟩ := hy
      cases (show v = Value.bool b from r)
      refine wpAny_bind (wpAny_holding (wpAny_truthy_bool ?_))
      refine wpAny_bind (wpAny_letGo ?_)
      cases b with
      | true =>
        obtain ⟨m, hm, _⟩ := kap () cp s1 hb hac I st
        cases hm
      | false =>
        simp only [Bool.false_eq_true, if_false] at hb ⊢
        exact wpAny_bind (wpAny_rule (wpAny_pure (no σ H cp s1 I hb)))
    · exact wpAny_bind (wpAny_rule (wpAny_pure (yes σ H cp s1 I q)))
  | succ n ih =>
    rintro s hl e ⟨gs, hgs, hgo⟩
    refine codeAny_builtin F.entry_all_loop ?_
    rw [Around.under_plainId F.plain_all_loop _]
    show wpAny _ A.in1 (pyNext (.ref ga) >>= _) _ _ s
    refine wpAny_bind (next_gx (A := A.in1) hh hroom hl hG e hgs hgo (fun a x σ H i cp Nx v s1 gs' r hac I st hy at_ kap => ?_) fun a σ H cp s1 hac I q => ?_)
    · obtain ⟨b, rfl, hb⟩ := hy
      cases (show v = Value.bool b from r)
      refine wpAny_bind (wpAny_holding (wpAny_truthy_bool ?_))
      refine wpAny_bind (wpAny_letGo ?_)
      cases b with
      | true =>
        simp only [if_true] at hb ⊢
        subst hac
        refine wpAny_pure ⟨plainId_quiet F.plain_all_loop _, ih s1 I.nolimit (I.pin (ga, go) (List.mem_append_right _ List.mem_cons_self)).1 ⟨gs', at_, ?_⟩⟩
        obtain ⟨m, hm, z⟩ := kap () [(ga, go)] (s1.setGen gn .running) hb rfl (inv_moved I rfl (allBare_setGen I.bare rfl) fun _ _ q => q) st
        cases hm
        exact z
      | false =>
        simp only [Bool.false_eq_true, if_false] at hb ⊢
        exact wpAny_bind (wpAny_rule (wpAny_pure (no σ H cp s1 I hb)))
    · exact wpAny_bind (wpAny_rule (wpAny_pure (yes σ H cp s1 I q)))
end
section
variable {X : Cx}
/-- all(elt for tg in iter ..) -/
def tAllX (P : Addr) (wi : TI) (g : TG) (tt : TT) (te : TE) (vs : List Nat) : TE := fun σ H Q => wi σ H fun J H1 => GxR.TabG H1 P ∧ ∀ H2, GxR.Tabbed P H1 H2 → ∃ W : Nat → Nat → Unit → Hp → Prop, (∃ m, W 0 m () H2) ∧
  tGx J g tt te (wipe σ vs) vs (fun _ H => Q (.bl true) H) (fun _ y H Nx => ∃ b : Bool, y = .bl b ∧ if b = true then Nx () H else Q (.bl false) H) W
theorem pe_allX {c P : Addr} {elt tg iter : Expr} {ifs : List Expr} {p pos gpos : Pos} {scope : Scope} {own : List (Str × Nat)} {wi : TI} {g : TG} {tt : TT} {te : TE} {k : Nat}
    (hr : Room (k + 1) X.A) (hc : X.calm = true) (hN : X.N.Nodup) (hgl : Gl X "all") (hm : X.mg "all" = none) (hb : bootBuiltins "all" = some (.builtin "all")) (TB : GxR.TabB X.base X.mg c P) (hcode : X.env.code = .ref c)
    (hco : scope.isCoroutine = false) (hdot : scope.names.lookup (".0" : Str) = some NameKind.local) (nocell : ∀ y ∈ scope.names, y.2 ≠ .cell) (ok : BlkOk X.N X.env.scope scope own) (hi : PI X tg iter wi)
    (hg : ∀ (A' : Around) (s : Shared) (H : Hp) (C : Addr) (cl : List (Str × Addr)) (code : Value) (fp : List Addr), Room k A' → A'.guards = X.A.guards → PG (gblk X A' s H (genEnv scope cl C code builtinsNs X.env) fp) tg g)
    (ht : ∀ (A' : Around) (s : Shared) (H : Hp) (C : Addr) (cl : List (Str × Addr)) (code : Value) (fp : List Addr), Room k A' → A'.guards = X.A.guards → PTs (gblk X A' s H (genEnv scope cl C code builtinsNs X.env) fp) ifs tt)
    (he : ∀ (A' : Around) (s : Shared) (H : Hp) (C : Addr) (cl : List (Str × Addr)) (code : Value) (fp : List Addr), Room k A' → A'.guards = X.A.guards → PE (gblk X A' s H (genEnv scope cl C code builtinsNs X.env) fp) elt te)
    (hs : ∀ v, genFold iter X.env v = pure v)
    (hst : starEach [.GeneratorExp elt [⟨tg, iter, ifs, 0⟩] scope gpos] X.env = (false, eval (.GeneratorExp elt [⟨tg, iter, ifs, 0⟩] scope gpos) X.env) :: starEach [] X.env := by rfl) :
    PE X (.Call (.Name "all" p) [.GeneratorExp elt [⟨tg, iter, ifs, 0⟩] scope gpos] [] pos) (tAllX P wi g tt te (own.map (·.2))) := by
  refine ⟨fun pins s σ H Q I h => ?_⟩
  refine wpAny_Call_Name_kw (ld_blt I hgl hm hb ?_)
  refine PyProof.Rows.callWith_builtin1 ?_ hst (by rfl)
  rw [hst]
  show wpAny _ _ (spliced ((false, eval (.GeneratorExp elt [⟨tg, iter, ifs, 0⟩] scope gpos) X.env) :: backTo pos (starEach [] X.env))) _ _ s
  refine Calls.spliced_cons (gx_make (A := X.A.in1.in1) hr ⟨rfl, rfl, rfl, rfl, (by show X.A.units + 1 + 1 ≤ _; omega)⟩ hc hN TB hcode hco hdot nocell ok hi hg ht he hs I h fun J H1 H2 u s5 hR hT hG => ?_)
  obtain ⟨A', s_0, H_0, cenv, fp, ga, gn, go, tn, gs, rfl, hGO, hgs, hbare, I5, st5, nf, hlt, keep, back, goes⟩ := hG
  obtain ⟨W, ⟨m, w0⟩, turn⟩ := hR H2 hT
  refine Calls.spliced_nil ?_
  have pin5 := (I5.pin (ga, go) (List.mem_append_right _ List.mem_cons_self)).1
  refine call_function_tree F.kind_all F.plain_all F.entry_all (F.args_all1 _) ?_
  unfold Builtin.«all»
  refine wpAny_bind (m := oneArg "all" _) (wpAny_pure ?_)
  refine wpAny_bind (wpAny_pyIter_gen (hGO.isGen pin5) ?_)
  refine wpAny_pure ⟨plainId_quiet F.plain_all_loop _, all_gx (A' := A') (s_0 := s_0) (H_0 := H_0) (cenv := cenv) (fp := fp) (tn := tn) (go := go) (gn := gn) (Stop := fun H => Q (.bl false) H) (End := fun _ H => Q (.bl true) H) hr.hd hr.depth hGO
    (fun σ' H' cp s1 I1 q => ⟨.bl true, H', back _ _ _ _ I1, rfl, q⟩) (fun σ' H' cp s1 I1 q => ⟨.bl false, H', back _ _ _ _ I1, rfl, q⟩) (m + 1) s5 I5.nolimit pin5 ⟨gs, hgs, ?_⟩⟩
  refine goes Unit _ _ _ W m (m + 1) () [(ga, go)] _ turn w0 (Nat.lt_succ_self _) (fun a cp hac p hp b hb z => ?_) rfl (inv_moved I5 rfl (allBare_setGen I5.bare rfl) fun _ _ q => q) st5
  subst hac
  have e : p = (ga, go) := by simpa using hp
  subst e
  exact absurd (hlt b hb) (by rw [← z]; exact Nat.lt_irrefl _)
end
/-! ### tuple(..) -/
section
variable {X : Cx} {A A' : Around} {s_0 : Shared} {H_0 : Hp} {cenv : Env} {fp : List Addr} {tn : Nat → Heap → Prop} {ga S : Addr} {gn n : Nat} {go : Obj}
/-- the asker's list S holds what is out -/
def ACl (ga : Addr) (go : Obj) (S : Addr) (ys : List V) (cp : List (Addr × Obj)) : Prop := ∃ (acc : Array Value) (c : Nat), cp = [(ga, go), (S, lstObj acc c)] ∧ Vals ys acc.toList
def YdL (ys : List V) (y : V) (H : Hp) (Nx : List V → Hp → Prop) : Prop := ys.length < sizeLine ∧ Nx (ys ++ [y]) H
theorem ext_gx {R : Result → Shared → Prop} {End : List V → Hp → Prop} {res : Value} (hh : A.handled = none) (hroom : A.depth < recursionLimit) (hG : GenObj go gn) (hSa : S ≠ ga) (far : (gblk X A' s_0 H_0 cenv fp).s_0.heap.objs.size ≤ S) (hSc : ∀ x c, cenv.cells.lookup x = some c → c ≠ S)
    (keep : ∀ i h h', tn i h → (∀ b ∈ fp, ∀ o, h.get? b = some o → h'.get? b = some o) → tn i h') (hSf : ∀ b ∈ fp, b ≠ S)
    (yes : ∀ (σ : L2.St) (H : Hp) (ys : List V) (acc : Array Value) (c : Nat) (s1 : Shared), Inv (gblk X A' s_0 H_0 cenv fp) [(ga, go), (S, lstObj acc c)] σ H s1 → Vals ys acc.toList → End ys H → R (.ok (.ret res)) s1) :
    ∀ (n : Nat) (s : Shared), s.heap.NoLimit → s.heap.get? ga = some go → (∃ gs, s.gens[gn]? = some gs ∧ gs.Goes (model X.prog X.w) A.in1.in1 (RG (gblk X A' s_0 H_0 cenv fp) (ACl ga go S) End)
      (YG (gblk X A' s_0 H_0 cenv fp) fp tn (ACl ga go S) YdL) n (.send .none) (s.setGen gn .running)) →
      codeAny (model X.prog X.w) A (.builtin "list.extend.loop" ⟨[.ref S, .ref ga, res], []⟩) R s := by
  intro n
  induction n with
  | zero =>
    rintro s hl e ⟨gs, hgs, hgo⟩
    refine codeAny_builtin F.entry_extend_loop ?_
    rw [Around.under_plainId F.plain_extend_loop _]
    show wpAny _ A.in1 (pyNext (.ref ga) >>= _) _ _ s
    refine wpAny_bind (next_gx (A := A.in1) hh hroom hl hG e hgs hgo (fun ys x σ H i cp Nx v s1 gs' r hac I st hy at_ kap => ?_) fun ys σ H cp s1 hac I q => ?_)
    · obtain ⟨acc, c, rfl, rv⟩ := hac
      have pS := I.pin (S, lstObj acc c) (List.mem_append_right _ (List.mem_cons_of_mem _ List.mem_cons_self))
      have I0 : Inv (gblk X A' s_0 H_0 cenv fp) [(ga, go)] σ H s1 := I.pins_of fun p hp => I.pin p (List.mem_append_right _ (by rw [List.mem_singleton.mp hp]; exact List.mem_cons_self))
      have I1 := I0.turned (t' := s1.toks) (h' := s1.heap.update S (Obj.mapSeq (·.push v))) (it := S) (fun b o hb q => (Heap.get?_update_other _ _ (Ne.symm hb)).trans q) pS.2.1 pS.2.2.1 (.inr far) hSc (fun p hp => by rw [List.mem_singleton.mp (show p ∈ [(ga, go)] by simpa using hp)]; exact Ne.symm hSa)
      have e2 := Heap.get?_update_self (Obj.mapSeq (·.push v)) pS.1 rfl
      obtain ⟨m, hm, _⟩ := kap (ys ++ [x]) [(ga, go), (S, _)] _ hy.2 ⟨acc.push v, _, rfl, by rw [Array.toList_push]; exact rv.append (.cons r .nil)⟩ (I1.pins_of fun p hp => by
        rcases List.mem_cons.mp hp with z | z
        · rw [z]; exact I1.pin (ga, go) (List.mem_append_right _ List.mem_cons_self)
        · rw [List.mem_singleton.mp z]; exact ⟨e2, pS.2.1, pS.2.2.1, pS.2.2.2.1, fun v q => by cases q⟩) (keep _ _ _ st fun b hb o q => (Heap.get?_update_other _ _ (Ne.symm (hSf b hb))).trans q)
      cases hm
    · obtain ⟨acc, c, rfl, rv⟩ := hac
      exact wpAny_pure (yes σ H ys acc c s1 I rv q)
  | succ n ih =>
    rintro s hl e ⟨gs, hgs, hgo⟩
    refine codeAny_builtin F.entry_extend_loop ?_
    rw [Around.under_plainId F.plain_extend_loop _]
    show wpAny _ A.in1 (pyNext (.ref ga) >>= _) _ _ s
    refine wpAny_bind (next_gx (A := A.in1) hh hroom hl hG e hgs hgo (fun ys x σ H i cp Nx v s1 gs' r hac I st hy at_ kap => ?_) fun ys σ H cp s1 hac I q => ?_)
    · obtain ⟨acc, c, rfl, rv⟩ := hac
      have pS := I.pin (S, lstObj acc c) (List.mem_append_right _ (List.mem_cons_of_mem _ List.mem_cons_self))
      have I0 : Inv (gblk X A' s_0 H_0 cenv fp) [(ga, go)] σ H s1 := I.pins_of fun p hp => I.pin p (List.mem_append_right _ (by rw [List.mem_singleton.mp hp]; exact List.mem_cons_self))
      have I1 := I0.turned (t' := s1.toks) (h' := s1.heap.update S (Obj.mapSeq (·.push v))) (it := S) (fun b o hb q => (Heap.get?_update_other _ _ (Ne.symm hb)).trans q) pS.2.1 pS.2.2.1 (.inr far) hSc (fun p hp => by rw [List.mem_singleton.mp (show p ∈ [(ga, go)] by simpa using hp)]; exact Ne.symm hSa)
      have e2 := Heap.get?_update_self (Obj.mapSeq (·.push v)) pS.1 rfl
      have hln := rv.length
      have hlt : acc.size < sizeLine := by
        have := hy.1
        rw [hln] at this
        simpa using this
      have pG := I1.pin (ga, go) (List.mem_append_right _ List.mem_cons_self)
      show wpAny _ A.in1 (updateSeq S (·.push v) >>= _) _ _ _
      refine wpAny_bind ?_
      refine wpAny_updateSeq pS.1 rfl (wpAny_pure ⟨plainId_quiet F.plain_extend_loop _, ih _ I1.nolimit pG.1 ⟨gs', at_, ?_⟩⟩) (Nat.le_of_lt hlt) (by show (acc.push v).size ≤ sizeLine + 1; rw [Array.size_push]; omega)
      obtain ⟨m, hm, z⟩ := kap (ys ++ [x]) [(ga, go), (S, _)] (({ s1 with heap := s1.heap.update S (Obj.mapSeq (·.push v)) } : Shared).setGen gn .running) hy.2 ⟨acc.push v, _, rfl, by rw [Array.toList_push]; exact rv.append (.cons r .nil)⟩ (inv_moved (I1.pins_of fun p hp => by
        rcases List.mem_cons.mp hp with z | z
        · rw [z]; exact pG
        · rw [List.mem_singleton.mp z]; exact ⟨e2, pS.2.1, pS.2.2.1, pS.2.2.2.1, fun v q => by cases q⟩) rfl (allBare_setGen (s := { s1 with heap := s1.heap.update S (Obj.mapSeq (·.push v)) }) I1.bare rfl) fun _ _ q => q) (keep _ _ _ st fun b hb o q => (Heap.get?_update_other _ _ (Ne.symm (hSf b hb))).trans q)
      cases hm
      exact z
    · obtain ⟨acc, c, rfl, rv⟩ := hac
      exact wpAny_pure (yes σ H ys acc c s1 I rv q)
end
section
variable {X : Cx} {pins : List (Addr × Obj)} {σ : L2.St} {s5 : Shared} {J : It} {g : TG} {tt : TT} {te : TE} {vs : List Nat} {H4 : Hp} {u : Value}
/-- all that a generator hands out, in a list of the asker's own -/
theorem collect_gx {A : Around} {E : Value → Shared → Prop} {Q : List Value → Shared → Prop} {End : List V → Hp → Prop} {W : Nat → Nat → List V → Hp → Prop} {m : Nat} (hh : A.handled = none) (hroom : A.depth < recursionLimit) (G : Gx X pins σ A.in1.in1 J g tt te vs H4 u s5)
    (w0 : W 0 m [] H4) (turn : tGx J g tt te (wipe σ vs) vs End YdL W)
    (hQ : ∀ (s' : Shared) (acc : Array Value) (ys : List V) (H' : Hp), Inv X pins σ H' s' → Vals ys acc.toList → End ys H' → Q acc.toList s') : wpAny (model X.prog X.w) A (collect u) Q E s5 := by
  obtain ⟨A', s_0, H_0, cenv, fp, ga, gn, go, tn, gs, rfl, hGO, hgs, hbare, I5, st5, nf, hlt, keep, back, goes⟩ := G
  have pin5 := I5.pin (ga, go) (List.mem_append_right _ List.mem_cons_self)
  have glt : ga < s5.heap.objs.size := Heap.lt_size pin5.1
  have hSI : s5.heap.objs.size ≠ ga := Nat.ne_of_gt glt
  unfold collect
  refine wpAny_bind (wpAny_runValue (codeAny_builtin F.entry_proto_collect ?_))
  rw [Around.under_plainId F.plain_proto_collect _]
  show wpAny _ A.in1 (newList [] >>= fun l => again (.builtin "list.__iadd__" ⟨[l, .ref ga], []⟩)) _ _ s5
  refine wpAny_bind (wpAny_newObj_type ?_)
  refine wpAny_pure ⟨plainId_quiet F.plain_list_iadd _, codeAny_builtin F.entry_list_iadd ?_⟩
  rw [Around.under_plainId F.plain_list_iadd _]
  show wpAny _ A.in1 (Builtin.List.listExtendWith (.ref s5.heap.objs.size) (.ref ga) (.ref s5.heap.objs.size)) _ _ _
  unfold Builtin.List.listExtendWith
  have k1 : ∀ b o, s5.heap.get? b = some o → (s5.heap.push { cls := .type "list", data := .seq ([] : List Value).toArray }).get? b = some o := fun b o e => Heap.get?_push_of_some _ e
  have hT : Shared.TypeIs { s5 with heap := s5.heap.push { cls := .type "list", data := .seq ([] : List Value).toArray } } (.ref ga) "generator" := Heap.IsGen.typeIs (s := { s5 with heap := _ }) (hGO.isGen (k1 _ _ pin5.1))
  refine wpAny_bind (wpAny_typeOf hT ?_)
  have h1 : Builtin.List.listSameRef (.ref s5.heap.objs.size) (.ref ga) = false := by simp [Builtin.List.listSameRef, hSI]
  have h2 : (Value.type "generator" == Value.type "list") = false := by decide
  have h3 : (Value.type "generator" == Value.type "tuple") = false := by decide
  simp only [h1, h2, h3, Bool.or_false, Bool.false_eq_true, if_false]
  refine wpAny_bind (wpAny_pyIter_gen (s := { s5 with heap := _ }) (hGO.isGen (k1 _ _ pin5.1)) ?_)
  refine wpAny_bind (wpAny_holding ?_)
  unfold Builtin.List.listLengthHint
  refine wpAny_bind (wpAny_specialOf hT F.gen_no_len ?_)
  show wpAny _ A.in1 (specialOf (Value.ref ga) (Str.ofString "__length_hint__") >>= _) _ _ _
  refine wpAny_bind (wpAny_specialOf hT F.gen_no_hint ?_)
  refine wpAny_pure ?_
  show wpAny _ A.in1 (rule "list.extend.makes-room" >>= fun _ => Builtin.List.listTouch (.ref s5.heap.objs.size) >>= fun _ =>
    again (.builtin "list.extend.loop" ⟨[.ref s5.heap.objs.size, .ref ga, .ref s5.heap.objs.size], []⟩)) _ _ _
  refine wpAny_bind (wpAny_rule ?_)
  have hS₁ : (s5.heap.push { cls := .type "list", data := .seq ([] : List Value).toArray }).get? s5.heap.objs.size = some { cls := .type "list", data := .seq ([] : List Value).toArray } := Heap.get?_push_size _ rfl
  refine wpAny_bind ?_
  show wpAny _ A.in1 (updateSeq s5.heap.objs.size (·.push .none) >>= fun _ => updateSeq s5.heap.objs.size (·.pop)) _ _ _
  refine wpAny_bind (wpAny_updateSeq hS₁ rfl ?_)
  have hS₂ := Heap.get?_update_self (Obj.mapSeq (·.push Value.none)) hS₁ rfl
  refine wpAny_updateSeq hS₂ rfl ?_
  have hS₃ := Heap.get?_update_self (Obj.mapSeq (·.pop)) hS₂ rfl
  obtain ⟨c3, hS₄⟩ : ∃ c, (((s5.heap.push { cls := .type "list", data := .seq ([] : List Value).toArray }).update s5.heap.objs.size (Obj.mapSeq (·.push Value.none))).update s5.heap.objs.size (Obj.mapSeq (·.pop))).get? s5.heap.objs.size = some (lstObj #[] c) := ⟨_, hS₃⟩
  have k3 : ∀ b o, s5.heap.get? b = some o → (((s5.heap.push { cls := .type "list", data := .seq ([] : List Value).toArray }).update s5.heap.objs.size (Obj.mapSeq (·.push Value.none))).update s5.heap.objs.size (Obj.mapSeq (·.pop))).get? b = some o :=
    fun b o e => (Heap.get?_update_other _ _ (Ne.symm (Nat.ne_of_lt (Heap.lt_size e)))).trans ((Heap.get?_update_other _ _ (Ne.symm (Nat.ne_of_lt (Heap.lt_size e)))).trans (k1 b o e))
  have fS : FpOk (gblk X A' s_0 H_0 cenv fp) [(ga, go)] H4 s5.heap.objs.size := I5.fpOk (Nat.le_refl _) (I5.hok.fresh (Nat.le_refl _))
  have hfS : ∀ b ∈ fp, b ≠ s5.heap.objs.size := fun b hb => Nat.ne_of_lt (Nat.lt_trans (hlt b hb) glt)
  have I6 := inv_moved (s' := { s5 with heap := ((s5.heap.push { cls := .type "list", data := .seq ([] : List Value).toArray }).update s5.heap.objs.size (Obj.mapSeq (·.push Value.none))).update s5.heap.objs.size (Obj.mapSeq (·.pop)) }) I5 rfl I5.bare k3
  refine wpAny_pure ⟨plainId_quiet F.plain_extend_loop _, ext_gx (A := A) (A' := A') (s_0 := s_0) (H_0 := H_0) (cenv := cenv) (fp := fp) (tn := tn) (go := go) (gn := gn) (End := End) hh hroom hGO hSI ?_ fS.2.2.2.2.1 keep hfS
    (fun σ' H' ys acc c s1 I1 rv q => ?_) (m + 1) _ I6.nolimit (k3 _ _ pin5.1) ⟨gs, hgs, ?_⟩⟩
  · exact Nat.le_trans I5.sz (Nat.le_refl _)
  · show wpAny _ A (load s5.heap.objs.size >>= _) _ _ s1
    have pS := (I1.pin (s5.heap.objs.size, lstObj acc c) (List.mem_append_right _ (List.mem_cons_of_mem _ List.mem_cons_self))).1
    refine wpAny_bind (wpAny_load pS ?_)
    exact wpAny_pure (hQ s1 acc ys H' (back _ _ _ _ I1) rv q)
  · refine goes (List V) (ACl ga go s5.heap.objs.size) End YdL W m (m + 1) [] [(ga, go), (s5.heap.objs.size, lstObj #[] c3)] _ turn w0 (Nat.lt_succ_self _) (fun ys cp hac p hp b hb z => ?_) ⟨#[], c3, rfl, .nil⟩
      (inv_moved (I6.pins_of fun p hp => ?_) rfl (allBare_setGen (s := { s5 with heap := _ }) I5.bare rfl) fun _ _ q => q) (keep _ _ _ st5 fun b hb o q => k3 b o q)
    · obtain ⟨acc, c, rfl, _⟩ := hac
      rcases List.mem_cons.mp hp with e | e
      · rw [e] at z
        exact absurd (hlt b hb) (by rw [← z]; exact Nat.lt_irrefl _)
      · rw [List.mem_singleton.mp e] at z
        exact hfS b hb z.symm
    · rcases List.mem_cons.mp hp with e | e
      · rw [e]
        exact I6.pin (ga, go) (List.mem_append_right _ List.mem_cons_self)
      · rw [List.mem_singleton.mp e]
        exact ⟨hS₄, fS.1, fS.2.1, fS.2.2.1, fun v q => by cases q⟩
end
section
variable {X : Cx}
/-- tuple(elt for tg in iter ..) -/
def tTupX (P : Addr) (wi : TI) (g : TG) (tt : TT) (te : TE) (vs : List Nat) : TE := fun σ H Q => wi σ H fun J H1 => GxR.TabG H1 P ∧ ∀ H2, GxR.Tabbed P H1 H2 → ∃ W : Nat → Nat → List V → Hp → Prop, (∃ m, W 0 m [] H2) ∧
  tGx J g tt te (wipe σ vs) vs (fun ys H => ys.length ≤ sizeLine ∧ ∀ p, H p = none → Q (.ref p) (upd H p (.tup ys))) YdL W
theorem pe_tupX {c P : Addr} {elt tg iter : Expr} {ifs : List Expr} {p pos gpos : Pos} {scope : Scope} {own : List (Str × Nat)} {wi : TI} {g : TG} {tt : TT} {te : TE} {k : Nat}
    (hr : Room (k + 1) X.A) (hc : X.calm = true) (hN : X.N.Nodup) (hgl : Gl X "tuple") (hm : X.mg "tuple" = none) (hb : bootBuiltins "tuple" = some (.type "tuple")) (TB : GxR.TabB X.base X.mg c P) (hcode : X.env.code = .ref c)
    (hco : scope.isCoroutine = false) (hdot : scope.names.lookup (".0" : Str) = some NameKind.local) (nocell : ∀ y ∈ scope.names, y.2 ≠ .cell) (ok : BlkOk X.N X.env.scope scope own) (hi : PI X tg iter wi)
    (hg : ∀ (A' : Around) (s : Shared) (H : Hp) (C : Addr) (cl : List (Str × Addr)) (code : Value) (fp : List Addr), Room k A' → A'.guards = X.A.guards → PG (gblk X A' s H (genEnv scope cl C code builtinsNs X.env) fp) tg g)
    (ht : ∀ (A' : Around) (s : Shared) (H : Hp) (C : Addr) (cl : List (Str × Addr)) (code : Value) (fp : List Addr), Room k A' → A'.guards = X.A.guards → PTs (gblk X A' s H (genEnv scope cl C code builtinsNs X.env) fp) ifs tt)
    (he : ∀ (A' : Around) (s : Shared) (H : Hp) (C : Addr) (cl : List (Str × Addr)) (code : Value) (fp : List Addr), Room k A' → A'.guards = X.A.guards → PE (gblk X A' s H (genEnv scope cl C code builtinsNs X.env) fp) elt te)
    (hs : ∀ v, genFold iter X.env v = pure v)
    (hst : starEach [.GeneratorExp elt [⟨tg, iter, ifs, 0⟩] scope gpos] X.env = (false, eval (.GeneratorExp elt [⟨tg, iter, ifs, 0⟩] scope gpos) X.env) :: starEach [] X.env := by rfl) :
    PE X (.Call (.Name "tuple" p) [.GeneratorExp elt [⟨tg, iter, ifs, 0⟩] scope gpos] [] pos) (tTupX P wi g tt te (own.map (·.2))) := by
  refine ⟨fun pins s σ H Q I h => ?_⟩
  refine wpAny_Call_Name_kw (ld_blt I hgl hm hb ?_)
  refine PyProof.Rows.callWith_type1 ?_ hst (by rfl)
  rw [hst]
  show wpAny _ _ (spliced ((false, eval (.GeneratorExp elt [⟨tg, iter, ifs, 0⟩] scope gpos) X.env) :: backTo pos (starEach [] X.env))) _ _ s
  refine Calls.spliced_cons (gx_make (A := X.A.in1.in1.in1.in1) hr ⟨rfl, rfl, rfl, rfl, (by show X.A.units + 1 + 1 + 1 + 1 ≤ _; omega)⟩ hc hN TB hcode hco hdot nocell ok hi hg ht he hs I h fun J H1 H2 u s5 hR hT hG => ?_)
  obtain ⟨W, ⟨m, w0⟩, turn⟩ := hR H2 hT
  refine Calls.spliced_nil ?_
  have ⟨A', s_0, H_0, cenv, fp, ga, gn, go, tn, gs, eu, hGO, hgs, hbare, I5, st5, nf, hlt, keep, back, goes⟩ := hG
  have pin5 := (I5.pin (ga, go) (List.mem_append_right _ List.mem_cons_self)).1
  rw [eu] at hG ⊢
  refine callType_codes (Q₁ := fun obj s₁ => s₁.TypeIs obj "tuple" ∧ EP X pins σ Q obj s₁) F.called_tuple (F.typeCall_tuple_1 _) F.entry_object_init ?_ fun obj s₁ h₁ =>
    ⟨h₁.1, F.args_object_init_2 obj _, object_init_meets F.called_tuple.init.lookup F.called_tuple.made (by decide) X.prog X.w X.A.in1 _ s₁ ⟨h₁.1, rfl, h₁.2⟩⟩
  refine codeAny_of_tree ?_
  show wpAny _ X.A.in1.in1 (do checkBuiltinCall "tuple.__new__" ⟨[.type "tuple", .ref ga], []⟩; again (.builtin "tuple.__new__" ⟨[.type "tuple", .ref ga], []⟩)) _ _ s5
  refine wpAny_bind (wpAny_of_eq (F.newCall_tuple_1 _) (wpAny_pure ⟨plainId_quiet F.plain_tuple_new _, codeAny_builtin F.entry_tuple_new ?_⟩))
  rw [Around.under_plainId F.plain_tuple_new _]
  have hsub := sub_tuple_self
  have hinit := init_tuple_lookup
  have hmh := madeHere_tuple
  have hTI : s5.TypeIs (.ref ga) "generator" := (hGO.isGen pin5).typeIs
  have col : ∀ {Q0 : List Value → Shared → Prop} {E0 : Value → Shared → Prop}, (∀ (s' : Shared) (acc : Array Value), (∃ (ys : List V) (H' : Hp), Inv X pins σ H' s' ∧ Vals ys acc.toList ∧ ys.length ≤ sizeLine ∧ ∀ p, H' p = none → Q (.ref p) (upd H' p (.tup ys))) → Q0 acc.toList s') →
      wpAny (model X.prog X.w) X.A.in1.in1 (collect (.ref ga)) Q0 E0 s5 := fun hq => collect_gx hr.hd hr.depth hG w0 turn (fun s' acc ys H' I' rv q => hq s' acc ⟨ys, H', I', rv, q.1, q.2⟩)
  wp_walk using wpAny_typeOf hTI, col
  rintro s' acc ⟨ys, H', I', rv, small, q⟩
  show wpAny _ _ (Builtin.Tuple.tupleExact acc.toList.toArray >>= fun v => ret v) _ _ _
  unfold Builtin.Tuple.tupleExact
  refine wpAny_bind (wpAny_newObj_type ?_ (by show acc.toList.toArray.size ≤ sizeLine; rw [List.size_toArray, ← rv.length]; exact small))
  refine wpAny_pure ?_
  have free : H' s'.heap.objs.size = none := I'.hok.fresh (Nat.le_refl _)
  refine ⟨⟨_, Heap.get?_push_size _ rfl, rfl⟩, .ref s'.heap.objs.size, upd H' s'.heap.objs.size (.tup ys), I'.laid (t' := s'.toks) (fun b u z => Heap.get?_push_of_some _ z) (Nat.le_refl _) ⟨small, acc.toList, rv, ?_⟩, rfl, q _ free⟩
  exact ⟨_, Heap.get?_push_size _ rfl, rfl, 0, rfl⟩
end
/-! ### a def by its body, its code object known -/
theorem okC {P : Program} {w : World} {K : PySem.W.Frag} {mg : Str → Option Value} {base : Heap} {x qual : Str} {st : Stmt} {f : Addr} {fd : FuncData} {N ps : List Str} {k : Nat} {sp : Sp} (F : Fun K x qual st f fd) (S : FnScope N ps (defScope st)) (len : ∀ vs H Q E, sp vs H Q E → vs.length = ps.length)
    (body : ∀ (A : Around) (outer : List Env) (s : Shared) (H : Hp) (vs : List V) (Q : VK) (E : XK), Room k (A.deeper (envOfC qual (defScope st) s.heap.objs.size f fd.code)) → sp vs H Q E →
      ∃ t, PSs (cxOf CX0 P w K mg base N qual (defScope st) f fd.code A outer s H E).nox (defBody st) t ∧ t { nx := fun _ H' => Q .non H', rt := Q } (start N vs) H) : FnOk P w K mg base CX0 (k + 1) f fd ps sp := by
  obtain ⟨oc, od, kV, doc, pm, an, cdv, ct, osl, rfl, lk, hcd⟩ := F.ex
  refine fn_of lk hcd S len fun A outer s H vs Q E hr hsp => ?_
  obtain ⟨t, h, q⟩ := body A outer s H vs Q E hr hsp
  exact ⟨t, h.nox, q⟩
/-! ### from the head's facts -/
theorem fun_of {K : PySem.W.Frag} {x qual : Str} {st : Stmt} {f : Addr} {fd : FuncData} (F : FunD K x qual (defArgs st) (defBody st) (defScope st) [] [] f fd) : Fun K x qual st f fd := by
  obtain ⟨oc, od, dV, kV, doc, pm, an, cdv, ct, osl, rfl, lk, hcd, hd, _⟩ := F.ex
  rcases hd with ⟨_, rfl⟩ | ⟨z, _⟩
  · exact ⟨⟨oc, od, kV, doc, pm, an, cdv, ct, osl, rfl, lk, hcd⟩, F.kp⟩
  · exact absurd rfl z
theorem code_of {K : PySem.W.Frag} {x qual : Str} {st : Stmt} {p : He.Defn} {fd : FuncData} (F : Fun K x qual st (He.fAd K p) fd) : fd.code = .ref (He.cT K p).1 := by
  obtain ⟨oc, od, kV, doc, pm, an, cdv, ct, osl, rfl, lk, hcd⟩ := F.ex
  obtain ⟨c, rfl⟩ := He.codeIn_ref hcd
  show Value.ref c = Value.ref (He.codeOf K p)
  rw [He.codeOf_eq lk rfl]
theorem tab_of {base : Heap} {mg : Str → Option Value} {c P : Addr} (h : LamX.TabB base mg c P) : GxR.TabB base mg c P := ⟨h.code, h.bm, h.gP⟩
/-! ### heaps whose tables grow -/
def Tabs (H : Hp) (Ps : List Addr) : Prop := ∀ P ∈ Ps, GxR.TabG H P
/-- what is no table stays; tables stay tables -/
def Gr (H H' : Hp) : Prop := (∀ b o, (∀ ps, o ≠ HO.tbl ps) → H b = some o → H' b = some o) ∧ ∀ b, GxR.TabG H b → GxR.TabG H' b
theorem Gr.refl {H : Hp} : Gr H H := ⟨fun _ _ _ e => e, fun _ e => e⟩
theorem Gr.trans {H H1 H2 : Hp} (a : Gr H H1) (b : Gr H1 H2) : Gr H H2 := ⟨fun c o n e => b.1 c o n (a.1 c o n e), fun c e => b.2 c (a.2 c e)⟩
theorem Gr.of {H H' : Hp} (h : ∀ b o, H b = some o → H' b = some o) : Gr H H' := ⟨fun b o _ e => h b o e, fun b ⟨ps, e, t⟩ => ⟨ps, h _ _ e, t⟩⟩
theorem Gr.tab {P : Addr} {H H' : Hp} (t : GxR.TabG H P) (h : GxR.Tabbed P H H') : Gr H H' := by
  obtain ⟨ps, e, _⟩ := t
  refine ⟨fun b o n q => ?_, fun b q => ?_⟩
  · by_cases hb : b = P
    · rw [hb, e] at q
      exact absurd (Option.some.inj q).symm (n ps)
    · rw [h.2 b hb]; exact q
  · by_cases hb : b = P
    · rw [hb]; exact h.1
    · obtain ⟨ps', e', t'⟩ := q
      exact ⟨ps', by rw [h.2 b hb]; exact e', t'⟩
theorem Gr.tup {H H' : Hp} (g : Gr H H') {a : Addr} {xs : List V} (h : H a = some (.tup xs)) : H' a = some (.tup xs) := g.1 a _ (fun _ z => by cases z) h
theorem Gr.lst {H H' : Hp} (g : Gr H H') {a : Addr} {xs : List V} (h : H a = some (.lst xs)) : H' a = some (.lst xs) := g.1 a _ (fun _ z => by cases z) h
theorem Gr.tabs {H H' : Hp} (g : Gr H H') {Ps : List Addr} (h : Tabs H Ps) : Tabs H' Ps := fun P hP => g.2 P (h P hP)
theorem Gr.none {H : Hp} {a : Addr} {o : HO} (n : H a = Option.none) : Gr H (upd H a o) := Gr.of fun b u e => by
  rw [upd_ne (ne_of_none e n)]
  exact e
namespace CwR
/-- behind it a token is out -/
def PEp (X : Cx) (e : Expr) (t : TE) : Prop := ∀ (pins : List (Addr × Obj)) (s : Shared) (σ : L2.St) (H : Hp) (Q : VK), Inv X pins σ H s → t σ H Q → wpAny (model X.prog X.w) X.A (eval e X.env) (fun u s' => 1 ≤ s'.toks ∧ EP X pins σ Q u s') X.xe s
theorem pep_ix {X : Cx} {a : Expr} {i : Int} {j : Nat} {p pos : Pos} {ta : TE} {r : R2} (hr : IxR X r) (ha : PE X a ta) (hs : PlainIx (.Constant (.int i) j p)) : PEp X (.Subscript a (.Constant (.int i) j p) pos) (tOp r ta (tC (.int i))) := by
  intro pins s σ H Q I h
  refine Subscript_ (thn (ha.run pins s σ H _ I h) fun v s1 ⟨x, H1, I1, r1, q1⟩ => wpAny_Constant_int ?_)
  refine wpAny_mono (PySem.wpAny_toks (hr a _ pins { s1 with toks := s1.toks + 1 } σ H1 x (.int i) v (.int i s1.toks) Q (I1.tok _) r1 ⟨_, rfl⟩ q1 (hs _ _))) (fun u s2 q => ⟨?_, q.2⟩) fun _ _ z => z.2
  have h1 : s1.toks + 1 ≤ s2.toks := q.1
  omega
theorem pep_repl {X : Cx} {o : Expr} {to : TE} {y z : Str} {j k : Nat} {c0 c1 apos pos : Pos} (ho : PEp X o to) (hyz : (y == z) = false := by decide)
    (hst : starEach [.Constant (.str y) j c0, .Constant (.str z) k c1] X.env = [(false, eval (.Constant (.str y) j c0) X.env), (false, eval (.Constant (.str z) k c1) X.env)] := by rfl)
    (hbase : attributeBase o "replace" X.env (eval o X.env) = eval o X.env := by rfl) (hline : (apos.endLine == pos.line) = true := by rfl) :
    PEp X (.Call (.Attribute o "replace" apos) [.Constant (.str y) j c0, .Constant (.str z) k c1] [] pos) (CwR.tReplC to y z) := by
  intro pins s σ H Q I h
  refine PySem.Call_method2 hbase hst hline (wpAny_mono (ho pins s σ H _ I h) (fun v s1 q => ?_) fun _ _ z => z)
  obtain ⟨hk, v', H1, I1, r1, x, e1, hb, q⟩ := q
  subst e1
  obtain ⟨tx, e2⟩ := r1
  subst e2
  refine ⟨"str", _, PySem.F.plainAttrs_str, PySem.F.slot_str_replace, PySem.F.type_str_replace, typeIs_str _ _ _, (fun _ e => nomatch e), Calls.callWith_builtin rfl (Calls.evalArgs_plain (Calls.spliced_cons ?_))⟩
  refine Calls.Constant_str (Calls.spliced_cons (Calls.Constant_str (Calls.spliced_nil ?_)))
  refine wpAny_mono (PySem.wpAny_toks (PySem.SC.replace (Q := fun u s' => EP X pins σ Q u s') (by show s1.toks ≠ 0; omega) (by show s1.toks + 1 ≠ 0; omega) (by show s1.toks ≠ s1.toks + 1; omega) hyz hb fun t' k => ⟨.str (Txt.replace x y z), H1, I1.tok k, ⟨t', rfl⟩, q⟩)) (fun u s2 q => ⟨?_, q.2⟩) fun _ _ z => z.2
  have h1 : s1.toks + 1 + 1 ≤ s2.toks := q.1
  omega
theorem pe_replP {X : Cx} {e : Expr} {t : TE} (h : PEp X e t) : PE X e t := ⟨fun pins s σ H Q I q => wpAny_mono (h pins s σ H Q I q) (fun _ _ z => z.2) fun _ _ z => z⟩
end CwR

/-! ### list(reversed(a list)) -/
namespace RevL
open RT PySem.Calls
section
variable {prog : Program} {w : World} {A : Around} {E : Value → Shared → Prop} {s : Shared}
theorem grows_rev {it l S : Addr} {c0 : Nat} {xs : Array Value} {R : Result → Shared → Prop} {res : Value} (quiet : A.handled = none) (rev : s.heap.IsRevIter it l ((xs.size : Int) - 1)) (src : s.heap.IsList l xs) (apart : l ≠ it) (few : xs.size ≤ sizeLine)
    (tgt : s.heap.get? S = some { cls := .type "list", data := .seq #[] c0 }) (n1 : S ≠ it) (n2 : S ≠ l)
    (fin : ∀ (hp : Heap) (tk : Nat) (acc : Array Value) (c : Nat), (∀ b o, b ≠ it → b ≠ S → s.heap.get? b = some o → hp.get? b = some o) → hp.get? S = some { cls := .type "list", dict := none, data := .seq acc c, slots := #[] } → ItemsOf (fun i v => xs[xs.size - 1 - i]? = some v) acc xs.size → R (.ok (.ret res)) { s with heap := hp, toks := tk }) :
    wpAny (model prog w) A.in1 (Builtin.List.listExtendWith (.ref S) (.ref it) res)
      (fun f st => match f with | .done g => R (.ok g) st | .again c => c.quiet = true ∧ codeAny (model prog w) A c R st) (fun e st => R (.error e) st) s := by
  have walk := (Walks.listRev (prog := prog) (w := w) (A := A.in1) quiet it l apart xs).toS
  have notIn : S ∉ [it, l] := by
    intro h
    rcases List.mem_cons.mp h with h | h
    · exact n1 h
    · exact n2 (List.mem_singleton.mp h)
  have ty : s.TypeIs (.ref it) "list_reverseiterator" := rev.typeIs
  have unlike : Builtin.List.listSameRef (.ref S) (.ref it) = false := by simp [Builtin.List.listSameRef, n1]
  unfold Builtin.List.listExtendWith
  refine wpAny_bind (wpAny_typeOf ty (?_))
  rw [if_neg (show ¬ _ by rw [unlike]; decide)]
  refine wpAny_bind (wpAny_pyIter_revIter rev (wpAny_bind (wpAny_holding ?_)))
  unfold Builtin.List.listLengthHint
  refine wpAny_bind (wpAny_specialOf ty nolen_lri (?_))
  show wpAny _ _ (specialOf (Value.ref it) (Str.ofString "__length_hint__") >>= _) _ _ _
  refine wpAny_bind (wpAny_specialOf ty hint_lri (?_))
  generalize name : ("list_reverseiterator.__length_hint__" : String) = nm
  wp_delta
  rw [show splitId nm = some ("list_reverseiterator", "__length_hint__") by rw [← name]; decide +kernel]
  rw [← name]
  refine wpAny_bind (wpAny_isInstance (b := true) ty (by rw [isSubtype_type]; kernel_rfl) (wpAny_pure ?_))
  rw [if_neg (show ¬ _ by decide)]
  have first : ((xs.size : Nat) : Int) - 1 - ((0 : Nat) : Int) = (xs.size : Int) - 1 := by omega
  refine wpAny_pure ⟨plainId_quiet F.plain_extend_loop _, codeAny_extend_loopS walk few _ notIn _ xs.size 0 _ _ _ rfl (Nat.zero_le _) ⟨Nat.zero_le _, by rw [first]; exact rev, src⟩ tgt (ItemsOf.nil _) fun st acc c moved hS got => ?_⟩
  rw [Moved.eq_with moved]
  refine fin st.heap st.toks acc c (fun b o b1 b2 e => moved.heap b o (fun h => ?_) e) hS got
  rcases List.mem_cons.mp h with h | h
  · exact b2 h
  · exact b1 (List.mem_singleton.mp h)
theorem call_list_rev {it l : Addr} {xs : Array Value} {Q : Value → Shared → Prop} (quiet : A.handled = none) (rev : s.heap.IsRevIter it l ((xs.size : Int) - 1)) (src : s.heap.IsList l xs) (apart : l ≠ it) (few : xs.size ≤ sizeLine)
    (fin : ∀ (hp : Heap) (tk : Nat) (acc : Array Value) (c : Nat), (∀ b o, b ≠ it → s.heap.get? b = some o → hp.get? b = some o) → hp.get? s.heap.objs.size = some { cls := .type "list", dict := none, data := .seq acc c, slots := #[] } → ItemsOf (fun i v => xs[xs.size - 1 - i]? = some v) acc xs.size → Q (.ref s.heap.objs.size) { s with heap := hp, toks := tk }) :
    wpAny (model prog w) A (call (.type "list") [.ref it]) Q E s := by
  have newAt : ∀ {b : Addr} {o : Obj}, s.heap.get? b = some o → b ≠ s.heap.objs.size := fun e => Nat.ne_of_lt (Heap.lt_size e)
  have itNew : s.heap.objs.size ≠ it := by
    obtain ⟨o, e, _⟩ := id rev
    exact (newAt e).symm
  have lNew : s.heap.objs.size ≠ l := by
    obtain ⟨o, e, _⟩ := id src
    exact (newAt e).symm
  refine callType_codes (Q₁ := fun v st => v = .ref s.heap.objs.size ∧ st = { s with heap := s.heap.push { cls := .type "list", data := .seq #[] } }) F.called_list (F.typeCall_list_1 _) F.entry_list_init (code_list_new _ ⟨rfl, rfl⟩) ?_
  rintro v st ⟨rfl, rfl⟩
  have made : (s.heap.push { cls := .type "list", data := .seq #[] }).get? s.heap.objs.size = some { cls := .type "list", data := .seq #[] } := Heap.get?_push_size _ rfl
  refine ⟨⟨_, made, rfl⟩, F.args_list_init_2 _ _, ?_⟩
  show wpAny _ A.in1.in1 (do let was ← Builtin.List.listItems (.ref s.heap.objs.size); Builtin.List.listUpdate (.ref s.heap.objs.size) (fun _ => #[]); letGo was.toList.reverse; Builtin.List.listExtendWith (.ref s.heap.objs.size) (.ref it) .none) _ _ _
  refine wpAny_bind ?_
  unfold Builtin.List.listItems
  refine wpAny_bind (wpAny_seqItems made rfl (wpAny_pure (wpAny_bind ?_)))
  show wpAny _ _ (updateSeq s.heap.objs.size (fun _ => (#[] : Array Value))) _ _ _
  refine wpAny_updateSeq made rfl (wpAny_bind (wpAny_letGo ?_))
  have emptied := Heap.get?_update_self (Obj.mapSeq (fun _ => (#[] : Array Value))) made rfl
  have stays : ∀ b o, s.heap.get? b = some o → ((s.heap.push { cls := .type "list", data := .seq #[] }).update s.heap.objs.size (Obj.mapSeq (fun _ => (#[] : Array Value)))).get? b = some o := fun b o e =>
    (Heap.get?_update_other _ _ (newAt e).symm).trans (Heap.get?_push_of_some _ e)
  refine grows_rev (A := A.in1) quiet (rev.at fun o e => stays _ _ e) (by obtain ⟨o, e, r⟩ := id src; exact ⟨o, stays _ _ e, r⟩) apart few emptied itNew lNew fun hp tk acc c keep hS got => ?_
  exact ⟨rfl, fin hp tk acc c (fun b o b1 e => keep b o b1 (newAt e) (stays b o e)) hS got⟩
def tLstRev (K : PySem.W.Frag) (te : TE) : TE := fun σ H Q => te σ H fun v H1 => ∃ (a : Addr) (xs : List V), v = .ref a ∧ SqL K H1 a xs ∧ ∀ q, H1 q = none → Q (.ref q) (upd H1 q (.lst xs.reverse))
theorem pe_lstRev {X : Cx} {e : Expr} {te : TE} {p1 p2 pos pos2 : Pos} (calm : X.calm = true) (g1 : Gl X "list") (m1 : X.mg "list" = none) (g2 : Gl X "reversed") (m2 : X.mg "reversed" = none) (he : PE X e te)
    (st1 : starEach [e] X.env = (false, eval e X.env) :: starEach [] X.env := by rfl)
    (st2 : starEach [.Call (.Name "reversed" p2) [e] [] pos2] X.env = (false, eval (.Call (.Name "reversed" p2) [e] [] pos2) X.env) :: starEach [] X.env := by rfl) :
    PE X (.Call (.Name "list" p1) [.Call (.Name "reversed" p2) [e] [] pos2] [] pos) (tLstRev X.K te) := by
  refine ⟨fun pins s σ H Q I told => ?_⟩
  refine Call_ (ld_blt I g1 m1 boot_list (PyProof.Rows.callWith_type1 (args_cons (Call_ (ld_blt I g2 m2 PyProof.Rows.boot_reversed (PyProof.Rows.callWith_type1 (args_cons (thn (he.run pins s σ H _ I told) ?_) st1) st1 rfl))) st2) st2 rfl))
  rintro u s1 ⟨v, H1, I1, r1, a, xs, rfl, list, q⟩
  refine args_nil ?_
  cases (show u = Value.ref a from r1)
  obtain ⟨us, rv, plain, few⟩ := I1.list list
  have src := plain.isList
  refine call_reversed_list src (args_nil ?_)
  have apart : a ≠ s1.heap.objs.size := by
    obtain ⟨o, e, _⟩ := id src
    exact Nat.ne_of_lt (Heap.lt_size e)
  have few2 : us.toArray.size ≤ sizeLine := by
    rw [List.size_toArray, ← rv.length]
    exact few
  refine call_list_rev (s := { s1 with heap := s1.heap.push (revObj a ((us.toArray.size : Int) - 1)) }) (I1.ok.hd calm) ⟨_, Heap.get?_push_size _ rfl, rfl, rfl⟩ (src.push _) apart few2 fun hp tk acc c keep hS got => ?_
  have size2 : s1.heap.objs.size ≤ (s1.heap.push (revObj a ((us.toArray.size : Int) - 1))).objs.size := by
    rw [Heap.size_push]
    exact Nat.le_succ _
  refine ⟨.ref _, upd H1 _ (.lst xs.reverse), I1.laid (t' := tk) (fun b o e => keep b o (Nat.ne_of_lt (Heap.lt_size e)) (Heap.get?_push_of_some _ e)) size2 ⟨by rw [List.length_reverse]; exact few, acc.toList, c, vals_rev rv got, ?_⟩, rfl, q _ (I1.hok.fresh size2)⟩
  rw [Array.toArray_toList]
  exact hS
end
end RevL

/-! ### heaps -/
theorem same_upd {H : Hp} {p : Addr} {o : HO} (h : H p = none) : Same H (upd H p o) := fun b x e => by
  rw [upd_ne (ne_of_none e h)]
  exact e
def Fr (d l : Addr) (H H' : Hp) : Prop := ∀ b o, b ≠ d → b ≠ l → H b = some o → H' b = some o
theorem Fr.trans {d l : Addr} {H H1 H2 : Hp} (a : Fr d l H H1) (b : Fr d l H1 H2) : Fr d l H H2 := fun c o h1 h2 h => b c o h1 h2 (a c o h1 h2 h)
theorem Fr.refl {d l : Addr} {H : Hp} : Fr d l H H := fun _ _ _ _ h => h
theorem Fr.new {d l p : Addr} {H : Hp} {o : HO} (h : H p = none) : Fr d l H (upd H p o) := fun b x _ _ e => same_upd h b x e
theorem Fr.of {d l : Addr} {H H' : Hp} (h : Same H H') : Fr d l H H' := fun b x _ _ e => h b x e
theorem Fr.d {d l : Addr} {H : Hp} {o : HO} : Fr d l H (upd H d o) := fun b x h1 _ e => by rw [upd_ne h1]; exact e
theorem Fr.l {d l : Addr} {H : Hp} {o : HO} : Fr d l H (upd H l o) := fun b x _ h2 e => by rw [upd_ne h2]; exact e
def Deck (H : Hp) (d l : Addr) : Prop := d ≠ l ∧ ∃ (cs : List Int) (z : Int), H d = some (.lst [.ref l, .int z]) ∧ H l = some (.lst (cs.map V.int)) ∧ cs.length ≤ 63 ∧ 0 ≤ z ∧ z < 4294967296
theorem Deck.same {H H' : Hp} {d l : Addr} (D : Deck H d l) (s : Same H H') : Deck H' d l := by
  obtain ⟨ne, cs, z, hd, hl, r⟩ := D
  exact ⟨ne, cs, z, s _ _ hd, s _ _ hl, r⟩
theorem Deck.new {H : Hp} {d l p : Addr} {o : HO} (D : Deck H d l) (h : H p = none) : Deck (upd H p o) d l := D.same (same_upd h)
theorem Deck.ne_new {H : Hp} {d l p : Addr} (D : Deck H d l) (h : H p = none) : p ≠ d ∧ p ≠ l := by
  obtain ⟨ne, cs, z, hd, hl, r⟩ := D
  exact ⟨(ne_of_none hd h).symm, (ne_of_none hl h).symm⟩
theorem p29 : (0 : Int) < 2147483629 := by decide
theorem p47 : (0 : Int) < 2147483647 := by decide
theorem p87 : (0 : Int) < 2147483587 := by decide
theorem sl1 : 1 ≤ sizeLine := by decide
theorem sl2 : 2 ≤ sizeLine := by decide
theorem sl3 : 3 ≤ sizeLine := by decide
theorem sl4 : 4 ≤ sizeLine := by decide
theorem seqIx0 {α : Type} (x : α) (xs : List α) : seqIndex? 0 (x :: xs).length = some 0 := by
  refine (ixN_seq (n := (x :: xs).length) (i := 0) (j := 0) ?_).1
  unfold ixN
  rw [if_pos (by decide), if_pos (by rw [List.length_cons]; omega)]
  rfl
theorem dpInts {K : PySem.W.Frag} {H : Hp} : ∀ cs : List Int, DpAll K H (cs.map V.int) (cs.map PyData.int)
  | [] => .nil
  | c :: r => .cons (.int c) (dpInts r)
theorem shInts (ns : List Int) : SeqAt.shaped (.list (ns.map PyData.int)) = true := by
  unfold SeqAt.shaped
  rw [Bool.and_eq_true]
  refine ⟨?_, ?_⟩
  · simp only [PyData.canLay0, canLayAll_ints]
  · simp only [PyData.depth, depthAll_ints]
    decide
theorem at_pick {xs : List V} {j : Int} (h0 : 0 ≤ j) (h1 : j < xs.length) : ∃ x, atI xs j = some x ∧ x ∈ xs := by
  obtain ⟨k, rfl⟩ : ∃ k : Nat, j = (k : Int) := ⟨j.toNat, (Int.toNat_of_nonneg h0).symm⟩
  have hk : k < xs.length := by omega
  exact ⟨xs[k], atI_nat (List.getElem?_eq_getElem hk), List.getElem_mem hk⟩
theorem units65 {k : Nat} {A : Around} (r : Room k A) : A.units + 65 < cLine := by have := r.un; omega
def rLenK (K : PySem.W.Frag) : List V → Hp → VK → Prop := fun xs H Q => ∃ p ys, xs = [.ref p] ∧ (SqL K H p ys ∨ SqT K H p ys) ∧ Q (.int ys.length) H
def rTupK (K : PySem.W.Frag) : List V → Hp → VK → Prop := fun xs H Q => ∃ p ys, xs = [.ref p] ∧ ((SqL K H p ys ∧ ∀ l, H l = none → Q (.ref l) (upd H l (.tup ys))) ∨ (SqT K H p ys ∧ Q (.ref p) H))
def rLstK (K : PySem.W.Frag) : List V → Hp → VK → Prop := fun xs H Q => ∃ p ys, xs = [.ref p] ∧ (SqL K H p ys ∨ SqT K H p ys) ∧ ∀ l, H l = none → Q (.ref l) (upd H l (.lst ys))
/-- joining ways behind a test, behind an expression -/
def tCutT (t : TT) : TT := fun σ H Q => ∃ Mid : Bool → Hp → Prop, t σ H Mid ∧ ∀ b H1, Mid b H1 → Q b H1
theorem pt_cut {X : Cx} {e : Expr} {t : TT} (h : PT X e t) : PT X e (tCutT t) := ⟨fun pins s σ H Q I hw => by
  obtain ⟨Mid, h1, q⟩ := hw
  exact thn (h.run pins s σ H _ I h1) fun c s1 ⟨H1, I1, m⟩ => ⟨H1, I1, q _ _ m⟩⟩
def tCutE (t : TE) : TE := fun σ H Q => ∃ Mid : VK, t σ H Mid ∧ ∀ v H1, Mid v H1 → Q v H1
theorem pe_cut {X : Cx} {e : Expr} {t : TE} (h : PE X e t) : PE X e (tCutE t) := ⟨fun pins s σ H Q I hw => by
  obtain ⟨Mid, h1, q⟩ := hw
  exact thn (h.run pins s σ H _ I h1) fun u s1 ⟨v, H1, I1, r, m⟩ => ⟨v, H1, I1, r, q _ _ m⟩⟩

/-! ### defs called where nothing is being shown (so that repr tells what stands there) -/
structure FnG (P : Program) (w : World) (K : PySem.W.Frag) (mg : Str → Option Value) (bs : Heap) (CX : CXT) (k : Nat) (f : Addr) (fd : FuncData) (ps : List Str) (sp : Sp) : Prop where
  many : ∀ vs H Q E, sp vs H Q E → vs.length = ps.length
  go : ∀ A : Around, A.guards = some [] → Room k A → ∀ (fr : List Env) (s : Shared) (H : Hp) (ar : Args) (us : List Value) (vs : List V) (Q : VK) (E : XK), Env0 P w K mg bs A fr s H → BindsTo s fd ar (ps.zip us) → Vals vs us → sp vs H Q E → codeAny (model P w) A (.call (.ref f) ar) (CR CX fr P w H s Q E) s
theorem FnG.of {P : Program} {w : World} {K : PySem.W.Frag} {mg : Str → Option Value} {bs : Heap} {CX : CXT} {k : Nat} {f : Addr} {fd : FuncData} {ps : List Str} {sp : Sp} (F : FnOk P w K mg bs CX k f fd ps sp) : FnG P w K mg bs CX k f fd ps sp :=
  ⟨F.len, fun A _ room fr s H ar us vs Q E e0 b r h => F.run A fr s H ar us vs Q E room e0 b r h⟩
theorem okG {CX : CXT} {P : Program} {w : World} {K : PySem.W.Frag} {mg : Str → Option Value} {bs : Heap} {x qual : Str} {st : Stmt} {f : Addr} {fd : FuncData} {N ps : List Str} {k : Nat} {sp : Sp} (F : Fun K x qual st f fd) (S : FnScope N ps (defScope st))
    (many : ∀ vs H Q E, sp vs H Q E → vs.length = ps.length)
    (body : ∀ (cdv : Value) (A : Around) (fr : List Env) (s : Shared) (H : Hp) (vs : List V) (Q : VK) (E : XK), A.guards = some [] → Room k (A.deeper (envOfC qual (defScope st) s.heap.objs.size f cdv)) → sp vs H Q E →
      ∃ t, PSs (cxOf CX P w K mg bs N qual (defScope st) f cdv A fr s H E) (defBody st) t ∧ t ⟨fun _ H' => Q .non H', Q, fun _ _ => False, fun _ _ => False⟩ (start N vs) H) : FnG P w K mg bs CX (k + 1) f fd ps sp := by
  obtain ⟨oc, od, kV, doc, pm, an, cdv, ct, osl, rfl, lk, code⟩ := F.ex
  refine ⟨many, fun A nothing room fr s H ar us vs Q E e0 bound rel told => ?_⟩
  have stays : ∀ b o, bs.get? b = some o → s.heap.get? b = some o := fun b o z => (e0.bs b o z).1
  have inK : K.In s.heap := e0.mod.kin.keeps stays
  have places : ∀ y ∈ ps.zip us, (defScope st).names.lookup y.1 = some .local ∨ ((defScope st).names.lookup y.1 = some .cell ∧ ((cellsFrom (s.heap.objs.size + 1) (defScope st).names []).lookup y.1).isSome = true) := by
    rintro ⟨n, v⟩ hy
    exact (S.par n (List.of_mem_zip hy).1).imp id fun c => ⟨c, PySem.W.cellsFrom_some _ _ _ (Or.inl c)⟩
  refine codeAny_call_function room.depth (inK _ _ lk) rfl S.co S.gen rfl (PySem.W.codeRec_of inK code) (bound _ _ _ _
    (wpAny_newFunctionEnv_cells S.kind places fun env he s1 made => ?_))
  subst he
  obtain ⟨t, runs, holds⟩ := body cdv A fr s H vs Q E nothing (room.deeper _) told
  refine ⟨(e0.mod.nolimit.keeps stays).keeps made.toInCall.keep, codeAny_func (wpAny_mono (runs.run [] s1 (start N vs) H _ (inv_start S room.hd e0 (many _ _ _ _ told) rel made) holds) (fun fl s2 z => ?_) fun _ _ z => z)⟩
  match fl, z with
  | .ret _, ⟨v, _, H', J, rv, q⟩ => exact ⟨v, H', J.os, J.bare, J.base, J.hok, rv, q⟩
  | .next, ⟨_, H', J, q⟩ => exact ⟨V.non, H', J.os, J.bare, J.base, J.hok, rfl, q⟩
  | .brk, ⟨_, _, _, q⟩ => exact q.elim
  | .cont, ⟨_, _, _, q⟩ => exact q.elim
theorem okG0 {P : Program} {w : World} {K : PySem.W.Frag} {mg : Str → Option Value} {bs : Heap} {x qual : Str} {st : Stmt} {f : Addr} {fd : FuncData} {N ps : List Str} {k : Nat} {sp : Sp} (F : Fun K x qual st f fd) (S : FnScope N ps (defScope st))
    (many : ∀ vs H Q E, sp vs H Q E → vs.length = ps.length)
    (body : ∀ (cdv : Value) (A : Around) (fr : List Env) (s : Shared) (H : Hp) (vs : List V) (Q : VK) (E : XK), A.guards = some [] → Room k (A.deeper (envOfC qual (defScope st) s.heap.objs.size f cdv)) → sp vs H Q E →
      ∃ t, PSs (cxOf CX0 P w K mg bs N qual (defScope st) f cdv A fr s H E).nox (defBody st) t ∧ t ⟨fun _ H' => Q .non H', Q, fun _ _ => False, fun _ _ => False⟩ (start N vs) H) : FnG P w K mg bs CX0 (k + 1) f fd ps sp :=
  okG F S many fun cdv A fr s H vs Q E g r h => by
    obtain ⟨t, p, q⟩ := body cdv A fr s H vs Q E g r h
    exact ⟨t, p.nox, q⟩
section
variable {X : Cx} {CX : CXT} {k : Nat} {f : Addr} {fd : FuncData} {ps : List Str} {sp : Sp} {ds : List Value} {dvs : List V} {E : XK}
theorem runG {pins : List (Addr × Obj)} {σ : L2.St} {H : Hp} {s : Shared} {Q : VK} {us : List Value} {vs : List V} (F : FnG X.prog X.w X.K X.mg X.base CX k f fd ps sp) (nothing : X.A.guards = some []) (room : Room k X.A) (hb : Binds X.K fd ps ds)
    (hd : Vals dvs ds) (out : Passes CX X E) (I : Inv X pins σ H s) (r : Vals vs us) (told : sp (vs ++ dvs) H Q E) : wpAny (model X.prog X.w) X.A (call (.ref f) us) (EP X pins σ Q) X.xe s := by
  have rel : Vals (vs ++ dvs) (us ++ ds) := r.append hd
  have size : (us ++ ds).length = ps.length := rel.length ▸ F.many _ _ _ _ told
  refine wpAny_call (codeAny_mono (F.go X.A nothing room X.stack s H _ _ _ Q E I.env0 (hb s us I.kIn size) rel told) fun res s2 z => ?_)
  match res, z with
  | .error e, z => exact out pins σ H s e s2 I z
  | .ok (.ret u), z => exact I.after z
  | .ok .next, z => exact z.elim
  | .ok .brk, z => exact z.elim
  | .ok .cont, z => exact z.elim
theorem pe_callG {x : Str} {p pos : Pos} {e : Expr} {es : List Expr} {t : TA} (F : FnG X.prog X.w X.K X.mg X.base CX k f fd ps sp) (nothing : X.A.guards = some []) (room : Room k X.A) (hg : Gl X x) (hm : X.mg x = some (.ref f)) (kp : PySem.W.keepIn X.K (.ref f) = true)
    (hb : Binds X.K fd ps ds) (hd : Vals dvs ds) (out : Passes CX X E) (ha : PA X (e :: es) t) (nd : (x == ("__debug__" : Str)) = false := by decide) (he : starEach (e :: es) X.env = (false, eval e X.env) :: starEach es X.env := by rfl)
    (hpl : (backTo pos (starEach es X.env)).any (·.1) = false := by rfl) : PE X (.Call (.Name x p) (e :: es) [] pos) (tCall sp dvs E t) := by
  refine ⟨fun pins s σ H Q I told => wpAny_Call_Name_kw (ld_glob I hg hm ?_ nd)⟩
  refine PySem.W.callWith_K (h₀ := X.base) I.ok.mod.kin kp (thn (ha.run pos pins s σ H _ I told) ?_) he hpl
  rintro us s1 ⟨vs, H1, J, r, q⟩
  exact ⟨J.kIn, runG F nothing room hb hd out J r q⟩
end
/-! ### what is shown by repr: plain data, whose lists and dicts were made by the law -/
def kD : Key → PyData
  | .inl i => .int i
  | .inr x => .str x
mutual
inductive Sh (H : Hp) : V → PyData → Prop
  | non : Sh H .non .none
  | bl (b : Bool) : Sh H (.bl b) (.bool b)
  | int (i : Int) : Sh H (.int i) (.int i)
  | str (x : Str) : Sh H (.str x) (.str x)
  | lst {a : Addr} {xs : List V} {ds : List PyData} : H a = some (.lst xs) → a ≠ sysModules → ShAll H xs ds → Sh H (.ref a) (.list ds)
  | tup {a : Addr} {xs : List V} {ds : List PyData} : H a = some (.tup xs) → ShAll H xs ds → Sh H (.ref a) (.tuple ds)
  | dic {a : Addr} {kvs : List (Key × V)} {ds : List PyData} : H a = some (.dK kvs) → ShAll H (kvs.map (·.2)) ds → Sh H (.ref a) (.dict ((kvs.map fun kv => kD kv.1).zip ds))
inductive ShAll (H : Hp) : List V → List PyData → Prop
  | nil : ShAll H [] []
  | cons {v : V} {vs : List V} {d : PyData} {ds : List PyData} : Sh H v d → ShAll H vs ds → ShAll H (v :: vs) (d :: ds)
end
theorem ShAll.length {H : Hp} : ∀ {vs : List V} {ds : List PyData}, ShAll H vs ds → vs.length = ds.length
  | _, _, .nil => rfl
  | _, _, .cons _ t => by rw [List.length_cons, List.length_cons, t.length]
mutual
theorem Sh.same {H H' : Hp} (s : Same H H') : ∀ {v : V} {d : PyData}, Sh H v d → Sh H' v d
  | _, _, .non => .non
  | _, _, .bl b => .bl b
  | _, _, .int i => .int i
  | _, _, .str x => .str x
  | _, _, .lst h n t => .lst (s _ _ h) n (t.same s)
  | _, _, .tup h t => .tup (s _ _ h) (t.same s)
  | _, _, .dic h t => .dic (s _ _ h) (t.same s)
theorem ShAll.same {H H' : Hp} (s : Same H H') : ∀ {vs : List V} {ds : List PyData}, ShAll H vs ds → ShAll H' vs ds
  | _, _, .nil => .nil
  | _, _, .cons h t => .cons (h.same s) (t.same s)
end
/-- the name of the class of such data -/
def tyD : PyData → String
  | .none => "NoneType"
  | .bool _ => "bool"
  | .int _ => "int"
  | .str _ => "str"
  | .list _ => "list"
  | .tuple _ => "tuple"
  | .dict _ => "dict"
theorem Sh.ty {K : PySem.W.Frag} {H : Hp} {v : V} {d : PyData} (h : Sh H v d) : TyX K H v (.type (tyD d)) := by
  cases h with
  | non => exact .base .non
  | bl b => exact .base (.bl b)
  | int i => exact .base (.int i)
  | str x => exact .base (.str x)
  | lst h _ _ => exact .base (.lst h)
  | tup h _ => exact .base (.tup h)
  | dic h _ => exact .base (.dK h)
section
variable {X : Cx} {pins : List (Addr × Obj)} {σ : L2.St} {H : Hp} {s : Shared}
theorem pairs_keys {P : Program} {w : World} {h : Heap} : ∀ {es : List DictEntry} {kvs : List (Key × Value)}, Pairs (mixKind P w) es kvs → ReadsAll h (es.map (·.key)) (kvs.map fun kv => kD kv.1) []
  | _, _, .nil => .nil
  | _, _, .cons (kv := kv) hk _ t => by
    have r := pairs_keys (h := h) t
    rcases keyIs_shape (k := kv.1) hk with ⟨i, u, e1, e2⟩ | ⟨x, u, e1, e2⟩
    · rw [List.map_cons, List.map_cons, e1, e2]
      exact ReadsAll.cons (as := []) (.int i u) r
    · rw [List.map_cons, List.map_cons, e1, e2]
      exact ReadsAll.cons (as := []) (.str x u) r
theorem pairs_vals {P : Program} {w : World} : ∀ {es : List DictEntry} {kvs : List (Key × Value)}, Pairs (mixKind P w) es kvs → es.map (·.val) = kvs.map (·.2)
  | _, _, .nil => rfl
  | _, _, .cons _ hv t => by rw [List.map_cons, List.map_cons, hv, pairs_vals t]
theorem kv_rel : ∀ {kvs : List (Key × V)} {vs : List (Key × Value)}, KV kvs vs → kvs.map (·.1) = vs.map (·.1) ∧ Vals (kvs.map (·.2)) (vs.map (·.2))
  | _, _, .nil => ⟨rfl, .nil⟩
  | _, _, .cons h t => by
    obtain ⟨a, b⟩ := kv_rel t
    exact ⟨by rw [List.map_cons, List.map_cons, a, h.1], .cons h.2 b⟩
mutual
theorem Sh.reads (I : Inv X pins σ H s) : ∀ (v : V) (d : PyData) (u : Value), Sh H v d → RelV v u → ∃ as, Reads s.heap u d as ∧ sysModules ∉ as
  | _, _, _, .non, r => by cases r; exact ⟨_, .none, List.not_mem_nil⟩
  | _, _, _, .bl b, r => by cases r; exact ⟨_, .bool b, List.not_mem_nil⟩
  | _, _, _, .int i, r => by obtain ⟨t, rfl⟩ := r; exact ⟨_, .int i t, List.not_mem_nil⟩
  | _, _, _, .str x, r => by obtain ⟨t, rfl⟩ := r; exact ⟨_, .str x t, List.not_mem_nil⟩
  | _, _, _, .lst (a := a) (xs := xs) h n t, r => by
    cases r
    obtain ⟨_, its, c, rv, ho⟩ := (show ObjOk X.prog X.w H s.heap a (.lst xs) from I.hok a _ h)
    obtain ⟨as, q, m⟩ := ShAll.reads I _ _ its t rv
    exact ⟨_, .list ho rfl rfl (by simpa using q), fun z => (List.mem_cons.mp z).elim (fun e => n e.symm) m⟩
  | _, _, _, .tup (a := a) (xs := xs) h t, r => by
    cases r
    obtain ⟨_, its, rv, o, ho, hc, c, hd⟩ := (show ObjOk X.prog X.w H s.heap a (.tup xs) from I.hok a _ h)
    obtain ⟨as, q, m⟩ := ShAll.reads I _ _ its t rv
    exact ⟨_, .tuple ho hc hd (by simpa using q), m⟩
  | _, _, _, .dic (a := a) (kvs := kvs) (ds := ds) h t, r => by
    cases r
    obtain ⟨_, low, vs, rel, o, es, ep, ho, hx, hd, _, hp, _⟩ := (show ObjOk X.prog X.w H s.heap a (.dK kvs) from I.hok a _ h)
    obtain ⟨rk, rv⟩ := kv_rel rel
    obtain ⟨as, q, m⟩ := ShAll.reads I _ _ (vs.map (·.2)) t rv
    have k1 : (kvs.map fun kv => kD kv.1) = vs.map fun kv => kD kv.1 := by
      have := congrArg (List.map kD) rk
      rw [List.map_map, List.map_map] at this
      exact this
    have ln : (kvs.map fun kv => kD kv.1).length = ds.length := by
      have := t.length
      rw [List.length_map] at this
      rw [List.length_map, this]
    refine ⟨_, .dict (as := []) (bs := as) ho hx.1 hd ?_ ?_, ?_⟩
    · rw [List.map_fst_zip (Nat.le_of_eq ln), k1]
      exact pairs_keys hp
    · rw [List.map_snd_zip (Nat.le_of_eq ln.symm), pairs_vals hp]
      exact q
    · intro z
      rcases List.mem_cons.mp z with e | e
      · exact absurd low (by rw [← e]; simp)
      · exact m e
theorem ShAll.reads (I : Inv X pins σ H s) : ∀ (vs : List V) (ds : List PyData) (us : List Value), ShAll H vs ds → Vals vs us → ∃ as, ReadsAll s.heap us ds as ∧ sysModules ∉ as
  | _, _, _, .nil, r => by cases r; exact ⟨_, .nil, List.not_mem_nil⟩
  | _, _, _, .cons h t, r => by
    cases r with
    | cons r1 r2 =>
      obtain ⟨as, q1, m1⟩ := Sh.reads I _ _ _ h r1
      obtain ⟨bs, q2, m2⟩ := ShAll.reads I _ _ _ t r2
      exact ⟨_, .cons q1 q2, fun z => (List.mem_append.mp z).elim m1 m2⟩
end
end
def rRepr : List V → Hp → VK → Prop := fun xs H Q => ∃ x d, xs = [x] ∧ Sh H x d ∧ d.showable = true ∧ d.shown.length ≤ sizeLine ∧ d.depth ≤ 50 ∧ Q (.str d.shown) H
theorem call_repr {X : Cx} (nothing : X.A.guards = some []) (hu : X.A.units + 64 < cLine) : CallR X (.builtin "repr") rRepr := by
  intro pins s σ H xs us Q I r h
  obtain ⟨x, d, rfl, sh, able, fits, deep, q⟩ := h
  cases r with
  | @cons _ u _ _ r1 r2 =>
    cases r2
    obtain ⟨as, rd, low⟩ := Sh.reads I _ _ _ sh r1
    have fin : ∀ h' t tk, (∀ b o, s.heap.get? b = some o → h'.get? b = some o) → EP X pins σ Q (.str d.shown t) { s with heap := h', toks := tk } := fun h' t tk kept => ⟨.str d.shown, H, I.kept kept, ⟨t, rfl⟩, q⟩
    cases sh with
    | non => cases r1; exact PySem.P.repr_of_none (fin _ _ _ fun _ _ z => z)
    | bl b => cases r1; exact PySem.P.repr_of_bool (fin _ _ _ fun _ _ z => z)
    | int i => obtain ⟨t, rfl⟩ := r1; exact PySem.P.repr_of_int (of_decide_eq_true able) (fin _ _ _ fun _ _ z => z)
    | str x => obtain ⟨t, rfl⟩ := r1; exact PySem.P.repr_of_str (fin _ _ _ fun _ _ z => z) fits
    | lst _ _ _ => cases r1; exact repr_of_reads' rd able (fun _ => low) nothing (by omega) (fun _ _ z => z) fin fits
    | tup _ _ => cases r1; exact repr_of_reads' rd able (fun _ => low) nothing (by omega) (fun _ _ z => z) fin fits
    | dic _ _ => cases r1; exact repr_of_reads' rd able (fun _ => low) nothing (by omega) (fun _ _ z => z) fin fits
/-- a display's list is none of the interpreter's own -/
def tLstN (t : TA) : TE := fun σ H Q => t σ H fun xs H1 => xs.length ≤ sizeLine ∧ ∀ p, H1 p = none → p ≠ sysModules → Q (.ref p) (upd H1 p (.lst xs))
theorem pe_lstN {X : Cx} {es : List Expr} {t : TA} {pos : Pos} (h : PA X es t) : PE X (.List es pos) (tLstN t) := by
  refine ⟨fun pins s σ H Q I told => wpAny_List_spliced (thn (h.run pos pins s σ H _ I told) ?_)⟩
  rintro us s1 ⟨xs, H1, J, r, small, q⟩
  have free : H1 s1.heap.objs.size = none := J.hok.fresh (Nat.le_refl _)
  refine ⟨by rw [← r.length]; exact small, .ref s1.heap.objs.size, upd H1 s1.heap.objs.size (.lst xs), J.laid (t' := s1.toks) (fun b u z => Heap.get?_push_of_some _ z) (Nat.le_refl _) ⟨small, us, 0, r, Heap.get?_push_size _ rfl⟩, rfl, q _ free (Nat.ne_of_gt J.big)⟩
/-! ### the end of a law whose defs are called where nothing is being shown -/
theorem law_G {P : Program} {w : World} {K : PySem.W.Frag} {mg mb : Str → Option Value} {CX : CXT} {k : Nat} {fa a : Addr} {fd : FuncData} {x : Str} {sp : Sp} {s : Shared} {vs : List Value} {ns : List Int}
    (inK : K.In s.heap) (gl : s.heap.Ns mainGlobals mg) (bl : s.heap.Ns builtinsNs mb) (boot : ∀ y : Str, y ≠ "__name__" → mb y = bootBuiltins y) (lim : s.heap.NoLimit) (ng : s.gens = #[])
    (at_ : s.heap.get? a = some { cls := .type "list", data := .seq vs.toArray }) (are : IntsAre vs ns) (small : ns.length ≤ sizeLine) (room : Room k callerA)
    (F : ∀ bs : Heap, K.In bs → bs.Ns mainGlobals mg → FnG P w K mg bs CX k fa fd [x] sp) (bound : ∀ (s : Shared) (u : Value), BindsTo s fd ⟨[u], []⟩ [(x, u)])
    (told : ∀ H : Hp, Only H → SqL K H a (ns.map V.int) → sp [.ref a] H (fun v _ => v = .bl true) fun _ _ _ => False)
    (noX : ∀ H e s', CX [] H s (fun _ _ _ => False) e s' → False) :
    codeAny (model P w) callerA (.call (.ref fa) ⟨[.ref a], []⟩) (fun r s' => r = .ok (.ret (.bool true)) ∧ OldK s.heap s'.heap ∧ s'.os = s.os ∧ AllBare s'.gens) s := by
  have main : ∀ H : Hp, Only H → SqL K H a (ns.map V.int) → HOk P w H s.heap → (∀ b, H b ≠ none → b = a) → (H a ≠ none → K.lookup a = none) →
      codeAny (model P w) callerA (.call (.ref fa) ⟨[.ref a], []⟩) (fun r s' => r = .ok (.ret (.bool true)) ∧ OldK s.heap s'.heap ∧ s'.os = s.os ∧ AllBare s'.gens) s := by
    intro H only list ok alone out
    have seen : ∀ {b : Addr} {o : Obj}, s.heap.get? b = some o → H b = none → (hidT s.heap H).get? b = some o := fun z n => hidT_get z n
    have dict : ∀ {b : Addr} {o : Obj} {es : Array DictEntry} {ep : Nat}, s.heap.get? b = some o → o.data = .dict es ep → H b = none := by
      intro b o es ep z dz
      refine Classical.byContradiction fun some_ => ?_
      have eb := alone b some_
      rw [eb, at_] at z
      cases z
      cases (show Data.seq vs.toArray _ = Data.dict es ep from dz)
    have names : ∀ {b : Addr} {m : Str → Option Value}, s.heap.Ns b m → (hidT s.heap H).Ns b m := by
      rintro b m ⟨o, es, ep, z, dz, rest⟩
      exact ⟨o, es, ep, seen z (dict z dz), dz, rest⟩
    have inB : K.In (hidT s.heap H) := by
      intro b o z
      refine seen (inK b o z) (Classical.byContradiction fun some_ => ?_)
      have eb := alone b some_
      subst eb
      rw [out some_] at z
      cases z
    obtain ⟨ml, l1, l2⟩ := lim
    have mod : Mod K mg (hidT s.heap H) := ⟨inB, names gl, ⟨mb, names bl, boot⟩, ⟨ml, names l1, l2⟩⟩
    have env : Env0 P w K mg (hidT s.heap H) callerA [] s H := { frames := rfl, mod := mod, bs := fun b o z => of_hidT z, bsz := Nat.le_of_eq (hidT_size _ _), funs := trivial, frf := (fun b hb => by cases (show b ∈ ([] : List Addr) from hb)), hok := ok, bare := .of_eq ng }
    refine codeAny_mono ((F _ inB (names gl)).go callerA rfl room [] s H _ [.ref a] [.ref a] _ _ env (bound s (.ref a)) (.cons rfl .nil) (told H only list)) fun r s2 z => ?_
    match r, z with
    | .error e, z => exact (noX H e s2 z).elim
    | .ok .next, z => exact z.elim
    | .ok .brk, z => exact z.elim
    | .ok .cont, z => exact z.elim
    | .ok (.ret u), ⟨v, H2, os, bare, un, ok2, rel, q⟩ =>
      cases (show v = V.bl true from q)
      cases (show u = Value.bool true from rel)
      refine ⟨rfl, OldK.of_keep fun b o z => ?_, os, bare⟩
      by_cases hb : H b = none
      · exact un.keep b o z hb (fun m => by cases (show b ∈ ([] : List Addr) from m)) (fun m => by cases m)
      · rcases only b with n | ⟨ob, xs, f⟩
        · exact absurd n hb
        · have o1 := (ok b _ f).1
          have o2 := (ok2 b _ (un.frzs b ob _ f)).1
          rw [z] at o1
          rw [Option.some.inj o1]
          exact o2
  have rel := vals_ints are
  cases hk : K.lookup a with
  | some o =>
    have z := inK a o hk
    rw [at_] at z
    cases z
    exact main (fun _ => none) (fun _ => .inl rfl) (.inr ⟨_, vs.toArray, _, hk, rfl, rfl, rfl, by rw [List.size_toArray, are.length]; exact small, by simpa using rel⟩) (fun b u z => by cases z) (fun b z => absurd rfl z) fun z => absurd rfl z
  | none =>
    have on : ∀ b : Addr, b = a → (if b = a then some (HO.frz { cls := .type "list", data := .seq vs.toArray } (.lst (ns.map V.int))) else none) = some (HO.frz { cls := .type "list", data := .seq vs.toArray } (.lst (ns.map V.int))) := fun b e => if_pos e
    refine main (fun b => if b = a then some (.frz { cls := .type "list", data := .seq vs.toArray } (.lst (ns.map V.int))) else none) (fun b => ?_) (.inl (.inr ⟨_, on a rfl⟩)) (fun b u z => ?_) (fun b z => ?_) fun _ => hk
    · rcases Classical.em (b = a) with e | e
      · exact .inr ⟨_, _, on b e⟩
      · exact .inl (if_neg e)
    · rcases Classical.em (b = a) with e | e
      · have := (on b e).symm.trans z
        cases this
        subst e
        exact ⟨at_, by rw [List.length_map]; exact small, vs, _, rel, at_⟩
      · have := (if_neg e).symm.trans z
        cases this
    · exact Classical.byContradiction fun e => z (if_neg e)
theorem walk_G {l : PySem.W.OpenLaw} {n k : Nat} {q : Program} {loose : List Str} {XP : (Str → Option Value) → Heap → Prop} {YP : World → Heap → Prop} {d : DefRec} {K : Params → PySem.W.Frag} {CX : World → CXT} {sp : World → Sp} {x : Str}
    (most : l.most = some n) (small : n ≤ sizeLine) (nodef : d.params.defaults = []) (room : Room k callerA) (inK : ∀ (w : World) (h : Heap), YP w h → (K w.params).In h)
    (F : ∀ (w : World) (mg : Str → Option Value) (fa : Addr) (h : Heap), (K w.params).In h → h.Ns mainGlobals mg → mg d.name = some (.ref fa) →
      ∃ fd : FuncData, (∀ (s : Shared) (u : Value), BindsTo s fd ⟨[u], []⟩ [(x, u)]) ∧ ∀ bs : Heap, (K w.params).In bs → bs.Ns mainGlobals mg → FnG l.prog w (K w.params) mg bs (CX w) k fa fd [x] (sp w))
    (told : ∀ (w : World) (H : Hp) (a : Addr) (ns : List Int), ns.length ≤ n → Only H → SqL (K w.params) H a (ns.map V.int) → sp w [.ref a] H (fun v _ => v = .bl true) fun _ _ _ => False)
    (noX : ∀ (w : World) (H : Hp) (s : Shared) (e : Value) (s' : Shared), CX w [] H s (fun _ _ _ => False) e s' → False) :
    PySem.W.WalkO q loose XP YP l.row.toRowW d [] (fun f vs => PySem.call f vs) := by
  refine Att.attach_call most nodef fun w s₀ s₁ mg mb fa o pm cd doc a vs ns G Y ho hd hcd hmg hobj hints hlen hg => ?_
  obtain ⟨fd, bound, FG⟩ := F w mg fa _ (inK w _ Y) G.T.g hmg
  exact law_G (inK w _ Y) G.T.g G.T.b G.T.builtins G.T.nolimit hg hobj hints (Nat.le_trans hlen small) room FG bound (fun H only list => told w H a ns hlen only list) fun H e s2 => noX w H s₁ e s2

/-! ### the end of a law whose defs are called where nothing is being shown, with tables of code objects -/
def LawAtG (l : PySem.W.OpenLaw) (w : World) (K : PySem.W.Frag) (CX : CXT) (k n : Nat) (x : Str) (mg : Str → Option Value) (f : Addr) (top : Heap) : Prop :=
  ∃ (fd : FuncData) (ts : List (Addr × Addr)) (sp : Sp), (∀ t ∈ ts, top.get? t.2 = some { cls := .none, data := .fields #[] }) ∧ (∀ t ∈ ts, K.lookup t.2 = none) ∧ (∀ t ∈ ts, PySem.W.CodeHd top t.1 t.2) ∧ (∀ (st : Shared) (v : Value), BindsTo st fd ⟨[v], []⟩ [(x, v)]) ∧
    (∀ (H : Hp) (p : Addr) (zs : List Int), zs.length ≤ n → (∀ z ∈ zs, Builtin.Int.intBits z ≤ 1048576) → (∀ t ∈ ts, H t.2 = some (.tbl #[])) → SqL K H p (zs.map V.int) → sp [.ref p] H (fun v _ => v = .bl true) fun _ _ _ => False) ∧
    ∀ under : Heap, K.In under → under.Ns mainGlobals mg → (∀ t ∈ ts, LamX.TabB under mg t.1 t.2) → FnG l.prog w K mg under CX k f fd [x] sp
theorem law_GT {P : Program} {w : World} {K : PySem.W.Frag} {mg mb : Str → Option Value} {CX : CXT} {k : Nat} {f p : Addr} {ts : List (Addr × Addr)} {fd : FuncData} {x : Str} {sp : Sp} {s : Shared} {us : List Value} {zs : List Int}
    (inK : K.In s.heap) (gl : s.heap.Ns mainGlobals mg) (bl : s.heap.Ns builtinsNs mb) (boot : ∀ y : Str, y ≠ "__name__" → mb y = bootBuiltins y) (lim : s.heap.NoLimit) (ng : s.gens = #[])
    (bare : ∀ t ∈ ts, s.heap.get? t.2 = some { cls := .none, data := .fields #[] }) (out : ∀ t ∈ ts, K.lookup t.2 = none) (code : ∀ t ∈ ts, PySem.W.CodeHd s.heap t.1 t.2)
    (bmod : ∃ (m : Addr) (o : Obj), mg "__builtins__" = some (.ref m) ∧ m ≠ builtinsNs ∧ s.heap.get? m = some o ∧ o.cls = .type "module" ∧ o.dict = some builtinsNs ∧ o.data = .plain)
    (script : s.heap.get? p = some { cls := .type "list", data := .seq us.toArray }) (are : IntsAre us zs) (small : zs.length ≤ sizeLine) (room : Room k callerA)
    (F : ∀ under : Heap, K.In under → under.Ns mainGlobals mg → (∀ t ∈ ts, LamX.TabB under mg t.1 t.2) → FnG P w K mg under CX k f fd [x] sp) (bound : ∀ (st : Shared) (v : Value), BindsTo st fd ⟨[v], []⟩ [(x, v)])
    (told : ∀ H : Hp, (∀ t ∈ ts, H t.2 = some (.tbl #[])) → SqL K H p (zs.map V.int) → sp [.ref p] H (fun v _ => v = .bl true) fun _ _ _ => False)
    (noX : ∀ H e st, CX [] H s (fun _ _ _ => False) e st → False) :
    codeAny (model P w) callerA (.call (.ref f) ⟨[.ref p], []⟩) (fun r st => r = .ok (.ret (.bool true)) ∧ OldK s.heap st.heap ∧ st.os = s.os ∧ AllBare st.gens) s := by
  have tabAt : ∀ c ∈ ts.map Prod.snd, s.heap.get? c = some { cls := .none, data := .fields #[] } := by
    intro c hc
    obtain ⟨t, ht, rfl⟩ := List.mem_map.mp hc
    exact bare t ht
  have inTs : ∀ {t : Addr × Addr}, t ∈ ts → t.2 ∈ ts.map Prod.snd := fun ht => List.mem_map_of_mem ht
  have pNo : ¬ p ∈ ts.map Prod.snd := by
    intro hp
    have both := (tabAt p hp).symm.trans script
    have kinds := congrArg (fun o : Option Obj => o.map Obj.cls) both
    simp at kinds
  have main : ∀ H : Hp, (∀ t ∈ ts, H t.2 = some (.tbl #[])) → (∀ c, H c = none ∨ c ∈ ts.map Prod.snd ∨ ∃ o ys, H c = some (.frz o (.lst ys))) → SqL K H p (zs.map V.int) → HOk P w H s.heap → (∀ c, H c ≠ none → c = p ∨ c ∈ ts.map Prod.snd) → (H p ≠ none → K.lookup p = none) →
      codeAny (model P w) callerA (.call (.ref f) ⟨[.ref p], []⟩) (fun r st => r = .ok (.ret (.bool true)) ∧ OldK s.heap st.heap ∧ st.os = s.os ∧ AllBare st.gens) s := by
    intro H tabs kinds list ok alone off
    have free : ∀ {c : Addr} {o : Obj}, s.heap.get? c = some o → (∀ ys m, ¬ o.data = .seq ys m) → ¬ o.data = .fields #[] → H c = none := by
      intro c o ho n1 n2
      refine Classical.byContradiction fun some_ => ?_
      rcases alone c some_ with rfl | hc
      · cases Option.some.inj (ho.symm.trans script)
        exact n1 _ _ rfl
      · cases Option.some.inj (ho.symm.trans (tabAt c hc))
        exact n2 rfl
    have names : ∀ {c : Addr} {m : Str → Option Value}, s.heap.Ns c m → (hidT s.heap H).Ns c m := by
      rintro c m ⟨o, es, ep, ho, dz, more⟩
      refine ⟨o, es, ep, hidT_get ho (free ho (fun ys j z => ?_) fun z => ?_), dz, more⟩ <;> exact Data.noConfusion (dz.symm.trans z)
    have inB : K.In (hidT s.heap H) := by
      intro c o ho
      refine hidT_get (inK c o ho) (Classical.byContradiction fun some_ => ?_)
      rcases alone c some_ with rfl | hc
      · exact absurd (ho.symm.trans (off some_)) (by simp)
      · obtain ⟨t, ht, rfl⟩ := List.mem_map.mp hc
        exact absurd (ho.symm.trans (out t ht)) (by simp)
    obtain ⟨ml, l1, l2⟩ := lim
    have mod : L2.Mod K mg (hidT s.heap H) := ⟨inB, names gl, ⟨mb, names bl, boot⟩, ⟨ml, names l1, l2⟩⟩
    have tables : ∀ t ∈ ts, LamX.TabB (hidT s.heap H) mg t.1 t.2 := by
      intro t ht
      constructor
      · obtain ⟨o, ys, file, tf, flags, tg, inF, text, tt, c1, c2, c3, c4, c5, c6, c7, c8, c9, c10⟩ := code t ht
        refine ⟨o, ys, file, tf, flags, tg, inF, text, tt, hidT_get c1 (free c1 (fun us j z => Data.noConfusion (c3.symm.trans z)) fun z => ?_), c2, c3, c4, c5, c6, c7, c8, c9, c10⟩
        have z2 := c3.symm.trans z
        cases z2
        simp at c4
      · obtain ⟨m, o, b1, b2, b3, b4, b5, b6⟩ := bmod
        refine ⟨m, o, b1, b2, fun z => ?_, fun z => ?_, hidT_get b3 (free b3 (fun us j z => Data.noConfusion (b6.symm.trans z)) fun z => Data.noConfusion (b6.symm.trans z)), b4, b5, b6⟩
        · obtain ⟨o', es, ep, ho, dz, _⟩ := gl
          subst z
          cases Option.some.inj (b3.symm.trans ho)
          exact Data.noConfusion (b6.symm.trans dz)
        · subst z
          cases Option.some.inj (b3.symm.trans (bare t ht))
          exact Data.noConfusion b6
      · intro z
        obtain ⟨o', es, ep, ho, dz, _⟩ := gl
        rw [z] at ho
        cases Option.some.inj (ho.symm.trans (bare t ht))
        exact Data.noConfusion dz
    have env : Env0 P w K mg (hidT s.heap H) callerA [] s H := { frames := rfl, mod := mod, bs := fun c o z => of_hidT z, bsz := Nat.le_of_eq (hidT_size _ _), funs := trivial, frf := (fun c hc => by cases (show c ∈ ([] : List Addr) from hc)), hok := ok, bare := .of_eq ng }
    refine codeAny_mono ((F _ inB (names gl) tables).go callerA rfl room [] s H _ [.ref p] [.ref p] _ _ env (bound s (.ref p)) (.cons rfl .nil) (told H tabs list)) fun r st z => ?_
    match r, z with
    | .error e, z => exact (noX H e st z).elim
    | .ok .next, z => exact z.elim
    | .ok .brk, z => exact z.elim
    | .ok .cont, z => exact z.elim
    | .ok (.ret u), ⟨v, H2, os, bg, un, ok2, rel, q⟩ =>
      cases (show v = V.bl true from q)
      cases (show u = Value.bool true from rel)
      have old : ∀ c o, ¬ c ∈ ts.map Prod.snd → s.heap.get? c = some o → st.heap.get? c = some o := by
        intro c o nc ho
        by_cases hc : H c = none
        · exact un.keep c o ho hc (fun m => by cases (show c ∈ ([] : List Addr) from m)) (fun m => by cases m)
        · rcases kinds c with n | n | ⟨ob, ys, fz⟩
          · exact absurd n hc
          · exact absurd n nc
          · have o1 := (ok c _ fz).1
            have o2 := (ok2 c _ (un.frzs c ob _ fz)).1
            rw [ho] at o1
            rw [Option.some.inj o1]
            exact o2
      have grown : ∀ c ∈ ts.map Prod.snd, ∃ more : Array Value, st.heap.get? c = some { cls := .none, data := .fields more } := by
        intro c hc
        obtain ⟨t, ht, rfl⟩ := List.mem_map.mp hc
        obtain ⟨more, hm⟩ := un.tbls t.2 #[] (tabs t ht)
        exact ⟨_, ok2 t.2 _ hm⟩
      refine ⟨rfl, ⟨fun c o ho => ?_, fun c o ho => ?_⟩, os, bg⟩
      · by_cases hc : c ∈ ts.map Prod.snd
        · obtain ⟨more, hm⟩ := grown c hc
          obtain ⟨t, ht, rfl⟩ := List.mem_map.mp hc
          cases Option.some.inj (ho.symm.trans (bare t ht))
          exact .inr (.inl ⟨((code t ht).tab (bare t ht)).isCodeTable, rfl, #[], more, rfl, by rw [Array.empty_append]; exact hm⟩)
        · exact .inl (old c o hc ho)
      · by_cases hc : c ∈ ts.map Prod.snd
        · obtain ⟨more, hm⟩ := grown c hc
          exact ⟨_, hm⟩
        · exact ⟨o, old c o hc ho⟩
  have rel := vals_ints are
  let base : Hp := fun c => if c ∈ ts.map Prod.snd then some (.tbl #[]) else none
  have onT : ∀ {c : Addr}, c ∈ ts.map Prod.snd → base c = some (.tbl #[]) := fun hc => if_pos hc
  have offT : ∀ {c : Addr}, ¬ c ∈ ts.map Prod.snd → base c = none := fun hc => if_neg hc
  cases hk : K.lookup p with
  | some o =>
    cases Option.some.inj ((inK p o hk).symm.trans script)
    refine main base (fun t ht => onT (inTs ht)) (fun c => ?_) (.inr ⟨_, us.toArray, _, hk, rfl, rfl, rfl, by rw [List.size_toArray, are.length]; exact small, by simpa using rel⟩) (fun c u z => ?_) (fun c z => ?_) fun z => absurd (offT pNo) z
    · rcases Classical.em (c ∈ ts.map Prod.snd) with hc | hc
      · exact .inr (.inl hc)
      · exact .inl (offT hc)
    · rcases Classical.em (c ∈ ts.map Prod.snd) with hc | hc
      · cases Option.some.inj ((onT hc).symm.trans z)
        exact tabAt c hc
      · exact absurd ((offT hc).symm.trans z) (by simp)
    · exact .inr (Classical.byContradiction fun hc => z (offT hc))
  | none =>
    let frz : HO := .frz { cls := .type "list", data := .seq us.toArray } (.lst (zs.map V.int))
    have onP : (fun c => if c = p then some frz else base c) p = some frz := if_pos rfl
    have offP : ∀ {c : Addr}, ¬ c = p → (fun c => if c = p then some frz else base c) c = base c := fun hc => if_neg hc
    refine main (fun c => if c = p then some frz else base c) (fun t ht => ?_) (fun c => ?_) (.inl (.inr ⟨_, onP⟩)) (fun c u z => ?_) (fun c z => ?_) fun _ => hk
    · refine (offP fun e => pNo ?_).trans (onT (inTs ht))
      rw [← e]
      exact inTs ht
    · rcases Classical.em (c = p) with rfl | e
      · exact .inr (.inr ⟨_, _, onP⟩)
      · rcases Classical.em (c ∈ ts.map Prod.snd) with hc | hc
        · exact .inr (.inl hc)
        · exact .inl ((offP e).trans (offT hc))
    · rcases Classical.em (c = p) with rfl | e
      · cases Option.some.inj (onP.symm.trans z)
        exact ⟨script, by rw [List.length_map]; exact small, us, _, rel, script⟩
      · have z := (offP e).symm.trans z
        rcases Classical.em (c ∈ ts.map Prod.snd) with hc | hc
        · cases Option.some.inj ((onT hc).symm.trans z)
          exact tabAt c hc
        · exact absurd ((offT hc).symm.trans z) (by simp)
    · rcases Classical.em (c = p) with e | e
      · exact .inl e
      · exact .inr (Classical.byContradiction fun hc => z ((offP e).trans (offT hc)))
theorem walk_GT {l : PySem.W.OpenLaw} {n k : Nat} {q : Program} {loose : List Str} {XP : (Str → Option Value) → Heap → Prop} {YP : World → Heap → Prop} {d : DefRec} {CX : World → CXT} {x : Str}
    (most : l.most = some n) (small : n ≤ sizeLine) (nodef : d.params.defaults = []) (room : Room k callerA)
    (F : ∀ (w : World) (mg : Str → Option Value) (f : Addr) (top : Heap), YP w top → top.Ns mainGlobals mg → mg d.name = some (.ref f) → ∃ K : PySem.W.Frag, K.In top ∧ LawAtG l w K (CX w) k n x mg f top)
    (noX : ∀ (w : World) (H : Hp) (s : Shared) (e : Value) (st : Shared), CX w [] H s (fun _ _ _ => False) e st → False) :
    PySem.W.WalkO q loose XP YP l.row.toRowW d [] (fun f vs => PySem.call f vs) := by
  refine Att.attach_callB most nodef fun w s0 s mg mb f o pm cd doc p us zs G Y ho hd hcd named script are few bits ng => ?_
  obtain ⟨K, inK, fd, ts, sp, bare, out, code, bound, told, FG⟩ := F w mg f _ Y G.T.g named
  exact law_GT inK G.T.g G.T.b G.T.builtins G.T.nolimit ng bare out code G.T.bmain script are (Nat.le_trans few small) room FG bound (fun H tabs list => told H p zs few bits tabs list) fun H e st => noX w H s e st

/-! ### data made by the law or the program: numbers, truths, texts, lists and tuples of these -/
mutual
inductive Tk (H : Hp) : V → PyData → Prop
  | bl (b : Bool) : Tk H (.bl b) (.bool b)
  | int (i : Int) : Tk H (.int i) (.int i)
  | str (x : Str) : Tk H (.str x) (.str x)
  | lst {a : Addr} {xs : List V} {ds : List PyData} : H a = some (.lst xs) → TkAll H xs ds → Tk H (.ref a) (.list ds)
  | tup {a : Addr} {xs : List V} {ds : List PyData} : H a = some (.tup xs) → TkAll H xs ds → Tk H (.ref a) (.tuple ds)
inductive TkAll (H : Hp) : List V → List PyData → Prop
  | nil : TkAll H [] []
  | cons {v : V} {vs : List V} {d : PyData} {ds : List PyData} : Tk H v d → TkAll H vs ds → TkAll H (v :: vs) (d :: ds)
end
theorem TkAll.length {H : Hp} : ∀ {vs : List V} {ds : List PyData}, TkAll H vs ds → vs.length = ds.length
  | _, _, .nil => rfl
  | _, _, .cons _ t => by rw [List.length_cons, List.length_cons, t.length]
mutual
theorem Tk.same {H H' : Hp} (s : Same H H') : ∀ {v : V} {d : PyData}, Tk H v d → Tk H' v d
  | _, _, .bl b => .bl b
  | _, _, .int i => .int i
  | _, _, .str x => .str x
  | _, _, .lst h t => .lst (s _ _ h) (t.same s)
  | _, _, .tup h t => .tup (s _ _ h) (t.same s)
theorem TkAll.same {H H' : Hp} (s : Same H H') : ∀ {vs : List V} {ds : List PyData}, TkAll H vs ds → TkAll H' vs ds
  | _, _, .nil => .nil
  | _, _, .cons h t => .cons (h.same s) (t.same s)
end
theorem TkAll.get {H : Hp} : ∀ {xs : List V} {ds : List PyData} {j : Nat} {x : V}, TkAll H xs ds → xs[j]? = some x → ∃ d, ds[j]? = some d ∧ Tk H x d
  | _, _, _, _, .nil, h => by simp at h
  | _, _, 0, _, .cons (d := d) a _, h => by
    cases (Option.some.inj h)
    exact ⟨d, rfl, a⟩
  | _, _, j + 1, _, .cons _ t, h => t.get h
theorem TkAll.append {H : Hp} : ∀ {xs ys : List V} {ds es : List PyData}, TkAll H xs ds → TkAll H ys es → TkAll H (xs ++ ys) (ds ++ es)
  | _, _, _, _, .nil, t => t
  | _, _, _, _, .cons a r, t => .cons a (r.append t)
theorem TkAll.ints {H : Hp} : ∀ ns : List Int, TkAll H (ns.map V.int) (ns.map PyData.int)
  | [] => .nil
  | n :: r => .cons (.int n) (TkAll.ints r)
theorem Tk.int_inv {H : Hp} {v : V} {i : Int} (h : Tk H v (.int i)) : v = .int i := by cases h; rfl
theorem Tk.tup_inv {H : Hp} {v : V} {ds : List PyData} (h : Tk H v (.tuple ds)) : ∃ a xs, v = .ref a ∧ H a = some (.tup xs) ∧ TkAll H xs ds := by
  cases h with
  | tup h t => exact ⟨_, _, rfl, h, t⟩
theorem Tk.lst_inv {H : Hp} {v : V} {ds : List PyData} (h : Tk H v (.list ds)) : ∃ a xs, v = .ref a ∧ H a = some (.lst xs) ∧ TkAll H xs ds := by
  cases h with
  | lst h t => exact ⟨_, _, rfl, h, t⟩
theorem TkAll.int_inv {H : Hp} : ∀ {vs : List V} {ns : List Int}, TkAll H vs (ns.map PyData.int) → vs = ns.map V.int
  | _, [], .nil => rfl
  | _, n :: r, .cons h t => by rw [List.map_cons, h.int_inv, t.int_inv]
/-- heaps without one place -/
def hd1 (p : Addr) (H : Hp) : Hp := fun b => if b = p then none else H b
theorem hd1_le {p : Addr} {H : Hp} : Same (hd1 p H) H := fun b o e => by
  unfold hd1 at e
  by_cases h : b = p
  · rw [if_pos h] at e; cases e
  · rw [if_neg h] at e; exact e
theorem hd1_same {p : Addr} {H H' : Hp} (s : Same H H') : Same (hd1 p H) (hd1 p H') := fun b o e => by
  unfold hd1 at e ⊢
  by_cases h : b = p
  · rw [if_pos h] at e; cases e
  · rw [if_neg h] at e ⊢; exact s _ _ e
theorem hd1_upd {p : Addr} {H : Hp} {o : HO} : Same (hd1 p H) (hd1 p (upd H p o)) := fun b x e => by
  unfold hd1 at e ⊢
  by_cases h : b = p
  · rw [if_pos h] at e; cases e
  · rw [if_neg h] at e ⊢; rw [upd_ne h]; exact e
theorem hd1_at {p b : Addr} {H : Hp} (h : b ≠ p) : hd1 p H b = H b := if_neg h
theorem hd1_of {p : Addr} {H H' : Hp} (s : Same H H') (n : H p = none) : Same H (hd1 p H') := fun b o e => by
  rw [hd1_at (ne_of_none e n)]
  exact s _ _ e
theorem same_of_hd1 {p : Addr} {H H' : Hp} {o : HO} (s : Same H (hd1 p H')) : Same H (upd H' p o) := fun b x e => by
  have z := s b x e
  unfold hd1 at z
  by_cases h : b = p
  · rw [if_pos h] at z; cases z
  · rw [if_neg h] at z; rw [upd_ne h]; exact z

/-! ### tables and gates -/
def tabOf (bs : List Bool) : Str := ⟨(bs.map fun b => if b = true then 49 else 48).toArray⟩
def plc (ws : List Int) : Int := ws.foldl (fun p w => 2 * p + w) 0
def gateM (bs : List Bool) (ws : List Int) : Int := if bs.getD (plc ws).toNat false = true then 1 else 0
theorem plc_snoc (ws : List Int) (w : Int) : plc (ws ++ [w]) = 2 * plc ws + w := by
  unfold plc
  rw [List.foldl_append]
  rfl
theorem plc_take {ws : List Int} {i : Nat} {u : Int} (h : ws[i]? = some u) : plc (ws.take (i + 1)) = 2 * plc (ws.take i) + u := by
  rw [List.take_add_one, h]
  exact plc_snoc _ _
theorem plc_bd : ∀ (n : Nat) (ws : List Int), ws.length = n → (∀ w ∈ ws, w = 0 ∨ w = 1) → 0 ≤ plc ws ∧ plc ws < 2 ^ n := by
  intro n
  induction n with
  | zero =>
    intro ws h _
    cases List.eq_nil_of_length_eq_zero h
    decide
  | succ n ih =>
    intro ws h hw
    have hne : ws ≠ [] := fun z => by rw [z] at h; cases h
    obtain ⟨r, x, rfl⟩ : ∃ r x, ws = r ++ [x] := ⟨ws.dropLast, ws.getLast hne, (List.dropLast_concat_getLast hne).symm⟩
    have hr := ih r (by rw [List.length_append] at h; simpa using h) fun w h' => hw w (List.mem_append_left _ h')
    have hx := hw x (by simp)
    rw [plc_snoc, Int.pow_succ]
    omega
theorem gate01 (bs : List Bool) (ws : List Int) : gateM bs ws = 0 ∨ gateM bs ws = 1 := by
  unfold gateM
  split
  · exact .inr rfl
  · exact .inl rfl
theorem int_sign (b : Bool) : PySem.intText? ⟨#[if b = true then 49 else 48]⟩ = some (if b = true then 1 else 0) := by
  cases b <;> decide +kernel
def spGate (K : PySem.W.Frag) : Sp := fun vs H Q _ => ∃ (bs : List Bool) (la : Addr) (ws : List Int), vs = [.str (tabOf bs), .ref la] ∧ SqL K H la (ws.map V.int) ∧ (∀ w ∈ ws, w = 0 ∨ w = 1) ∧ bs.length = 2 ^ ws.length ∧ ws.length ≤ 3 ∧ Q (.int (gateM bs ws)) H
theorem gate_read {bs : List Bool} {ws : List Int} (hw : ∀ w ∈ ws, w = 0 ∨ w = 1) (hb : bs.length = 2 ^ ws.length) (h3 : ws.length ≤ 3) : ∃ b : Bool, 0 ≤ plc ws ∧ plc ws < 2 ^ 63 ∧ plc ws < (tabOf bs).length ∧ (tabOf bs).cps[(plc ws).toNat]? = some (if b = true then 49 else 48) ∧ gateM bs ws = if b = true then 1 else 0 := by
  obtain ⟨p0, p1⟩ := plc_bd _ ws rfl hw
  have p8 : plc ws < 8 := by
    have : (2 : Int) ^ ws.length ≤ 8 := by
      have : ws.length = 0 ∨ ws.length = 1 ∨ ws.length = 2 ∨ ws.length = 3 := by omega
      rcases this with h | h | h | h <;> rw [h] <;> decide
    omega
  have hlt : (plc ws).toNat < bs.length := by
    have : ((2 ^ ws.length : Nat) : Int) = (2 : Int) ^ ws.length := by simp
    omega
  refine ⟨bs[(plc ws).toNat], p0, by omega, ?_, ?_, ?_⟩
  · have : (tabOf bs).length = bs.length := by simp [tabOf, Str.length]
    rw [this]
    omega
  · simp [tabOf, List.getElem?_eq_getElem hlt]
  · unfold gateM
    rw [List.getD_eq_getElem?_getD, List.getElem?_eq_getElem hlt]
    rfl

/-! ### walks -/
theorem gx_tup {α : Type} {K : PySem.W.Frag} {a : Addr} {xs : List V} {g : TG} {tt : TT} {te : TE} {vs : List Nat} {σ0 : L2.St} {End : α → Hp → Prop} {Yd : α → V → Hp → (α → Hp → Prop) → Prop} {a0 : α} {H0 : Hp} (Pv : Nat → α → Hp → Prop) (h0 : Pv 0 a0 H0)
    (hl : ∀ i c H, i ≤ xs.length → Pv i c H → SqT K H a xs)
    (hs : ∀ i x c H, xs[i]? = some x → Pv i c H → g x σ0 H fun σ2 H2 => wipe σ2 vs = σ0 ∧ tt σ2 H2 fun b H3 => if b = true then te σ2 H3 fun y H4 => Yd c y H4 (Pv (i + 1)) else Pv (i + 1) c H3) (hd : ∀ c H, Pv xs.length c H → End c H) :
    ∃ W : Nat → Nat → α → Hp → Prop, (∃ m, W 0 m a0 H0) ∧ tGx (Itt K a) g tt te σ0 vs End Yd W := by
  refine ⟨fun i m c H => m = xs.length - i ∧ i ≤ xs.length ∧ Pv i c H, ⟨xs.length, rfl, Nat.zero_le _, h0⟩, ?_⟩
  rintro i m c H ⟨rfl, hi, p⟩
  by_cases hlt : i < xs.length
  · have hx : xs[i]? = some xs[i] := List.getElem?_eq_getElem hlt
    refine .inr ⟨⟨xs, xs[i], hl i c H hi p, hx⟩, Pv (i + 1), fun c' H' p' => ⟨xs.length - (i + 1), by omega, rfl, hlt, p'⟩, fun x H' y => ?_⟩
    obtain ⟨rfl, y⟩ := y
    exact hs i x c _ (y xs (hl i c _ hi p)) p
  · have e : i = xs.length := by omega
    subst e
    exact .inl ⟨⟨xs, hl _ c H hi p, Nat.le_refl _⟩, hd c H p⟩
theorem lc_zipT {K : PySem.W.Frag} {a b : Addr} {xs ys : List V} {g : TG} {tt : TT} {te : TE} {vs : List Nat} {σ : L2.St} {H1 : Hp} {D : Addr} {Qd : Hp → Prop} (el : xs.length = ys.length) (Pv : Nat → Hp → Prop) (h0 : Pv 0 (upd H1 D (.lst []))) (hl : ∀ i H, i ≤ xs.length → Pv i H → SqT K H a xs ∧ SqT K H b ys)
    (hs : ∀ i x y T H, xs[i]? = some x → ys[i]? = some y → H T = none → Pv i H → g (.ref T) (wipe σ vs) (upd H T (.tup [x, y])) fun σ2 H2 => wipe σ2 vs = wipe σ vs ∧ tt σ2 H2 fun b H3 =>
      if b = true then te σ2 H3 fun y H4 => ∃ acc, H4 D = some (.lst acc) ∧ acc.length < sizeLine ∧ Pv (i + 1) (upd H4 D (.lst (acc ++ [y]))) else Pv (i + 1) H3) (hd : ∀ H, Pv xs.length H → Qd H) :
    ∃ W : Nat → Nat → Hp → Prop, (∃ m, W 0 m (upd H1 D (.lst []))) ∧ ∀ i m H, W i m H →
      ((RZ.ItzT K a b).stop i H ∧ Qd H) ∨ ((RZ.ItzT K a b).go i H ∧ ∃ Nx : Hp → Prop, (∀ H', Nx H' → ∃ m', m' < m ∧ W (i + 1) m' H') ∧ ∀ x H', (RZ.ItzT K a b).yld i H x H' → g x (wipe σ vs) H' fun σ2 H2 => wipe σ2 vs = wipe σ vs ∧ tt σ2 H2 fun b H3 =>
        if b = true then te σ2 H3 fun y H4 => ∃ acc, H4 D = some (.lst acc) ∧ acc.length < sizeLine ∧ Nx (upd H4 D (.lst (acc ++ [y]))) else Nx H3) := by
  refine ⟨fun i m H => m = xs.length - i ∧ i ≤ xs.length ∧ Pv i H, ⟨xs.length, by simp, Nat.zero_le _, h0⟩, ?_⟩
  rintro i m H ⟨rfl, hi, p⟩
  obtain ⟨qx, qy⟩ := hl i H hi p
  by_cases hlt : i < xs.length
  · have hx : xs[i]? = some xs[i] := List.getElem?_eq_getElem hlt
    have hy : ys[i]? = some (ys[i]'(by omega)) := List.getElem?_eq_getElem _
    refine .inr ⟨⟨xs, ys, _, _, qx, qy, hx, hy⟩, Pv (i + 1), fun H' p' => ⟨xs.length - (i + 1), by omega, rfl, hlt, p'⟩, fun x H' y => ?_⟩
    obtain ⟨T, x1, y1, rfl, nT, rfl, e1, e2⟩ := y
    exact hs i x1 y1 T H (e1 xs qx) (e2 ys qy) nT p
  · have e : i = xs.length := by omega
    subst e
    exact .inl ⟨⟨xs, ys, qx, qy, .inl (Nat.le_refl _)⟩, hd H p⟩

/-! ### enumerate(tuple) -/
theorem draws_tuple {P : Program} {w : World} {A : Around} (hA : A.handled = none) (it a : Addr) (items : Array Value) (hne : a ≠ it) : Draws P w A it [it, a] items.size (fun i v => items[i]? = some v) (fun i h => h.IsTupleIter it a i ∧ h.IsTuple a items) where
  live := fun _ _ st => let ⟨o, ho, _⟩ := st.1; ⟨o, ho⟩
  frame := fun _ _ _ st hk => ⟨st.1.at fun o e => hk it (by simp) o e, by
    obtain ⟨o, ho, r⟩ := st.2
    exact ⟨o, hk a (by simp) o ho, r⟩⟩
  item := fun i s Q E hi st hQ => by
    refine RZ.nextOf_tuple_item st.1 st.2 (x := items[i]) (by simp [hi]) fun h' hit' hs' => ?_
    refine hQ _ h' s.toks (by simp [hi]) ⟨hit', ?_⟩ hs'
    obtain ⟨o, ho, r⟩ := st.2
    exact ⟨o, hs'.extBut a o hne ho, r⟩
  done := fun s Q E st hE => RZ.nextOf_tuple_end hA st.1 st.2 (by simp) hE
open PySem.AutoSeq1 in
set_option maxHeartbeats 1000000 in
theorem meets_enumerate_newT (l : Addr) (items : Array Value) (o : Obj) (hc : o.cls = .type "tuple") (n : Nat) (hd : o.data = .seq items n) :
    Meets (Builtin.«enumerate.__new__» ⟨[.type "enumerate", .ref l], []⟩) (fun _ R s => s.heap.get? l = some o ∧
      R (.ok (.ret (.ref (s.heap.push { cls := .type "tuple_iterator", data := .fields #[.ref l, .int 0 0] }).objs.size)))
        { s with heap := (s.heap.push { cls := .type "tuple_iterator", data := .fields #[.ref l, .int 0 0] }).push { cls := .type "enumerate", data := .fields #[.none, .bool false, .ref s.heap.objs.size, rawInt 0, .none, .none] } }) :=
  .of_wp fun prog w A R s h => by
    obtain ⟨hp, g, d, tk, os⟩ := s; obtain ⟨hl, h⟩ := h
    have hsub := sub_enumerate
    have hL : Heap.IsTuple (Shared.heap ⟨hp, g, d, tk, os⟩) l items := ⟨_, hl, hc, n, hd⟩
    wp_walk using wpAny_loadPart' hl
    refine wpAny_stack_any fun st => wpAny_pure ?_
    split
    · rename_i c _ _ _ _ _
      cases (c == Value.type "enumerate")
      · wp_walk using wpAny_loadPart' hl, wpAny_pyIter_tuple hL
        exact ⟨_, rfl, h⟩
      · wp_walk using wpAny_loadPart' hl, wpAny_pyIter_tuple hL
        exact ⟨_, rfl, h⟩
    · wp_walk using wpAny_loadPart' hl, wpAny_pyIter_tuple hL
      exact ⟨_, rfl, h⟩
theorem call_enumerate_tuple {prog : Program} {w : World} {A : Around} {E : Value → Shared → Prop} {s : Shared} {l : Addr} {items : Array Value} {Q : Value → Shared → Prop} (hL : s.heap.IsTuple l items)
    (h : ∀ h', IsEnum h' (s.heap.objs.size + 1) s.heap.objs.size 0 .none → h'.IsTupleIter s.heap.objs.size l 0 → h'.objs.size = s.heap.objs.size + 2 →
      (∀ b o, s.heap.get? b = some o → h'.get? b = some o) → Q (.ref (s.heap.objs.size + 1)) { s with heap := h' }) :
    wpAny (model prog w) A (call (.type "enumerate") [.ref l]) Q E s := by
  obtain ⟨o, hl, hc, n, hd⟩ := hL
  refine callType_new F.called_enumerate (by decide) (F.typeCall_enumerate_1 _) (F.newCall_enumerate_1 _) (fun obj => F.args_object_init_2 obj _) F.entry_enumerate_new
    (meets_enumerate_newT l items o hc n hd) ⟨hl, ?_⟩
  have hz : (s.heap.push { cls := .type "tuple_iterator", data := .fields #[.ref l, .int 0 0] }).objs.size = s.heap.objs.size + 1 := Heap.size_push ..
  show _ ∧ _
  rw [hz]
  have he : IsEnum ((s.heap.push { cls := .type "tuple_iterator", data := .fields #[.ref l, .int 0 0] }).push
      { cls := .type "enumerate", data := .fields #[.none, .bool false, .ref s.heap.objs.size, rawInt 0, .none, .none] }) (s.heap.objs.size + 1) s.heap.objs.size 0 .none := by
    have := Heap.get?_push_size (s.heap.push { cls := .type "tuple_iterator", data := .fields #[.ref l, .int 0 0] })
      (o := { cls := .type "enumerate", data := .fields #[.none, .bool false, .ref s.heap.objs.size, rawInt 0, .none, .none] }) rfl
    rw [hz] at this; exact this
  refine ⟨⟨_, he, rfl⟩, h _ he ⟨_, Heap.get?_push_of_some _ (Heap.get?_push_size _ rfl), rfl, rfl⟩ (by rw [Heap.size_push, hz]) fun b o x => Heap.get?_push_of_some _ (Heap.get?_push_of_some _ x)⟩
/-- the tuple at a, each item in a new pair -/
def IteT (K : PySem.W.Frag) (a : Addr) : It :=
  ⟨fun i H => ∃ (xs : List V) (x : V), SqT K H a xs ∧ xs[i]? = some x, fun i H v H' => ∃ T x, v = .ref T ∧ H T = none ∧ H' = upd H T (.tup [.int (i : Nat), x]) ∧ ∀ xs, SqT K H a xs → xs[i]? = some x, fun i H => ∃ xs : List V, SqT K H a xs ∧ xs.length = i⟩
theorem turn_enumT {P : Program} {w : World} {K : PySem.W.Frag} {elts : List Expr} {kk : Nat} {tpos : Pos} (a e it : Addr) :
    Turn P w K (.Tuple elts kk tpos) (IteT K a) [e, it] e (fun i h => (∃ old, IsEnum h e it ((i : Nat) : Int) old) ∧ h.IsTupleIter it a i ∧ e ≠ it) where
  mem := by simp
  obj := fun i h st b hb => by
    obtain ⟨⟨old, he⟩, ⟨o, ho, hc, hd⟩, _⟩ := st
    have e' : b = e ∨ b = it := by simpa using hb
    rcases e' with z | z
    · rw [z]; exact ⟨_, he, fun v q => nomatch q⟩
    · rw [z]; exact ⟨o, ho, fun v q => by rw [hd] at q; cases q⟩
  keep := fun i h h' st k => let ⟨⟨old, he⟩, hi, hne⟩ := st; ⟨⟨old, k e (by simp) _ he⟩, hi.at fun o q => k it (by simp) o q, hne⟩
  item := by
    intro X hP hw hK hc i pins s σ H E I hf st hg
    subst hP hw hK
    obtain ⟨⟨old, he⟩, hit, hne⟩ := st
    obtain ⟨xs, x, hq, hx⟩ := hg
    obtain ⟨its, rv, p, hz⟩ := I.tuple hq
    obtain ⟨u, hu, ru⟩ := rv.get hx
    have hel : e < s.heap.objs.size := Heap.lt_size he
    have hil : it < s.heap.objs.size := by obtain ⟨_, q, _⟩ := hit; exact Heap.lt_size q
    have hpt : s.heap.IsTuple a its.toArray := p
    have hai : a ≠ it := fun z => by
      obtain ⟨o1, h1, c1, _⟩ := hpt
      obtain ⟨o2, h2, c2, _⟩ := hit
      rw [z, h2] at h1
      cases h1
      rw [c2] at c1
      exact absurd (Value.type.inj c1) (by decide)
    have hae : e ≠ a := fun z => by
      obtain ⟨o1, h1, c1, _⟩ := hpt
      rw [← z, he] at h1
      cases h1
      exact absurd (Value.type.inj c1) (by decide)
    have hil2 : i < its.toArray.size := by
      rw [List.size_toArray]
      exact (List.getElem?_eq_some_iff.mp hu).1
    refine wpAny_pyNext_enum_itemD (draws_tuple (A := X.A.in1) (I.ok.hd hc) it a its.toArray hai) he ⟨hit, hpt⟩ hil2 hne (by simp only [List.mem_cons, List.not_mem_nil, or_false, not_or]; exact ⟨hne, hae⟩) fun y h' tk hy ho hst hT hsz hk => ?_
    have hyu : y = u := by
      have : its[i]? = some y := by simpa using hy
      rw [hu] at this
      exact (Option.some.inj this).symm
    subst hyu
    have hit' := hst.1
    refine ⟨_, rfl, wpAny_letOwnedTupleGo_enum (s := { s with heap := h', toks := tk + 1 }) ho fun h'' he' sb => ?_⟩
    have hT2 : h''.get? s.heap.objs.size = some { cls := .type "tuple", data := .seq #[.int i tk, y] } := (sb.2 _ (Nat.ne_of_gt hel)).trans hT
    have new : ObjOk X.prog X.w (upd H s.heap.objs.size (.tup [.int (i : Nat), x])) h'' s.heap.objs.size (.tup [.int (i : Nat), x]) :=
      ⟨by show 2 ≤ sizeLine; decide, [.int i tk, y], .cons ⟨_, rfl⟩ (.cons ru .nil), ⟨_, hT2, rfl, _, rfl⟩⟩
    have I1 : Inv X pins σ (upd H s.heap.objs.size (.tup [.int (i : Nat), x])) { s with heap := h'', toks := tk + 1 } :=
      I.turnedNew (ch := [e, it]) (fun b ob hb q => (sb.2 b (fun z => hb (by simp [z]))).trans (hk b ob (fun z => hb (by simp [z])) (fun z => hb (by simp [z])) q)) hf (Nat.le_refl _) new
    refine ⟨.ref s.heap.objs.size, _, I1, rfl, ⟨_, x, rfl, I.hok.fresh (Nat.le_refl _), rfl, fun ys hy => by rw [I.tuple_inj hy hq]; exact hx⟩, ⟨⟨y, ?_⟩, hit'.at fun o q => (sb.2 it (Ne.symm hne)).trans q, hne⟩, fun b hb => ?_⟩
    · have e1 : ((i + 1 : Nat) : Int) = (i : Int) + 1 := by omega
      rw [e1]; exact he'
    · have hb' : b < s.heap.objs.size := by
        have e' : b = e ∨ b = it := by simpa using hb
        rcases e' with z | z
        · rw [z]; exact hel
        · rw [z]; exact hil
      rw [upd_ne (Nat.ne_of_lt hb')]
      exact (hf b hb).1
  done := by
    intro X hP hw hK hc i pins s σ H E I hf st hg
    subst hP hw hK
    obtain ⟨⟨old, he⟩, hit, hne⟩ := st
    obtain ⟨xs, hq, hx⟩ := hg
    obtain ⟨its, rv, p, hz⟩ := I.tuple hq
    obtain ⟨f0, f1, f2, f3, f4, f5⟩ := hf it (by simp)
    have hl := rv.length
    have hpt : s.heap.IsTuple a its.toArray := p
    have hai : a ≠ it := fun z => by
      obtain ⟨o1, h1, c1, _⟩ := hpt
      obtain ⟨o2, h2, c2, _⟩ := hit
      rw [z, h2] at h1
      cases h1
      rw [c2] at c1
      exact absurd (Value.type.inj c1) (by decide)
    have hn : i = its.toArray.size := by rw [List.size_toArray]; omega
    exact wpAny_pyNext_enum_endD (draws_tuple (A := X.A.in1) (I.ok.hd hc) it a its.toArray hai) he (by rw [← hn]; exact ⟨hit, hpt⟩) fun h' eb => ⟨rfl, I.turned (t' := s.toks) (fun b o hb q => eb b o hb q) f0 f1 f3 f4 f5⟩
  self := fun A i s Q E st h => let ⟨⟨_, he⟩, _⟩ := st; wpAny_pyIter_enum he h
def iEnumT (K : PySem.W.Frag) (ta : TA) : TI := fun σ H R => ta σ H fun vs H1 => ∃ a xs, vs = [.ref a] ∧ SqT K H1 a xs ∧ R (IteT K a) H1
theorem pi_enumT {X : Cx} {e : Expr} {ta : TA} {p pos tpos : Pos} {elts : List Expr} {kk : Nat} (hg : Gl X "enumerate") (hm : X.mg "enumerate" = none) (ha : PA X [e] ta) (hs : starEach [e] X.env = [(false, eval e X.env)] := by rfl) :
    PI X (.Tuple elts kk tpos) (.Call (.Name "enumerate" p) [e] [] pos) (iEnumT X.K ta) := by
  refine ⟨fun pins s σ H R I h => ?_⟩
  refine Call_ (ld_blt I hg hm boot_enumerate (PyProof.Rows.callWith_type1 (thn (ha.run pos pins s σ H _ I h) fun us s1 ⟨vs, H1, I1, r1, q1⟩ => ?_) hs rfl))
  obtain ⟨a, xs, ex, hq, q⟩ := q1
  subst ex
  cases r1 with
  | cons r rr =>
    cases rr
    cases r
    obtain ⟨its, rv, p', hz⟩ := I1.tuple hq
    refine call_enumerate_tuple p' fun h' he hit hsz hk => wpAny_pyIter_enum he ?_
    have I2 : Inv X pins σ H1 { s1 with heap := h' } := I1.kept (t' := s1.toks) hk
    refine ⟨s1.heap.objs.size + 1, [s1.heap.objs.size + 1, s1.heap.objs.size], _, _, H1, rfl, I2, turn_enumT a (s1.heap.objs.size + 1) s1.heap.objs.size, ⟨⟨.none, he⟩, hit, Nat.succ_ne_self _⟩, fun b hb => ?_, q⟩
    have e' : b = s1.heap.objs.size + 1 ∨ b = s1.heap.objs.size := by simpa using hb
    have hle : s1.heap.objs.size ≤ b := by
      rcases e' with z | z
      · rw [z]; exact Nat.le_add_right _ _
      · rw [z]; exact Nat.le_refl _
    exact I1.fpOk hle (I1.hok.fresh hle)
theorem gx_enum {α : Type} {K : PySem.W.Frag} {a : Addr} {xs : List V} {g : TG} {tt : TT} {te : TE} {vs : List Nat} {σ0 : L2.St} {End : α → Hp → Prop} {Yd : α → V → Hp → (α → Hp → Prop) → Prop} {a0 : α} {H0 : Hp} (Pv : Nat → α → Hp → Prop) (h0 : Pv 0 a0 H0)
    (hl : ∀ i c H, i ≤ xs.length → Pv i c H → SqT K H a xs)
    (hs : ∀ i x T c H, xs[i]? = some x → H T = none → Pv i c H → g (.ref T) σ0 (upd H T (.tup [.int (i : Nat), x])) fun σ2 H2 => wipe σ2 vs = σ0 ∧ tt σ2 H2 fun b H3 => if b = true then te σ2 H3 fun y H4 => Yd c y H4 (Pv (i + 1)) else Pv (i + 1) c H3) (hd : ∀ c H, Pv xs.length c H → End c H) :
    ∃ W : Nat → Nat → α → Hp → Prop, (∃ m, W 0 m a0 H0) ∧ tGx (IteT K a) g tt te σ0 vs End Yd W := by
  refine ⟨fun i m c H => m = xs.length - i ∧ i ≤ xs.length ∧ Pv i c H, ⟨xs.length, rfl, Nat.zero_le _, h0⟩, ?_⟩
  rintro i m c H ⟨rfl, hi, p⟩
  by_cases hlt : i < xs.length
  · have hx : xs[i]? = some xs[i] := List.getElem?_eq_getElem hlt
    refine .inr ⟨⟨xs, xs[i], hl i c H hi p, hx⟩, Pv (i + 1), fun c' H' p' => ⟨xs.length - (i + 1), by omega, rfl, hlt, p'⟩, fun x H' y => ?_⟩
    obtain ⟨T, x1, rfl, nT, rfl, e1⟩ := y
    exact hs i x1 T c H (e1 xs (hl i c _ hi p)) nT p
  · have e : i = xs.length := by omega
    subst e
    exact .inl ⟨⟨xs, hl _ c H hi p, rfl⟩, hd c H p⟩
theorem gx_str {α : Type} {z : Str} {g : TG} {tt : TT} {te : TE} {vs : List Nat} {σ0 : L2.St} {End : α → Hp → Prop} {Yd : α → V → Hp → (α → Hp → Prop) → Prop} {a0 : α} {H0 : Hp} (Pv : Nat → α → Hp → Prop) (h0 : Pv 0 a0 H0)
    (hs : ∀ i x c H, z.cps[i]? = some x → Pv i c H → g (.str ⟨#[x]⟩) σ0 H fun σ2 H2 => wipe σ2 vs = σ0 ∧ tt σ2 H2 fun b H3 => if b = true then te σ2 H3 fun y H4 => Yd c y H4 (Pv (i + 1)) else Pv (i + 1) c H3) (hd : ∀ c H, Pv z.cps.size c H → End c H) :
    ∃ W : Nat → Nat → α → Hp → Prop, (∃ m, W 0 m a0 H0) ∧ tGx (Its z) g tt te σ0 vs End Yd W := by
  refine ⟨fun i m c H => m = z.cps.size - i ∧ i ≤ z.cps.size ∧ Pv i c H, ⟨z.cps.size, rfl, Nat.zero_le _, h0⟩, ?_⟩
  rintro i m c H ⟨rfl, hi, p⟩
  by_cases hlt : i < z.cps.size
  · refine .inr ⟨hlt, Pv (i + 1), fun c' H' p' => ⟨z.cps.size - (i + 1), by omega, rfl, hlt, p'⟩, fun x H' y => ?_⟩
    obtain ⟨rfl, ch, hc, rfl⟩ := y
    exact hs i ch c _ hc p
  · have e : i = z.cps.size := by omega
    subst e
    exact .inl ⟨Nat.le_refl _, hd c H p⟩

/-! ### nets, and the words of nets -/
abbrev Gt := List Bool × List Nat
def gD (g : Gt) : PyData := .tuple [.str (tabOf g.1), .tuple ((g.2.map Int.ofNat).map PyData.int)]
def netD (many : Int) (gs : List Gt) : PyData := .tuple [.int many, .tuple (gs.map gD)]
def rowD (r : List Int) : PyData := .tuple (r.map PyData.int)
def chD (a b : List Int) : PyData := .tuple [rowD a, rowD b]
def GtOk (n : Nat) (g : Gt) : Prop := g.1.length = 2 ^ g.2.length ∧ 1 ≤ g.2.length ∧ g.2.length ≤ 3 ∧ ∀ i ∈ g.2, i < n
def NetOk (n : Nat) (gs : List Gt) : Prop := ∀ k g, gs[k]? = some g → GtOk (n + k) g
def Row01 (r : List Int) : Prop := ∀ x ∈ r, x = 0 ∨ x = 1
mutual
theorem Tk.gr {H H' : Hp} (s : Gr H H') : ∀ {v : V} {d : PyData}, Tk H v d → Tk H' v d
  | _, _, .bl b => .bl b
  | _, _, .int i => .int i
  | _, _, .str x => .str x
  | _, _, .lst h t => .lst (s.lst h) (t.gr s)
  | _, _, .tup h t => .tup (s.tup h) (t.gr s)
theorem TkAll.gr {H H' : Hp} (s : Gr H H') : ∀ {vs : List V} {ds : List PyData}, TkAll H vs ds → TkAll H' vs ds
  | _, _, .nil => .nil
  | _, _, .cons h t => .cons (h.gr s) (t.gr s)
end
theorem Tk.row_inv {H : Hp} {v : V} {r : List Int} (h : Tk H v (rowD r)) : ∃ a, v = .ref a ∧ H a = some (.tup (r.map V.int)) := by
  obtain ⟨a, xs, rfl, ha, t⟩ := h.tup_inv
  rw [t.int_inv] at ha
  exact ⟨a, rfl, ha⟩
theorem Tk.ch_inv {H : Hp} {v : V} {a b : List Int} (h : Tk H v (chD a b)) : ∃ c ra rb, v = .ref c ∧ H c = some (.tup [.ref ra, .ref rb]) ∧ H ra = some (.tup (a.map V.int)) ∧ H rb = some (.tup (b.map V.int)) := by
  obtain ⟨c, xs, rfl, hc, t⟩ := h.tup_inv
  cases t with
  | cons h1 t => cases t with
    | cons h2 t =>
      cases t
      obtain ⟨ra, rfl, ha⟩ := h1.row_inv
      obtain ⟨rb, rfl, hb⟩ := h2.row_inv
      exact ⟨c, ra, rb, rfl, hc, ha, hb⟩
theorem Tk.net_inv {H : Hp} {v : V} {m : Int} {gs : List Gt} (h : Tk H v (netD m gs)) : ∃ n g xs, v = .ref n ∧ H n = some (.tup [.int m, .ref g]) ∧ H g = some (.tup xs) ∧ TkAll H xs (gs.map gD) := by
  obtain ⟨n, xs, rfl, hn, t⟩ := h.tup_inv
  cases t with
  | cons h1 t => cases t with
    | cons h2 t =>
      cases t
      cases h1
      obtain ⟨g, ys, rfl, hg, t2⟩ := h2.tup_inv
      exact ⟨n, g, ys, rfl, hn, hg, t2⟩
theorem Tk.gt_inv {H : Hp} {v : V} {g : Gt} (h : Tk H v (gD g)) : ∃ a i, v = .ref a ∧ H a = some (.tup [.str (tabOf g.1), .ref i]) ∧ H i = some (.tup ((g.2.map Int.ofNat).map V.int)) := by
  obtain ⟨a, xs, rfl, ha, t⟩ := h.tup_inv
  cases t with
  | cons h1 t => cases t with
    | cons h2 t =>
      cases t
      cases h1
      obtain ⟨i, rfl, hi⟩ := (show Tk H _ (rowD (g.2.map Int.ofNat)) from h2).row_inv
      exact ⟨a, i, rfl, ha, hi⟩
theorem TkAll.at {H : Hp} {α : Type} {f : α → PyData} {xs : List V} {ds : List α} (t : TkAll H xs (ds.map f)) {j : Nat} {v : V} (h : xs[j]? = some v) : ∃ x, ds[j]? = some x ∧ Tk H v (f x) := by
  obtain ⟨dx, hdx, tx⟩ := t.get h
  rw [List.getElem?_map] at hdx
  cases hz : ds[j]? with
  | none => rw [hz] at hdx; cases hdx
  | some x =>
    rw [hz] at hdx
    cases Option.some.inj hdx
    exact ⟨x, rfl, tx⟩
theorem TkAll.at' {H : Hp} {α : Type} {f : α → PyData} {xs : List V} {ds : List α} (t : TkAll H xs (ds.map f)) {j : Nat} {x : α} (h : ds[j]? = some x) : ∃ v, xs[j]? = some v ∧ Tk H v (f x) := by
  have hl := t.length
  rw [List.length_map] at hl
  have hj := (List.getElem?_eq_some_iff.mp h).1
  obtain ⟨y, hy, ty⟩ := t.at (List.getElem?_eq_getElem (l := xs) (i := j) (by omega))
  cases Option.some.inj (h.symm.trans hy)
  exact ⟨_, List.getElem?_eq_getElem _, ty⟩
theorem grow_upd {H H' : Hp} {p : Addr} {o : HO} (g : Gr H H') (n : H' p = none) : Gr H (upd H' p o) := g.trans (Gr.none n)
/-- no table, no older list: only the list at D is written -/
def GrD (D : Addr) (H H' : Hp) : Prop := Gr H (hd1 D H')
theorem GrD.gr {D : Addr} {H H' : Hp} (g : GrD D H H') : Gr H H' := g.trans (Gr.of hd1_le)
theorem TabG_hd1 {D P : Addr} {H : Hp} (h : GxR.TabG H P) (n : D ≠ P) : GxR.TabG (hd1 D H) P := by
  obtain ⟨ps, e, t⟩ := h
  exact ⟨ps, by rw [hd1_at (Ne.symm n)]; exact e, t⟩
theorem GrD.new {D : Addr} {H : Hp} {o : HO} (n : H D = none) : GrD D H (upd H D o) := Gr.of (hd1_of (same_upd n) n)
theorem hd1_gr {D : Addr} {H H' : Hp} (g : Gr H H') (hD : ∀ P, GxR.TabG H P → D ≠ P) : Gr (hd1 D H) (hd1 D H') := by
  refine ⟨fun b o n e => ?_, fun b t => ?_⟩
  · have hb : b ≠ D := fun z => by
      unfold hd1 at e
      rw [if_pos z] at e; cases e
    rw [hd1_at hb] at e ⊢
    exact g.1 b o n e
  · obtain ⟨ps, e, t⟩ := t
    have e' := hd1_le _ _ e
    exact TabG_hd1 (g.2 b ⟨ps, e', t⟩) (hD b ⟨ps, e', t⟩)
theorem GrD.then {D : Addr} {H H1 H2 : Hp} {xs : List V} (a : GrD D H H1) (hD : H1 D = some (.lst xs)) (b : Gr H1 H2) : GrD D H H2 := a.trans (hd1_gr b fun P ⟨ps, e, _⟩ z => by
  rw [← z, hD] at e
  cases e)
theorem GrD.set {D : Addr} {H H1 : Hp} {o : HO} (a : GrD D H H1) : GrD D H (upd H1 D o) := a.trans (Gr.of hd1_upd)

end Gk

set_option Elab.async false
set_option linter.all false
set_option maxRecDepth 100000
set_option maxHeartbeats 1000000
namespace Gk
open PySem PySem.Spec PyProof.Rows L2
/-! ### data of tuples alone: no list that is written can harm it -/
mutual
def noL : PyData → Bool
  | .list _ => false
  | .tuple ds => noLs ds
  | _ => true
def noLs : List PyData → Bool
  | [] => true
  | d :: r => noL d && noLs r
end
def Ts (H H' : Hp) : Prop := ∀ b xs, H b = some (HO.tup xs) → H' b = some (.tup xs)
theorem Ts.refl {H : Hp} : Ts H H := fun _ _ e => e
theorem Ts.trans {H H1 H2 : Hp} (a : Ts H H1) (b : Ts H1 H2) : Ts H H2 := fun c xs e => b c xs (a c xs e)
theorem Ts.same {H H' : Hp} (s : Same H H') : Ts H H' := fun b xs e => s _ _ e
theorem Ts.gr {H H' : Hp} (s : Gr H H') : Ts H H' := fun b xs e => s.tup e
theorem Ts.new {H : Hp} {p : Addr} {o : HO} (h : H p = none) : Ts H (upd H p o) := Ts.same (same_upd h)
theorem Ts.set {H : Hp} {p : Addr} {xs ys : List V} (h : H p = some (.lst xs)) : Ts H (upd H p (.lst ys)) := fun b zs e => by
  rw [upd_ne (ne_of e h (by intro z; cases z))]
  exact e
mutual
theorem Tk.ts {H H' : Hp} (s : Ts H H') : ∀ {v : V} {d : PyData}, Tk H v d → noL d = true → Tk H' v d
  | _, _, .bl b, _ => .bl b
  | _, _, .int i, _ => .int i
  | _, _, .str x, _ => .str x
  | _, _, .lst h t, n => by cases n
  | _, _, .tup h t, n => .tup (s _ _ h) (t.ts s n)
theorem TkAll.ts {H H' : Hp} (s : Ts H H') : ∀ {vs : List V} {ds : List PyData}, TkAll H vs ds → noLs ds = true → TkAll H' vs ds
  | _, _, .nil, _ => .nil
  | _, _, .cons (d := d) (ds := ds) h t, n => by
    have n' : noL d = true ∧ noLs ds = true := Bool.and_eq_true_iff.mp n
    exact .cons (h.ts s n'.1) (t.ts s n'.2)
end
theorem noLs_map {α : Type} {f : α → PyData} (h : ∀ x, noL (f x) = true) : ∀ l : List α, noLs (l.map f) = true
  | [] => rfl
  | x :: r => by
    show (noL (f x) && noLs (r.map f)) = true
    rw [h x, noLs_map h r]
    rfl
theorem noL_row (r : List Int) : noL (rowD r) = true := noLs_map (fun _ => rfl) r
theorem noL_gate (g : Gt) : noL (gD g) = true := by
  show (true && (noLs ((g.2.map Int.ofNat).map PyData.int) && true)) = true
  rw [noLs_map (fun _ => rfl)]
  rfl
theorem noL_gates (gs : List Gt) : noLs (gs.map gD) = true := noLs_map noL_gate gs
theorem noL_net (m : Int) (gs : List Gt) : noL (netD m gs) = true := by
  show (true && (noLs (gs.map gD) && true)) = true
  rw [noL_gates]
  rfl
theorem noL_ch (a b : List Int) : noL (chD a b) = true := by
  show (noL (rowD a) && (noL (rowD b) && true)) = true
  rw [noL_row, noL_row]
  rfl

section
variable {P : Program} {w : World} {K : PySem.W.Frag} {mg : Str → Option Value} {base : Heap}
/-! ### the deck whose cells are taken from behind -/
def DeckC (H : Hp) (d l : Addr) (n : Int) : Prop := d ≠ l ∧ ∃ (cs : List Int) (y z : Int), H d = some (.lst [.ref l, .int y, .int z]) ∧ H l = some (.lst (cs.map V.int)) ∧ cs.length ≤ 63 ∧ 0 ≤ z ∧ z ≤ n
theorem DeckC.mono {H : Hp} {d l : Addr} {n m : Int} (D : DeckC H d l n) (h : n ≤ m) : DeckC H d l m := by
  obtain ⟨ne, cs, z, y, h1, h2, h3, h4, h5⟩ := D
  exact ⟨ne, cs, z, y, h1, h2, h3, h4, Int.le_trans h5 h⟩
theorem DeckC.same {H H' : Hp} {d l : Addr} {n : Int} (D : DeckC H d l n) (s : Same H H') : DeckC H' d l n := by
  obtain ⟨ne, cs, z, y, hd, hl, r⟩ := D
  exact ⟨ne, cs, z, y, s _ _ hd, s _ _ hl, r⟩
theorem DeckC.gr {H H' : Hp} {d l : Addr} {n : Int} (D : DeckC H d l n) (s : Gr H H') : DeckC H' d l n := by
  obtain ⟨ne, cs, z, y, hd, hl, r⟩ := D
  exact ⟨ne, cs, z, y, s.lst hd, s.lst hl, r⟩
theorem DeckC.upd {H : Hp} {d l p : Addr} {n : Int} {o : HO} (D : DeckC H d l n) (h1 : p ≠ d) (h2 : p ≠ l) : DeckC (upd H p o) d l n := by
  obtain ⟨ne, cs, z, y, hd, hl, r⟩ := D
  exact ⟨ne, cs, z, y, by rw [upd_ne h1.symm]; exact hd, by rw [upd_ne h2.symm]; exact hl, r⟩
theorem DeckC.off {H : Hp} {d l p : Addr} {n : Int} (D : DeckC H d l n) (h : H p = none) : p ≠ d ∧ p ≠ l := by
  obtain ⟨ne, cs, z, y, hd, hl, r⟩ := D
  exact ⟨(ne_of_none hd h).symm, (ne_of_none hl h).symm⟩
theorem Ts.frC {H H' : Hp} {d l : Addr} {n : Int} (D : DeckC H d l n) (f : Fr d l H H') : Ts H H' := fun b xs e => by
  obtain ⟨ne, cs, z, y, hd, hl, r⟩ := D
  exact f b _ (ne_of e hd (by intro z; cases z)) (ne_of e hl (by intro z; cases z)) e
theorem Fr.upd {d l p : Addr} {H H' : Hp} {o : HO} (f : Fr d l H H') (h : H p = none) : Fr d l H (upd H' p o) := fun b u h1 h2 e => by
  rw [upd_ne (ne_of_none e h)]
  exact f b u h1 h2 e
theorem tab_frC {H H' : Hp} {d l P : Addr} {n : Int} (D : DeckC H d l n) (f : Fr d l H H') (t : GxR.TabG H P) : GxR.TabG H' P := by
  obtain ⟨ps, e, tr⟩ := t
  obtain ⟨ne, cs, z, y, hd, hl, r⟩ := D
  exact ⟨ps, f _ _ (ne_of e hd (by intro z; cases z)) (ne_of e hl (by intro z; cases z)) e, tr⟩
theorem none_of_frC {d l p : Addr} {H H' : Hp} {n : Int} (f : Fr d l H H') (D : DeckC H' d l n) (h : H' p = none) : H p = none := by
  have o := D.off h
  cases z : H p with
  | none => rfl
  | some u => rw [f _ _ o.1 o.2 z] at h; cases h
theorem cut63 {ns : List Int} (h : ns.length ≤ 63) : cutV (ns.map V.int) none (some 63) = ns.map V.int := by
  unfold cutV
  have e : HT.sIx (ns.map V.int).length (ns.map V.int).length (some 63) = min 63 (ns.map V.int).length := HT.sIx_nat _ _ 63
  rw [HT.sIx_none, e, List.length_map, List.drop_zero]
  apply List.take_of_length_le
  rw [List.length_map]
  omega
theorem sq_same {K : PySem.W.Frag} {H H' : Hp} {a : Addr} {xs : List V} (s : Same H H') (h : SqL K H a xs) : SqL K H' a xs := h.imp (fun r => r.imp (fun e => s _ _ e) (fun ⟨ob, e⟩ => ⟨ob, s _ _ e⟩)) id
def sp_deck (K : PySem.W.Frag) : Sp := fun vs H Q _ => ∃ (a : Addr) (ns : List Int), vs = [.ref a] ∧ SqL K H a (ns.map V.int) ∧ ns.length ≤ 63 ∧ ∀ H' d l, Same H H' → DeckC H' d l 0 → Q (.ref d) H'
theorem ok_deck (T : Tx K mg) : FnOk P w K mg base CX0 1 T.f_deck T.fd_deck ["_law_script"] (sp_deck K) := by
  refine T.F_deck.ok sc_deck (fun vs H Q E h => ?_) (fun cdv A outer s H vs Q E hr h => ?_)
  · obtain ⟨a, ns, rfl, _⟩ := h
    rfl
  · obtain ⟨a, ns, rfl, hS, hlen, q⟩ := h
    refine ⟨_, (pss_one (ps_ret (pe_lst (pa_cons (RevL.pe_lstRev rfl (by rfl) T.m_list (by rfl) T.m_reversed (pe_slice sl_list (pv 0) po_none (po_some pe_int))) (pa_cons (pe_op op_add (pe_callB (cr_sum rfl) (by rfl) T.m_sum (by decide +kernel) (pa_cons (pe_slice sl_list (pv 0) po_none (po_some pe_int)) pa_nil)) (pe_callB call_len_seq (by rfl) T.m_len PySem.boot_len (pa_cons (pe_slice sl_list (pv 0) po_none (po_some pe_int)) pa_nil))) (pa_cons pe_int pa_nil)))))), ?_⟩
    refine ⟨.ref a, rfl, 63, rfl, a, _, rfl, hS, fun c1 n1 => ?_⟩
    rw [cut63 hlen]
    have s1 := same_upd (o := HO.lst (ns.map V.int)) n1
    refine ⟨c1, _, rfl, SqL.of upd_same, fun l nl => ?_⟩
    have s2 := same_upd (o := HO.lst (ns.map V.int).reverse) nl
    refine ⟨.ref a, rfl, 63, rfl, a, _, rfl, sq_same (s1.trans s2) hS, fun c3 n3 => ?_⟩
    rw [cut63 hlen]
    have s3 := same_upd (o := HO.lst (ns.map V.int)) n3
    refine ⟨c3, ns, rfl, SqL.of upd_same, .ref a, rfl, 63, rfl, a, _, rfl, sq_same ((s1.trans s2).trans s3) hS, fun c4 n4 => ?_⟩
    rw [cut63 hlen]
    have s4 := same_upd (o := HO.lst (ns.map V.int)) n4
    refine ⟨c4, _, rfl, .inl (SqL.of upd_same), _, _, rfl, rfl, sl3, fun d nd => ?_⟩
    have s5 := same_upd (o := HO.lst [V.ref l, V.int (ns.sum + ((ns.map V.int).length : Nat)), V.int 0]) nd
    have hl4 := s4 _ _ (s3 _ _ (show (upd (upd H c1 (.lst (ns.map V.int))) l (.lst (ns.map V.int).reverse)) l = _ from upd_same))
    refine q _ d l ((((s1.trans s2).trans s3).trans s4).trans s5) ⟨(ne_of_none hl4 nd).symm, ns.reverse, _, 0, upd_same, ?_, by rw [List.length_reverse]; exact hlen, Int.le_refl _, Int.le_refl _⟩
    rw [List.map_reverse]
    exact s5 _ _ hl4
def sp_mixed (K : PySem.W.Frag) : Sp := fun vs H Q _ => ∃ c k : Int, vs = [.int c, .int k] ∧ 0 ≤ k ∧ k < 2000000000 ∧ ∀ v, 0 ≤ v → Q (.int v) H
theorem ok_mixed (T : Tx K mg) : FnOk P w K mg base CX0 1 T.f_mixed T.fd_mixed ["_law_cell", "_law_k"] (sp_mixed K) := by
  refine T.F_mixed.ok sc_mixed (fun vs H Q E h => ?_) (fun cdv A outer s H vs Q E hr h => ?_)
  · obtain ⟨c, k, rfl, _⟩ := h
    rfl
  · obtain ⟨c, k, rfl, k0, k1, q⟩ := h
    refine ⟨_, (pss_cons (ps_set (i := 2) sc_mixed.nd rfl (by first | exact .inl rfl | exact .inr rfl) (pe_op op_mod (pe_op op_mul (pe_op op_add (pe_op op_add (pe_op op_mod (pv 0) pe_int) (pe_op op_mul pe_int (pv 1))) pe_int) pe_int) pe_int)) (pss_cons (ps_set (i := 2) sc_mixed.nd rfl (by first | exact .inl rfl | exact .inr rfl) (pe_op op_mod (pe_op op_add (pe_op op_add (pe_op op_mul (pv 2) (pv 2)) (pe_op op_mul pe_int (pv 1))) pe_int) pe_int)) (pss_one (ps_ret (pe_op op_add (pe_op op_mul (pv 2) pe_int) (pe_op op_mod (pe_op op_add (pe_op op_add (pe_op op_mul (pv 2) (pv 2)) (pe_op op_mul pe_int (pv 2))) (pv 1)) pe_int)))))), ?_⟩
    refine ⟨.int c, rfl, _, _, rfl, rfl, p29, .int k, rfl, 7919, k, rfl, rfl, .inl ⟨by decide, by decide⟩, _, _, rfl, rfl, _, _, rfl, rfl, _, 48271, rfl, rfl, .inr ⟨by decide, by decide⟩, _, _, rfl, rfl, p47, ?_⟩
    dsimp only
    have v0 := Int.emod_nonneg ((c % 2147483629 + 7919 * k + 1) * 48271) (show (2147483647 : Int) ≠ 0 by decide)
    have v1 := Int.emod_lt_of_pos ((c % 2147483629 + 7919 * k + 1) * 48271) (show (0 : Int) < 2147483647 by decide)
    revert v0 v1
    generalize ((c % 2147483629 + 7919 * k + 1) * 48271) % 2147483647 = v
    intro v0 v1
    refine ⟨.int v, rfl, .int v, rfl, v, v, rfl, rfl, .inl ⟨by omega, by omega⟩, .int k, rfl, 69621, k, rfl, rfl, .inl ⟨by decide, by decide⟩, _, _, rfl, rfl, _, _, rfl, rfl, _, _, rfl, rfl, p87, ?_⟩
    dsimp only
    have u0 := Int.emod_nonneg (v * v + 69621 * k + 7) (show (2147483587 : Int) ≠ 0 by decide)
    have u1 := Int.emod_lt_of_pos (v * v + 69621 * k + 7) (show (0 : Int) < 2147483587 by decide)
    revert u0 u1
    generalize (v * v + 69621 * k + 7) % 2147483587 = u
    intro u0 u1
    refine ⟨.int u, rfl, u, 2147483563, rfl, rfl, .inl ⟨by omega, by omega⟩, .int u, rfl, .int u, rfl, u, u, rfl, rfl, .inl ⟨by omega, by omega⟩, .int u, rfl, 16807, u, rfl, rfl, .inl ⟨by decide, by decide⟩, _, _, rfl, rfl, .int k, rfl, _, _, rfl, rfl, _, _, rfl, rfl, (show (0 : Int) < 2147483563 by decide), _, _, rfl, rfl, ?_⟩
    refine q _ ?_
    have a := Int.emod_nonneg (u * u + 16807 * u + k) (show (2147483563 : Int) ≠ 0 by decide)
    have b : 0 ≤ u * 2147483563 := by omega
    omega
def sp_take (K : PySem.W.Frag) : Sp := fun vs H Q _ => ∃ (d l : Addr) (m n : Int), vs = [.ref d, .int m] ∧ DeckC H d l n ∧ n < 1000000000 ∧ 0 < m ∧ m < 1073741824 ∧ ∀ H' v, DeckC H' d l (n + 1) → Fr d l H H' → 0 ≤ v → v < m → Q (.int v) H'
theorem ok_take (T : Tx K mg) : FnOk P w K mg base CX0 2 T.f_take T.fd_take ["_law_deck_here", "_law_most"] (sp_take K) := by
  refine T.F_take.ok sc_take (fun vs H Q E h => ?_) (fun cdv A outer s H vs Q E hr h => ?_)
  · obtain ⟨d, l, m, n, rfl, _⟩ := h
    rfl
  · obtain ⟨d, l, m, n, rfl, D, hn, hm0, hm1, q⟩ := h
    obtain ⟨ne, cs, y, z, hd, hl, hcs, hz0, hz1⟩ := D
    refine ⟨_, (pss_cons (ps_set (i := 2) sc_take.nd rfl (by first | exact .inl rfl | exact .inr rfl) (pe_ix ix_list (pv 0) pe_int (fun _ _ => rfl))) (pss_cons (ps_asg (pe_op op_add (pe_ix ix_list (pv 0) pe_int (fun _ _ => rfl)) pe_int) (pg_sub (pv 0) pe_int set_list)) (pss_cons (ps_if (pt_cmpR (op_eqD hr.units) (pv 2) (pe_lst pa_nil) (nomark _)) (pss_one (ps_ret (pe_op op_mod (pe_call (ok_mixed T) (hr.mono (by decide)) (by rfl) T.g_mixed T.F_mixed.kp T.b_mixed .nil pass0 (pa_cons (pe_ix ix_list (pv 0) pe_int (fun _ _ => rfl)) (pa_cons (pe_ix ix_list (pv 0) pe_int (fun _ _ => rfl)) pa_nil))) (pv 1)))) pss_nil) (pss_cons (ps_set (i := 3) sc_take.nd rfl (by first | exact .inl rfl | exact .inr rfl) (pe_bm0 PySem.F.plainAttrs_list PySem.F.slot_list_pop PySem.F.type_list_pop mt_pop (pv 2))) (pss_cons (ps_if (pt_cmpR op_lt (pv 3) (pe_op op_pow pe_int pe_int) (nomark _)) (pss_one (ps_ret (pe_op op_mod (pe_call (ok_mixed T) (hr.mono (by decide)) (by rfl) T.g_mixed T.F_mixed.kp T.b_mixed .nil pass0 (pa_cons (pv 3) (pa_cons (pe_ix ix_list (pv 0) pe_int (fun _ _ => rfl)) pa_nil))) (pv 1)))) pss_nil) (C8.pss_cut (ps_if (pt_cmpR op_gt (pe_op op_fdiv (pv 3) (pv 1)) pe_int (nomark _)) (pss_one (ps_expr (pe_bm PySem.F.plainAttrs_list PySem.F.slot_list_append PySem.F.type_list_append mt_append (pv 2) (pa_cons (pe_op op_fdiv (pv 3) (pv 1)) pa_nil)))) pss_nil) (pss_one (ps_ret (pe_op op_mod (pv 3) (pv 1)))))))))), ?_⟩
    refine ⟨.ref d, rfl, d, _, 0, .ref l, rfl, rfl, SqL.of hd, rfl, ?_⟩
    refine ⟨.ref d, rfl, d, _, 2, .int z, rfl, rfl, SqL.of hd, rfl, z, 1, rfl, rfl, .ref d, rfl, d, _, 2, 2, rfl, rfl, hd, rfl, ?_⟩
    have hd1 : (upd H d (.lst [.ref l, .int y, .int (z + 1)])) d = some (.lst [.ref l, .int y, .int (z + 1)]) := upd_same
    have hl1 : (upd H d (.lst [.ref l, .int y, .int (z + 1)])) l = some (.lst (cs.map V.int)) := by rw [upd_ne ne.symm]; exact hl
    have fr1 : Fr d l H (upd H d (.lst [.ref l, .int y, .int (z + 1)])) := Fr.d
    have hz2 : 0 ≤ z + 1 := by omega
    have hz3 : z + 1 ≤ n + 1 := by omega
    have hz4 : z + 1 < 2000000000 := by omega
    show tSeq _ _ _ _ (upd H d (.lst [.ref l, .int y, .int (z + 1)]))
    revert hd1 hl1 fr1 hz2 hz3 hz4
    generalize upd H d (.lst [.ref l, .int y, .int (z + 1)]) = H1
    generalize z + 1 = z'
    intro hd1 hl1 fr1 hz2 hz3 hz4
    refine ⟨.ref l, rfl, Nat.zero_le _, fun p np => ?_⟩
    have fr2 : Fr d l H (upd H1 p (.lst [])) := fr1.trans (Fr.new np)
    have hd2 : (upd H1 p (.lst [])) d = some (.lst [.ref l, .int y, .int z']) := same_upd np _ _ hd1
    have hl2 : (upd H1 p (.lst [])) l = some (.lst (cs.map V.int)) := same_upd np _ _ hl1
    refine ⟨.list (cs.map .int), .list [], .lst (SqL.of hl2) (dpInts cs), .lst (SqL.of upd_same) .nil, shInts cs, rfl, _, rfl, ?_⟩
    revert fr2 hd2 hl2
    generalize upd H1 p (.lst []) = H2
    intro fr2 hd2 hl2
    by_cases hc : cs = []
    · subst hc
      refine iteT ?_
      refine ⟨.ref d, rfl, d, _, 1, .int y, rfl, rfl, SqL.of hd2, rfl, .ref d, rfl, d, _, 2, .int z', rfl, rfl, SqL.of hd2, rfl, y, z', rfl, hz2, hz4, fun v v0 => ⟨.int m, rfl, _, _, rfl, rfl, hm0, ?_⟩⟩
      exact q _ _ ⟨ne, [], y, z', hd2, hl2, hcs, hz2, hz3⟩ fr2 (Int.emod_nonneg _ (by omega)) (Int.emod_lt_of_pos _ hm0)
    · obtain ⟨r, c, rfl⟩ : ∃ r c, cs = r ++ [c] := ⟨cs.dropLast, cs.getLast hc, (List.dropLast_concat_getLast hc).symm⟩
      have en : PyData.eqv (.list ((r ++ [c]).map PyData.int)) (.list []) = false := by
        cases r <;> rfl
      rw [en]
      refine iteF ?_
      have la : ((r ++ [c]).map V.int)[((r ++ [c]).map V.int).length - 1]? = some (.int c) := by simp
      refine ⟨.ref l, rfl, .inl ⟨rfl, _, SqL.of hl2⟩, l, _, .int c, rfl, rfl, hl2, la, ?_⟩
      have dl : ((r ++ [c]).map V.int).dropLast = r.map V.int := by rw [List.map_append]; exact List.dropLast_concat
      rw [dl]
      have hd3 : (upd H2 l (.lst (r.map V.int))) d = some (.lst [.ref l, .int y, .int z']) := by rw [upd_ne ne]; exact hd2
      have hl3 : (upd H2 l (.lst (r.map V.int))) l = some (.lst (r.map V.int)) := upd_same
      have fr3 : Fr d l H (upd H2 l (.lst (r.map V.int))) := fr2.trans Fr.l
      have hr63 : r.length + 1 ≤ 63 := by rw [List.length_append] at hcs; exact hcs
      revert hd3 hl3 fr3
      generalize upd H2 l (.lst (r.map V.int)) = H3
      intro hd3 hl3 fr3
      refine ⟨.int c, rfl, _, _, rfl, rfl, ⟨by decide, by decide, by decide⟩, _, _, rfl, rfl, _, rfl, ite2 (fun _ => ?_) (fun _ => ?_)⟩
      · refine ⟨.int c, rfl, .ref d, rfl, d, _, 2, .int z', rfl, rfl, SqL.of hd3, rfl, c, z', rfl, hz2, hz4, fun v v0 => ⟨.int m, rfl, _, _, rfl, rfl, hm0, ?_⟩⟩
        exact q _ _ ⟨ne, r, y, z', hd3, hl3, by omega, hz2, hz3⟩ fr3 (Int.emod_nonneg _ (by omega)) (Int.emod_lt_of_pos _ hm0)
      · refine ⟨fun σ H' => σ = [some (.ref d), some (.int m), some (.ref l), some (.int c)] ∧ ∃ cs : List Int, cs.length ≤ 63 ∧ H' d = some (.lst [.ref l, .int y, .int z']) ∧ H' l = some (.lst (cs.map V.int)) ∧ Fr d l H H', ?_, ?_⟩
        · refine ⟨.int c, rfl, .int m, rfl, _, _, rfl, rfl, ⟨hm0, hm1⟩, _, _, rfl, rfl, _, rfl, ite2 (fun _ => ?_) (fun _ => ?_)⟩
          · refine ⟨.ref l, rfl, .inl ⟨rfl, _, SqL.of hl3⟩, .int c, rfl, .int m, rfl, _, _, rfl, rfl, ⟨hm0, hm1⟩, l, _, _, rfl, rfl, hl3, ?_, ?_⟩
            · rw [List.length_map]
              exact Nat.lt_of_lt_of_le (show r.length < 64 by omega) (by decide)
            · refine ⟨rfl, r ++ [c / m], by rw [List.length_append]; exact hr63, by rw [upd_ne ne]; exact hd3, ?_, fr3.trans Fr.l⟩
              rw [upd_same, List.map_append]
              rfl
          · exact ⟨rfl, r, by omega, hd3, hl3, fr3⟩
        · rintro σ H4 ⟨rfl, cs4, l4, hd4, hl4, fr4⟩
          refine ⟨.int c, rfl, .int m, rfl, _, _, rfl, rfl, hm0, ?_⟩
          exact q _ _ ⟨ne, cs4, y, z', hd4, hl4, l4, hz2, hz3⟩ fr4 (Int.emod_nonneg _ (by omega)) (Int.emod_lt_of_pos _ hm0)

end
section
variable {P : Program} {w : World} {K : PySem.W.Frag} {mg : Str → Option Value} {base : Heap}
/-- the six classes -/
def six (T : Tx K mg) : List Addr := [T.C_NoText, T.C_TooMany, T.C_NotFormula, T.C_NoTurn, T.C_NoForms, T.C_NoRow]
def one6 (i : Nat) : List Bool := [i == 0, i == 1, i == 2, i == 3, i == 4, i == 5]
/-- the exception in hand, of the i-th class -/
def Xc (T : Tx K mg) (base : Heap) (H : Hp) (a : Addr) (i : Nat) : Prop := ∃ (D : Addr) (oe : Obj), (six T)[i]? = some D ∧ GxE.Seen base H a oe ∧ Zc (.ref D) none oe ∧ ∃ us, oe.data = .fields us
theorem Xc.same {T : Tx K mg} {base : Heap} {H H' : Hp} {a : Addr} {i : Nat} (h : Xc T base H a i) (s : Same H H') : Xc T base H' a i := by
  obtain ⟨D, oe, h1, h2, h3⟩ := h
  exact ⟨D, oe, h1, h2.same s, h3⟩
theorem kit6 (T : Tx K mg) {D : Addr} {i : Nat} (hi : i < 6) (h : (six T)[i]? = some D) : ExcC K D ∧ PySem.W.kitOne K (.ref D) (.ref T.C_NoText) = some (i == 0) ∧ PySem.W.kitOne K (.ref D) (.ref T.C_TooMany) = some (i == 1) ∧ PySem.W.kitOne K (.ref D) (.ref T.C_NotFormula) = some (i == 2) ∧ PySem.W.kitOne K (.ref D) (.ref T.C_NoTurn) = some (i == 3) ∧ PySem.W.kitOne K (.ref D) (.ref T.C_NoForms) = some (i == 4) ∧ PySem.W.kitOne K (.ref D) (.ref T.C_NoRow) = some (i == 5) ∧ PySem.W.kitOne K (.ref D) (.type "ValueError") = some true ∧ PySem.W.kitOne K (.ref D) (.ref T.C_NetError) = some true ∧ PySem.W.exmOne K (.ref D) (.ref T.C_NetError) = some true := by
  have : i = 0 ∨ i = 1 ∨ i = 2 ∨ i = 3 ∨ i = 4 ∨ i = 5 := by omega
  rcases this with rfl | rfl | rfl | rfl | rfl | rfl
  · cases Option.some.inj h; exact ⟨T.X_NoText, T.t_NoText_NoText, T.t_NoText_TooMany, T.t_NoText_NotFormula, T.t_NoText_NoTurn, T.t_NoText_NoForms, T.t_NoText_NoRow, T.v_NoText, T.t_NoText_NetError, T.x_NoText_NetError⟩
  · cases Option.some.inj h; exact ⟨T.X_TooMany, T.t_TooMany_NoText, T.t_TooMany_TooMany, T.t_TooMany_NotFormula, T.t_TooMany_NoTurn, T.t_TooMany_NoForms, T.t_TooMany_NoRow, T.v_TooMany, T.t_TooMany_NetError, T.x_TooMany_NetError⟩
  · cases Option.some.inj h; exact ⟨T.X_NotFormula, T.t_NotFormula_NoText, T.t_NotFormula_TooMany, T.t_NotFormula_NotFormula, T.t_NotFormula_NoTurn, T.t_NotFormula_NoForms, T.t_NotFormula_NoRow, T.v_NotFormula, T.t_NotFormula_NetError, T.x_NotFormula_NetError⟩
  · cases Option.some.inj h; exact ⟨T.X_NoTurn, T.t_NoTurn_NoText, T.t_NoTurn_TooMany, T.t_NoTurn_NotFormula, T.t_NoTurn_NoTurn, T.t_NoTurn_NoForms, T.t_NoTurn_NoRow, T.v_NoTurn, T.t_NoTurn_NetError, T.x_NoTurn_NetError⟩
  · cases Option.some.inj h; exact ⟨T.X_NoForms, T.t_NoForms_NoText, T.t_NoForms_TooMany, T.t_NoForms_NotFormula, T.t_NoForms_NoTurn, T.t_NoForms_NoForms, T.t_NoForms_NoRow, T.v_NoForms, T.t_NoForms_NetError, T.x_NoForms_NetError⟩
  · cases Option.some.inj h; exact ⟨T.X_NoRow, T.t_NoRow_NoText, T.t_NoRow_TooMany, T.t_NoRow_NotFormula, T.t_NoRow_NoTurn, T.t_NoRow_NoForms, T.t_NoRow_NoRow, T.v_NoRow, T.t_NoRow_NetError, T.x_NoRow_NetError⟩
def sp_kinds (T : Tx K mg) (base : Heap) : Sp := fun vs H Q _ => ∃ (a : Addr) (i : Nat), vs = [.ref a] ∧ i < 6 ∧ Xc T base H a i ∧ ∀ H' p, Same H H' → H' p = some (.lst ((one6 i).map V.bl)) → Q (.ref p) H'
theorem ok_kinds (T : Tx K mg) : GxE.FnR P w K mg base 1 T.f_kinds T.fd_kinds ["_law_error"] (sp_kinds T base) := by
  refine GxE.okR T.F_kinds sc_kinds (fun vs H Q E h => ?_) (fun cdv A outer s H vs Q p hr h => ?_)
  · obtain ⟨a, i, rfl, _⟩ := h
    rfl
  · obtain ⟨a, i, rfl, hi, xc, q⟩ := h
    refine ⟨_, (pss_cons (ps_set (i := 1) sc_kinds.nd rfl (by first | exact .inl rfl | exact .inr rfl) (pe_lst (pa_cons (pe_callB GxE.call_isX (by rfl) T.m_isinstance (by decide +kernel) (pa_cons (pv 0) (pa_cons (pe_glob (v := .ref T.C_NoText) (by rfl) T.gC_NoText rfl) pa_nil))) (pa_cons (pe_callB GxE.call_isX (by rfl) T.m_isinstance (by decide +kernel) (pa_cons (pv 0) (pa_cons (pe_glob (v := .ref T.C_TooMany) (by rfl) T.gC_TooMany rfl) pa_nil))) (pa_cons (pe_callB GxE.call_isX (by rfl) T.m_isinstance (by decide +kernel) (pa_cons (pv 0) (pa_cons (pe_glob (v := .ref T.C_NotFormula) (by rfl) T.gC_NotFormula rfl) pa_nil))) pa_nil))))) (pss_one (ps_ret (pe_op op_cat (pv 1) (pe_lst (pa_cons (pe_callB GxE.call_isX (by rfl) T.m_isinstance (by decide +kernel) (pa_cons (pv 0) (pa_cons (pe_glob (v := .ref T.C_NoTurn) (by rfl) T.gC_NoTurn rfl) pa_nil))) (pa_cons (pe_callB GxE.call_isX (by rfl) T.m_isinstance (by decide +kernel) (pa_cons (pv 0) (pa_cons (pe_glob (v := .ref T.C_NoForms) (by rfl) T.gC_NoForms rfl) pa_nil))) (pa_cons (pe_callB GxE.call_isX (by rfl) T.m_isinstance (by decide +kernel) (pa_cons (pv 0) (pa_cons (pe_glob (v := .ref T.C_NoRow) (by rfl) T.gC_NoRow rfl) pa_nil))) pa_nil)))))))), ?_⟩
    obtain ⟨D, oe, hD, seen, hz, hf⟩ := xc
    obtain ⟨X, k0, k1, k2, k3, k4, k5, kv, kn, _⟩ := kit6 T hi hD
    refine ⟨.ref a, rfl, a, D, oe, _, _, _, rfl, seen, hz, hf, X, .own _, k0, .ref a, rfl, a, D, oe, _, _, _, rfl, seen, hz, hf, X, .own _, k1, .ref a, rfl, a, D, oe, _, _, _, rfl, seen, hz, hf, X, .own _, k2, sl3, fun p1 n1 => ?_⟩
    have s1 := same_upd (o := .lst [.bl (i == 0), .bl (i == 1), .bl (i == 2)]) n1
    have h1 := upd_same (H := H) (a := p1) (o := .lst [.bl (i == 0), .bl (i == 1), .bl (i == 2)])
    generalize upd H p1 (.lst [.bl (i == 0), .bl (i == 1), .bl (i == 2)]) = H1 at s1 h1 ⊢
    have seen1 := seen.same s1
    refine ⟨.ref p1, rfl, .ref a, rfl, a, D, oe, _, _, _, rfl, seen1, hz, hf, X, .own _, k3, .ref a, rfl, a, D, oe, _, _, _, rfl, seen1, hz, hf, X, .own _, k4, .ref a, rfl, a, D, oe, _, _, _, rfl, seen1, hz, hf, X, .own _, k5, sl3, fun p2 n2 => ?_⟩
    have s2 := same_upd (o := .lst [.bl (i == 3), .bl (i == 4), .bl (i == 5)]) n2
    refine ⟨p1, p2, _, _, rfl, rfl, s2 _ _ h1, upd_same, by show 6 ≤ sizeLine; decide, fun p3 n3 => ?_⟩
    exact q _ p3 ((s1.trans s2).trans (same_upd n3)) upd_same
def sp_refused (T : Tx K mg) (base : Heap) : Sp := fun vs H Q _ => ∃ (a : Addr) (i : Nat), vs = [.ref a] ∧ i < 6 ∧ Xc T base H a i ∧ ∀ H', Same H H' → Q (.bl (i == 0)) H'
theorem ok_refused (T : Tx K mg) : GxE.FnR P w K mg base 2 T.f_refused T.fd_refused ["_law_error"] (sp_refused T base) := by
  refine GxE.okR T.F_refused sc_refused (fun vs H Q E h => ?_) (fun cdv A outer s H vs Q p hr h => ?_)
  · obtain ⟨a, i, rfl, _⟩ := h
    rfl
  · obtain ⟨a, i, rfl, hi, xc, q⟩ := h
    refine ⟨_, (pss_cons (ps_if (pw_or (pt_not (pt_val (pe_callB GxE.call_isX (by rfl) T.m_isinstance (by decide +kernel) (pa_cons (pv 0) (pa_cons (pe_glob (v := .ref T.C_NetError) (by rfl) T.gC_NetError rfl) pa_nil))))) (pw_or1 (pt_not (pt_val (pe_callB GxE.call_isX (by rfl) T.m_isinstance (by decide +kernel) (pa_cons (pv 0) (pa_cons (pe_bltn (v := .ty "ValueError") (u := .type "ValueError") (by rfl) T.m_ValueError (by decide +kernel) rfl) pa_nil))))))).pt (pss_one (ps_ret pe_bl)) pss_nil) (pss_one (ps_ret (pe_cmpR (op_eqD (GxE.unH hr)) (GxE.pe_callR (ok_kinds T) (hr.mono (by decide)) (by rfl) T.g_kinds T.F_kinds.kp T.b_kinds (pa_cons (pv 0) pa_nil)) (pe_op op_cat (pe_lst (pa_cons pe_bl pa_nil)) (pe_op op_rep (pe_lst (pa_cons pe_bl pa_nil)) pe_int)) (nomark _))))), ?_⟩
    have xc0 := xc
    obtain ⟨D, oe, hD, seen, hz, hf⟩ := xc
    obtain ⟨X, k0, k1, k2, k3, k4, k5, kv, kn, _⟩ := kit6 T hi hD
    refine ⟨.ref a, rfl, a, D, oe, _, _, true, rfl, seen, hz, hf, X, .own _, kn, true, rfl, iteF ?_⟩
    refine ⟨.ref a, rfl, a, D, oe, _, _, true, rfl, seen, hz, hf, X, .ty _, kv, true, rfl, iteF ?_⟩
    refine ⟨.ref a, rfl, a, i, rfl, hi, xc0, fun H1 p1 s1 h1 => ?_⟩
    refine ⟨sl1, fun p2 n2 => ⟨sl1, fun p3 n3 => ?_⟩⟩
    have s2 := same_upd (o := .lst [.bl true]) n2
    have s3 := same_upd (o := .lst [.bl false]) n3
    refine ⟨p3, 5, _, rfl, rfl, upd_same, by decide, by decide, by show 1 * 5 ≤ sizeLine; decide, fun p4 n4 => ?_⟩
    have s4 := same_upd (o := .lst (List.replicate (5 : Int).toNat [V.bl false]).flatten) n4
    refine ⟨p2, p4, _, _, rfl, rfl, s4 _ _ (s3 _ _ upd_same), upd_same, by show 1 + 5 ≤ sizeLine; decide, fun p5 n5 => ?_⟩
    have s5 := same_upd (o := .lst ([V.bl true] ++ (List.replicate (5 : Int).toNat [V.bl false]).flatten)) n5
    have h15 := s5 _ _ (s4 _ _ (s3 _ _ (s2 _ _ h1)))
    refine ⟨.list ((one6 i).map .bool), .list [.bool true, .bool false, .bool false, .bool false, .bool false, .bool false], .lst (SqL.of h15) (.cons (.bl _) (.cons (.bl _) (.cons (.bl _) (.cons (.bl _) (.cons (.bl _) (.cons (.bl _) .nil)))))), .lst (SqL.of upd_same) (.cons (.bl _) (.cons (.bl _) (.cons (.bl _) (.cons (.bl _) (.cons (.bl _) (.cons (.bl _) .nil)))))), rfl, rfl, ?_⟩
    have q := q _ ((((s1.trans s2).trans s3).trans s4).trans s5)
    have : i = 0 ∨ i = 1 ∨ i = 2 ∨ i = 3 ∨ i = 4 ∨ i = 5 := by omega
    rcases this with rfl | rfl | rfl | rfl | rfl | rfl <;> exact q
end
end Gk

set_option Elab.async false
set_option linter.all false
set_option maxRecDepth 100000
set_option maxHeartbeats 1000000
namespace Gk
open PySem PySem.Spec PyProof.Rows L2
/-! ### texts of changes -/
theorem spl_ne (S : List Nat) : ∀ (l : List Nat) (k : Nat) (acc : List Nat), TL.spl S k acc l ≠ []
  | [], k, acc => by rw [TL.spl_nil]; simp
  | c :: r, 0, acc => by
    unfold TL.spl
    split
    · simp
    · exact spl_ne S r 0 _
  | _ :: r, k + 1, acc => by
    unfold TL.spl
    exact spl_ne S r k acc
theorem joinL_cons {S p : List Nat} {l : List (List Nat)} (h : l ≠ []) : TL.joinL S (p :: l) = p ++ (S ++ TL.joinL S l) := by
  cases l with
  | nil => exact absurd rfl h
  | cons q r => rfl
theorem join_spl {S : List Nat} (hS : S ≠ []) : ∀ (l : List Nat) (k : Nat) (acc : List Nat), TL.joinL S (TL.spl S k acc l) = acc ++ l.drop k
  | [], k, acc => by rw [TL.spl_nil, List.drop_nil, List.append_nil]; rfl
  | c :: r, 0, acc => by
    unfold TL.spl
    split
    · rename_i h
      rw [joinL_cons (spl_ne S _ _ _), join_spl hS r, List.nil_append, List.drop_zero]
      have e : (c :: r).take S.length = S := by
        have := h
        unfold TL.pre at this
        exact eq_of_beq this
      have : c :: r = S ++ (c :: r).drop S.length := by
        rw [← e, List.length_take]
        conv => lhs; rw [← List.take_append_drop S.length (c :: r)]
        rw [e]
        congr 1
        have hl : S.length ≤ (c :: r).length := by
          have := congrArg List.length e
          rw [List.length_take] at this
          omega
        rw [Nat.min_eq_left hl]
      have hd : (c :: r).drop S.length = r.drop (S.length - 1) := by
        obtain ⟨n, hn⟩ : ∃ n, S.length = n + 1 := ⟨S.length - 1, by have := List.length_pos_iff.mpr hS; omega⟩
        rw [hn]
        rfl
      rw [hd] at this
      rw [this]
    · rw [join_spl hS r 0, List.drop_zero, List.append_assoc]
      rfl
  | _ :: r, k + 1, acc => by
    unfold TL.spl
    rw [join_spl hS r k]
    rfl
def to4 : List Nat := [32, 116, 111, 32]
theorem to4_S : Str.ofString " to " = SX.S to4 := by decide +kernel
def bit (c : Nat) : Bool := c == 48 || c == 49
/-- the two rows of signs that a text writes -/
def chL (m : Nat) (l : List Nat) : Option (List Nat × List Nat) :=
  if l.length = 2 * m + 4 ∧ (l.drop m).take 4 = to4 ∧ (l.take m).all bit = true ∧ (l.drop (m + 4)).all bit = true then some (l.take m, l.drop (m + 4)) else none
theorem chL_some {m : Nat} {l a b : List Nat} (h : chL m l = some (a, b)) : a.length = m ∧ b.length = m ∧ a.all bit = true ∧ b.all bit = true ∧ l = a ++ (to4 ++ b) := by
  unfold chL at h
  split at h
  · rename_i c
    obtain ⟨c1, c2, c3, c4⟩ := c
    cases Option.some.inj h
    refine ⟨by rw [List.length_take]; omega, by rw [List.length_drop]; omega, c3, c4, ?_⟩
    rw [← c2, ← List.drop_drop, List.take_append_drop, List.take_append_drop]
  · cases h
theorem chL_of {m : Nat} {a b : List Nat} (ha : a.length = m) (hb : b.length = m) (a1 : a.all bit = true) (b1 : b.all bit = true) : chL m (a ++ (to4 ++ b)) = some (a, b) := by
  unfold chL
  have e1 : (a ++ (to4 ++ b)).take m = a := by rw [← ha, List.take_left]
  have e2 : (a ++ (to4 ++ b)).drop m = to4 ++ b := by rw [← ha, List.drop_left]
  have e3 : (a ++ (to4 ++ b)).drop (m + 4) = b := by rw [← List.drop_drop, e2]; rfl
  rw [e1, e2, e3, if_pos]
  refine ⟨?_, rfl, a1, b1⟩
  rw [List.length_append, List.length_append, ha, hb]
  show m + (4 + m) = _
  omega
theorem no32 {a : List Nat} (h : a.all bit = true) : 32 ∉ a := fun z => by
  have := List.all_eq_true.mp h 32 z
  cases this
theorem split_to (z : Str) : TL.joinL to4 ((Txt.split z (SX.S to4)).map TL.tl) = TL.tl z := by
  rw [TL.split_spl z (SX.S to4) (by show to4 ≠ []; decide) (TL.kind_ok (by decide +kernel))]
  show TL.joinL to4 (TL.spl to4 0 [] (TL.tl z)) = _
  rw [join_spl (by decide)]
  rfl
/-- the text split at ' to ' -/
theorem split_yes {m : Nat} {l a b : List Nat} (h : chL m l = some (a, b)) : Txt.split (SX.S l) (SX.S to4) = [SX.S a, SX.S b] := by
  obtain ⟨_, _, a1, b1, rfl⟩ := chL_some h
  refine TL.map_tl_inj ?_
  rw [TL.split_spl _ (SX.S to4) (by show to4 ≠ []; decide) (TL.kind_ok (by decide +kernel))]
  show TL.spl (32 :: [116, 111, 32]) 0 [] (TL.joinL (32 :: [116, 111, 32]) [a, b]) = [a, b]
  refine TL.spl_join (by simp) fun p hp => ?_
  rcases List.mem_cons.mp hp with rfl | hp
  · exact no32 a1
  · rw [List.mem_singleton.mp hp]
    exact no32 b1
theorem split_no {m : Nat} {l : List Nat} (h : chL m l = none) {x y : Str} (e : Txt.split (SX.S l) (SX.S to4) = [x, y]) : ¬ ((x.length = m ∧ (TL.tl x).all bit = true) ∧ (y.length = m ∧ (TL.tl y).all bit = true)) := by
  rintro ⟨⟨x1, x2⟩, ⟨y1, y2⟩⟩
  have j := split_to (SX.S l)
  rw [e] at j
  have j : TL.tl x ++ (to4 ++ TL.tl y) = l := j
  have := chL_of (m := m) (a := TL.tl x) (b := TL.tl y) (by rw [← x1]; simp [TL.tl, Str.length]) (by rw [← y1]; simp [TL.tl, Str.length]) x2 y2
  rw [j, h] at this
  cases this
end Gk

set_option Elab.async false
set_option linter.all false
set_option maxRecDepth 100000
set_option maxHeartbeats 1000000
namespace Gk
open PySem PySem.Spec PyProof.Rows L2
/-! ### a generator expression over a list -/
theorem gx_list {α : Type} {K : PySem.W.Frag} {a : Addr} {xs : List V} {g : TG} {tt : TT} {te : TE} {vs : List Nat} {σ0 : L2.St} {End : α → Hp → Prop} {Yd : α → V → Hp → (α → Hp → Prop) → Prop} {a0 : α} {H0 : Hp} (Pv : Nat → α → Hp → Prop) (h0 : Pv 0 a0 H0)
    (hl : ∀ i c H, i ≤ xs.length → Pv i c H → SqL K H a xs)
    (hs : ∀ i x c H, xs[i]? = some x → Pv i c H → g x σ0 H fun σ2 H2 => wipe σ2 vs = σ0 ∧ tt σ2 H2 fun b H3 => if b = true then te σ2 H3 fun y H4 => Yd c y H4 (Pv (i + 1)) else Pv (i + 1) c H3) (hd : ∀ c H, Pv xs.length c H → End c H) :
    ∃ W : Nat → Nat → α → Hp → Prop, (∃ m, W 0 m a0 H0) ∧ tGx (Itl K a) g tt te σ0 vs End Yd W := by
  refine ⟨fun i m c H => m = xs.length - i ∧ i ≤ xs.length ∧ Pv i c H, ⟨xs.length, rfl, Nat.zero_le _, h0⟩, ?_⟩
  rintro i m c H ⟨rfl, hi, p⟩
  by_cases hlt : i < xs.length
  · have hx : xs[i]? = some xs[i] := List.getElem?_eq_getElem hlt
    refine .inr ⟨⟨xs, xs[i], hl i c H hi p, hx⟩, Pv (i + 1), fun c' H' p' => ⟨xs.length - (i + 1), by omega, rfl, hlt, p'⟩, fun x H' y => ?_⟩
    obtain ⟨rfl, y⟩ := y
    exact hs i x c _ (y xs (hl i c _ hi p)) p
  · have e : i = xs.length := by omega
    subst e
    exact .inl ⟨⟨xs, hl _ c H hi p, Nat.le_refl _⟩, hd c H p⟩

theorem okNC {P : Program} {w : World} {K : PySem.W.Frag} {mg : Str → Option Value} {base : Heap} {x qual : Str} {st : Stmt} {f : Addr} {fd : FuncData} {N ps : List Str} {k : Nat} {sp : Sp} (F : Fun K x qual st f fd) (S : FnScope N ps (defScope st)) (len : ∀ vs H Q E, sp vs H Q E → vs.length = ps.length)
    (body : ∀ (A : Around) (outer : List Env) (s : Shared) (H : Hp) (vs : List V) (Q : VK) (E : XK), Room k (A.deeper (envOfC qual (defScope st) s.heap.objs.size f fd.code)) → sp vs H Q E →
      ∃ t, PSs (cxOf (L2N.CX P w) P w K mg base N qual (defScope st) f fd.code A outer s H E) (defBody st) t ∧ t { nx := fun _ H' => Q .non H', rt := Q } (start N vs) H) : FnOk P w K mg base (L2N.CX P w) (k + 1) f fd ps sp := by
  obtain ⟨oc, od, kV, doc, pm, an, cdv, ct, osl, rfl, lk, hcd⟩ := F.ex
  exact fn_of lk hcd S len fun A outer s H vs Q E hr hsp => body A outer s H vs Q E hr hsp
section
variable {P : Program} {w : World} {K : PySem.W.Frag} {mg : Str → Option Value} {base : Heap}
/-! ### kinds of data -/
def isIntD : PyData → Bool
  | .int _ => true
  | .bool _ => true
  | _ => false
def isBoolD : PyData → Bool
  | .bool _ => true
  | _ => false
def isTupD : PyData → Bool
  | .tuple _ => true
  | _ => false
def isStrD : PyData → Bool
  | .str _ => true
  | _ => false
theorem kitInt : ∀ d : PyData, kitB (tyD d) "int" = some (isIntD d)
  | .none => (by decide +kernel : kitB "NoneType" "int" = some false)
  | .bool _ => (by decide +kernel : kitB "bool" "int" = some true)
  | .int _ => (by decide +kernel : kitB "int" "int" = some true)
  | .str _ => (by decide +kernel : kitB "str" "int" = some false)
  | .list _ => (by decide +kernel : kitB "list" "int" = some false)
  | .tuple _ => (by decide +kernel : kitB "tuple" "int" = some false)
  | .dict _ => (by decide +kernel : kitB "dict" "int" = some false)
theorem kitBool : ∀ d : PyData, kitB (tyD d) "bool" = some (isBoolD d)
  | .none => (by decide +kernel : kitB "NoneType" "bool" = some false)
  | .bool _ => (by decide +kernel : kitB "bool" "bool" = some true)
  | .int _ => (by decide +kernel : kitB "int" "bool" = some false)
  | .str _ => (by decide +kernel : kitB "str" "bool" = some false)
  | .list _ => (by decide +kernel : kitB "list" "bool" = some false)
  | .tuple _ => (by decide +kernel : kitB "tuple" "bool" = some false)
  | .dict _ => (by decide +kernel : kitB "dict" "bool" = some false)
theorem kitTup : ∀ d : PyData, kitB (tyD d) "tuple" = some (isTupD d)
  | .none => (by decide +kernel : kitB "NoneType" "tuple" = some false)
  | .bool _ => (by decide +kernel : kitB "bool" "tuple" = some false)
  | .int _ => (by decide +kernel : kitB "int" "tuple" = some false)
  | .str _ => (by decide +kernel : kitB "str" "tuple" = some false)
  | .list _ => (by decide +kernel : kitB "list" "tuple" = some false)
  | .tuple _ => (by decide +kernel : kitB "tuple" "tuple" = some true)
  | .dict _ => (by decide +kernel : kitB "dict" "tuple" = some false)
theorem kitStr : ∀ d : PyData, kitB (tyD d) "str" = some (isStrD d)
  | .none => (by decide +kernel : kitB "NoneType" "str" = some false)
  | .bool _ => (by decide +kernel : kitB "bool" "str" = some false)
  | .int _ => (by decide +kernel : kitB "int" "str" = some false)
  | .str _ => (by decide +kernel : kitB "str" "str" = some true)
  | .list _ => (by decide +kernel : kitB "list" "str" = some false)
  | .tuple _ => (by decide +kernel : kitB "tuple" "str" = some false)
  | .dict _ => (by decide +kernel : kitB "dict" "str" = some false)
def wholeD : PyData → Bool
  | .int _ => true
  | _ => false
def worthD : PyData → Bool
  | .int i => decide (0 ≤ i) && decide (i ≤ 1)
  | _ => false
theorem whole_of : ∀ {d : PyData}, isIntD d = true → wholeD d = !isBoolD d
  | .int _, _ => rfl
  | .bool _, _ => rfl
  | .none, h => by cases h
  | .str _, h => by cases h
  | .list _, h => by cases h
  | .tuple _, h => by cases h
  | .dict _, h => by cases h
theorem whole_not : ∀ {d : PyData}, ¬ isIntD d = true → wholeD d = false
  | .int _, h => absurd rfl h
  | .bool _, h => absurd rfl h
  | .none, _ => rfl
  | .str _, _ => rfl
  | .list _, _ => rfl
  | .tuple _, _ => rfl
  | .dict _, _ => rfl
theorem whole_int : ∀ {d : PyData}, wholeD d = true → ∃ i, d = .int i
  | .int i, _ => ⟨i, rfl⟩
  | .bool _, h => by cases h
  | .none, h => by cases h
  | .str _, h => by cases h
  | .list _, h => by cases h
  | .tuple _, h => by cases h
  | .dict _, h => by cases h
theorem worth_not : ∀ {d : PyData}, ¬ wholeD d = true → worthD d = false
  | .int _, h => absurd rfl h
  | .bool _, _ => rfl
  | .none, _ => rfl
  | .str _, _ => rfl
  | .list _, _ => rfl
  | .tuple _, _ => rfl
  | .dict _, _ => rfl
theorem tup_of : ∀ {d : PyData}, isTupD d = true → ∃ ds, d = .tuple ds
  | .tuple ds, _ => ⟨ds, rfl⟩
  | .bool _, h => by cases h
  | .none, h => by cases h
  | .str _, h => by cases h
  | .list _, h => by cases h
  | .int _, h => by cases h
  | .dict _, h => by cases h

theorem kSS : kitB "str" "str" = some true := by decide +kernel
theorem m01 (c : Nat) : decide (c ∈ (Str.ofString "01").cps.toList) = bit c := by
  have e : (Str.ofString "01").cps.toList = [48, 49] := by decide +kernel
  rw [e]
  unfold bit
  by_cases h : c = 48
  · subst h; rfl
  by_cases h2 : c = 49
  · subst h2; rfl
  rw [decide_eq_false (by simp [h, h2])]
  simp [h, h2]
def sgn01 (m : Nat) (z : Str) : Bool := decide (z.length = m) && (TL.tl z).all bit
def sp_is_signs (K : PySem.W.Frag) (Pt : Addr) : Sp := fun vs H Q _ => ∃ (m : Nat) (z : Str), vs = [.int m, .str z] ∧ z.length ≤ 1000 ∧ GxR.TabG H Pt ∧ ∀ H', Gr H H' → Q (.bl (sgn01 m z)) H'
theorem ok_is_signs (T : Tx K mg) (B : Tb base T) : FnOk P w K mg base CX0 2 T.f_is_signs T.fd_is_signs ["many", "thing"] (sp_is_signs K T.P_is_signs) := by
  refine okC T.F_is_signs sc_is_signs (fun vs H Q E h => ?_) (fun A outer s H vs Q E hr h => ?_)
  · obtain ⟨m, z, rfl, _⟩ := h
    rfl
  · obtain ⟨m, z, rfl, hz, tab, q⟩ := h
    refine ⟨_, (pss_one (ps_ret (pe_and (pe_callB call_isi (by rfl) T.m_isinstance (by decide +kernel) (pa_cons (pv 1) (pa_cons (pe_bltn (v := .ty "str") (u := .type "str") (by rfl) T.m_str (by decide +kernel) rfl) pa_nil))) (pe_and (pe_cmpR op_eq (pe_callB call_len_str (by rfl) T.m_len PySem.boot_len (pa_cons (pv 1) pa_nil)) (pv 0) (nomark _)) (pe_one (pe_allX (own := [("sign", 2)]) (k := 0) (hr.mono (by decide)) rfl sc_is_signs.nd (by rfl) T.m_all (by decide +kernel) B.TB_is_signs T.cd_is_signs rfl rfl (by decide +kernel) (blkOk_by (own := [("sign", 2)]) (N := ["many", "thing", "sign"]) (sc := defScope s_is_signs) (by decide +kernel)) (pi_str (pv 1)) (fun _ _ _ _ _ _ _ hr gd => (pg_name (i := 2) sc_is_signs.nd rfl (by first | exact .inl rfl | exact .inr rfl))) (fun _ _ _ _ _ _ _ hr gd => pts_nil) (fun _ _ _ _ _ _ _ hr gd => (pe_cmpR op_in_sign (pv 2) pe_str rfl)) (fun _ => rfl))))))), ?_⟩
    refine ⟨.str z, rfl, _, _, _, _, _, rfl, .ty _, .base (.str _), kit_ty kSS, _, rfl, iteT ?_⟩
    refine ⟨.str z, rfl, _, rfl, Nat.le_trans hz (by decide), .int m, rfl, rfl, _, rfl, ?_⟩
    unfold sgn01 at q
    by_cases hl : z.length = m
    · rw [decide_eq_true (show V.int (z.length : Int) = V.int (m : Int) by rw [hl])]
      rw [decide_eq_true hl, Bool.true_and] at q
      refine iteT ⟨.str z, rfl, z, rfl, tab, fun H2 tb => ?_⟩
      have g2 := Gr.tab tab tb
      refine gx_str (z := z) (fun j _ H' => H' = H2 ∧ ((TL.tl z).take j).all bit = true) ⟨rfl, rfl⟩ ?_ ?_
      · rintro j x _ H' hx ⟨rfl, so⟩
        have hx' : (TL.tl z)[j]? = some x := by
          show z.cps.toList[j]? = some x
          rw [Array.getElem?_toList]; exact hx
        refine ⟨rfl, .str ⟨#[x]⟩, rfl, x, _, rfl, rfl, _, rfl, ?_⟩
        rw [m01]
        by_cases hb : bit x = true
        · refine (if_pos hb).mpr ⟨rfl, ?_⟩
          rw [List.take_add_one, hx', List.all_append, so]
          show (true && ([x] : List Nat).all bit) = true
          simp [hb]
        · refine (if_neg hb).mpr ?_
          have : (TL.tl z).all bit = false := by
            rw [List.all_eq_false]
            exact ⟨x, List.mem_of_getElem? hx', hb⟩
          rw [this] at q
          exact q _ g2
      · rintro _ H' ⟨rfl, so⟩
        have e : (TL.tl z).take z.cps.size = TL.tl z := List.take_of_length_le (by simp [TL.tl])
        rw [e] at so
        rw [so] at q
        exact q _ g2
    · rw [decide_eq_false (show ¬ V.int (z.length : Int) = V.int (m : Int) from fun k => hl (by have := V.int.inj k; omega))]
      rw [decide_eq_false hl, Bool.false_and] at q
      exact iteF (q H Gr.refl)
def wB (c : Nat) : Int := if c = 49 then 1 else 0
def sp_read_row (K : PySem.W.Frag) (Pt : Addr) : Sp := fun vs H Q _ => ∃ (l : List Nat), vs = [.str (SX.S l)] ∧ l.length ≤ 1000 ∧ l.all bit = true ∧ GxR.TabG H Pt ∧ ∀ H' p, Gr H H' → H' p = some (.tup (l.map fun c => V.int (wB c))) → Q (.ref p) H'
theorem ok_read_row (T : Tx K mg) (B : Tb base T) : FnOk P w K mg base CX0 2 T.f_read_row T.fd_read_row ["signs"] (sp_read_row K T.P_read_row) := by
  refine okC T.F_read_row sc_read_row (fun vs H Q E h => ?_) (fun A outer s H vs Q E hr h => ?_)
  · obtain ⟨l, rfl, _⟩ := h
    rfl
  · obtain ⟨l, rfl, hl, hb, tab, q⟩ := h
    refine ⟨_, (pss_one (ps_ret (pe_tupX (own := [("sign", 1)]) (k := 0) (hr.mono (by decide)) rfl sc_read_row.nd (by rfl) T.m_tuple (by decide +kernel) B.TB_read_row T.cd_read_row rfl rfl (by decide +kernel) (blkOk_by (own := [("sign", 1)]) (N := ["signs", "sign"]) (sc := defScope s_read_row) (by decide +kernel)) (pi_str (pv 0)) (fun _ _ _ _ _ _ _ hr gd => (pg_name (i := 1) sc_read_row.nd rfl (by first | exact .inl rfl | exact .inr rfl))) (fun _ _ _ _ _ _ _ hr gd => pts_nil) (fun _ _ _ _ _ _ _ hr gd => (pe_callTy call_int_str (by rfl) T.m_int (by decide +kernel) (pa_cons (pv 1) pa_nil))) (fun _ => rfl)))), ?_⟩
    refine ⟨.str (SX.S l), rfl, SX.S l, rfl, tab, fun H2 tb => ?_⟩
    have g2 := Gr.tab tab tb
    refine gx_str (z := SX.S l) (fun j ys H' => H' = H2 ∧ ys = (l.take j).map fun c => V.int (wB c)) ⟨rfl, rfl⟩ ?_ ?_
    · rintro j x ys H' hx ⟨rfl, rfl⟩
      have hx' : l[j]? = some x := by simpa using hx
      have hbx := List.all_eq_true.mp hb x (List.mem_of_getElem? hx')
      have hv : PySem.intText? ⟨#[x]⟩ = some (wB x) := by
        have : x = 48 ∨ x = 49 := by
          unfold bit at hbx
          simpa using hbx
        rcases this with rfl | rfl <;> decide +kernel
      refine ⟨rfl, .str ⟨#[x]⟩, rfl, _, wB x, rfl, hv, (by show 1 ≤ 640; decide), ?_, rfl, ?_⟩
      · rw [List.length_map, List.length_take]
        exact Nat.lt_of_lt_of_le (show _ < 1001 by omega) (by decide)
      · rw [List.take_add_one, hx', List.map_append]
        rfl
    · rintro ys H' ⟨rfl, rfl⟩
      have e : l.take (SX.S l).cps.size = l := List.take_of_length_le (by simp)
      rw [e]
      refine ⟨by rw [List.length_map]; exact Nat.le_trans hl (by decide), fun p np => ?_⟩
      exact q _ p (g2.trans (Gr.of (same_upd np))) upd_same
theorem rows_good {m : Nat} {z : Str} (h2 : (Txt.split z (SX.S to4)).length = 2) (h : ∀ r ∈ Txt.split z (SX.S to4), sgn01 m r = true) : ∃ a b, chL m (TL.tl z) = some (a, b) ∧ Txt.split z (SX.S to4) = [SX.S a, SX.S b] := by
  have ez : SX.S (TL.tl z) = z := SX.S_tl z
  cases hc : chL m (TL.tl z) with
  | some ab =>
    obtain ⟨a, b⟩ := ab
    refine ⟨a, b, rfl, ?_⟩
    have := split_yes hc
    rw [ez] at this
    exact this
  | none =>
    exfalso
    obtain ⟨x, y, e⟩ : ∃ x y, Txt.split z (SX.S to4) = [x, y] := by
      match hs : Txt.split z (SX.S to4), h2 with
      | [x, y], _ => exact ⟨x, y, rfl⟩
    have e' : Txt.split (SX.S (TL.tl z)) (SX.S to4) = [x, y] := by rw [ez]; exact e
    refine split_no hc e' ?_
    have hx := h x (by rw [e]; simp)
    have hy := h y (by rw [e]; simp)
    unfold sgn01 at hx hy
    rw [Bool.and_eq_true, decide_eq_true_eq] at hx hy
    exact ⟨hx, hy⟩
theorem rows_bad {m : Nat} {z : Str} {a b : List Nat} (h : chL m (TL.tl z) = some (a, b)) : (Txt.split z (SX.S to4)).length = 2 ∧ ∀ r ∈ Txt.split z (SX.S to4), sgn01 m r = true := by
  have ez : SX.S (TL.tl z) = z := SX.S_tl z
  have := split_yes h
  rw [ez] at this
  obtain ⟨la, lb, ha, hb, _⟩ := chL_some h
  rw [this]
  refine ⟨rfl, fun r hr => ?_⟩
  unfold sgn01
  rw [Bool.and_eq_true, decide_eq_true_eq]
  rcases List.mem_cons.mp hr with rfl | hr
  · exact ⟨by rw [SX.S_len]; exact la, ha⟩
  · rw [List.mem_singleton.mp hr]
    exact ⟨by rw [SX.S_len]; exact lb, hb⟩
def sp_read_change (T : Tx K mg) : Sp := fun vs H Q E => ∃ (m : Nat) (v : V) (d : PyData), vs = [.int m, v] ∧ m ≤ 6 ∧ Sh H v d ∧ (∀ z, d = .str z → z.length ≤ 1000) ∧ Tabs H T.tabs ∧
  ((∀ z, d = .str z → chL m (TL.tl z) = none) → ∀ H', Gr H H' → E (.ref T.C_NoText) none H') ∧
  ∀ z a b, d = .str z → chL m (TL.tl z) = some (a, b) → ∀ H' p pa pb, Gr H H' → H' p = some (.tup [.ref pa, .ref pb]) → H' pa = some (.tup (a.map fun c => V.int (wB c))) → H' pb = some (.tup (b.map fun c => V.int (wB c))) → Q (.ref p) H'
theorem ok_read_change (T : Tx K mg) (B : Tb base T) : FnOk P w K mg base (L2N.CX P w) 4 T.f_read_change T.fd_read_change ["many", "text"] (sp_read_change T) := by
  refine okNC T.F_read_change sc_read_change (fun vs H Q E h => ?_) (fun A outer s H vs Q E hr h => ?_)
  · obtain ⟨m, v, d, rfl, _⟩ := h
    rfl
  · obtain ⟨m, v, d, rfl, m6, sh, hz, tabs, no, yes⟩ := h
    refine ⟨_, (pss_cons (ps_if (pt_not (pt_val (pe_callB call_isi (by rfl) T.m_isinstance (by decide +kernel) (pa_cons (pv 1) (pa_cons (pe_bltn (v := .ty "str") (u := .type "str") (by rfl) T.m_str (by decide +kernel) rfl) pa_nil))))) (pss_one (L2N.ps_raise rfl GxE.takesE (L2N.pmk_own PySem.F.excBase_ValueError T.q_NoText T.gC_NoText T.kC_NoText (raises_own T.su_NoText T.ty_NoText) (by rfl)))) pss_nil) (pss_cons (ps_set (i := 2) sc_read_change.nd rfl (by first | exact .inl rfl | exact .inr rfl) (pe_bm PySem.F.plainAttrs_str PySem.F.slot_str_split PySem.F.type_str_split mt_split (pv 1) (pa_cons pe_str pa_nil))) (pss_cons (ps_if (pt_cut (pw_or (pt_cmpR op_ne (pe_callB call_len_seq (by rfl) T.m_len PySem.boot_len (pa_cons (pv 2) pa_nil)) pe_int (nomark _)) (pw_or1 (pt_not (pt_val (pe_allX (own := [("row", 5)]) (k := 2) (hr.mono (by decide)) rfl sc_read_change.nd (by rfl) T.m_all (by decide +kernel) B.TB_read_change T.cd_read_change rfl rfl (by decide +kernel) (blkOk_by (own := [("row", 5)]) (N := ["many", "text", "rows", "a", "b", "row"]) (sc := defScope s_read_change) (by decide +kernel)) (pi_list (pv 2)) (fun _ _ _ _ _ _ _ hr gd => (pg_name (i := 5) sc_read_change.nd rfl (by first | exact .inl rfl | exact .inr rfl))) (fun _ _ _ _ _ _ _ hr gd => pts_nil) (fun _ _ _ _ _ _ _ hr gd => (pe_call (ok_is_signs T B) (hr.mono (by decide)) (by rfl) T.g_is_signs T.F_is_signs.kp T.b_is_signs .nil pass0 (pa_cons (pv 0) (pa_cons (pv 5) pa_nil)))) (fun _ => rfl)))))).pt) (pss_one (L2N.ps_raise rfl GxE.takesE (L2N.pmk_own PySem.F.excBase_ValueError T.q_NoText T.gC_NoText T.kC_NoText (raises_own T.su_NoText T.ty_NoText) (by rfl)))) pss_nil) (pss_cons (ps_asg (pv 2) (pg_lst rfl (pgs_cons (pg_name (i := 3) sc_read_change.nd rfl (by first | exact .inl rfl | exact .inr rfl)) (pgs_cons (pg_name (i := 4) sc_read_change.nd rfl (by first | exact .inl rfl | exact .inr rfl)) pgs_nil)))) (pss_one (ps_ret (pe_tup (pa_cons (pe_call (ok_read_row T B) (hr.mono (by decide)) (by rfl) T.g_read_row T.F_read_row.kp T.b_read_row .nil pass0 (pa_cons (pv 3) pa_nil)) (pa_cons (pe_call (ok_read_row T B) (hr.mono (by decide)) (by rfl) T.g_read_row T.F_read_row.kp T.b_read_row .nil pass0 (pa_cons (pv 4) pa_nil)) pa_nil))))))))), ?_⟩
    refine ⟨v, rfl, _, _, _, _, _, rfl, .ty _, sh.ty, kit_ty (kitStr d), _, rfl, ite2 (fun e1 => ?_) (fun e1 => ?_)⟩
    · refine no (fun z e => ?_) _ Gr.refl
      subst e
      cases e1
    · have hs : ∃ z, d = .str z := by cases d <;> first | exact ⟨_, rfl⟩ | exact absurd rfl e1
      obtain ⟨z, rfl⟩ := hs
      have hz := hz z rfl
      cases sh
      refine ⟨.str z, rfl, rfl, z, _, rfl, rfl, by decide +kernel, Nat.le_trans (Nat.add_le_add_right hz 2) (by decide), fun p np => ?_⟩
      rw [to4_S]
      have g1 : Gr H (upd H p (.lst ((Txt.split z (SX.S to4)).map V.str))) := Gr.none np
      have h1 := upd_same (H := H) (a := p) (o := .lst ((Txt.split z (SX.S to4)).map V.str))
      generalize upd H p (.lst ((Txt.split z (SX.S to4)).map V.str)) = H1 at g1 h1 ⊢
      have short : ∀ r ∈ Txt.split z (SX.S to4), r.length ≤ 1000 := fun r hr => Nat.le_trans (part_short hr) hz
      refine ⟨fun b H' => Gr H1 H' ∧ (b = true → chL m (TL.tl z) = none) ∧ (b = false → ∃ x y, chL m (TL.tl z) = some (x, y) ∧ Txt.split z (SX.S to4) = [SX.S x, SX.S y]), ?_, ?_⟩
      · refine ⟨.ref p, rfl, p, _, rfl, .inl (SqL.of h1), rfl, _, rfl, ?_⟩
        rw [List.length_map]
        by_cases h2 : (Txt.split z (SX.S to4)).length = 2
        · rw [decide_eq_true (show V.int ((Txt.split z (SX.S to4)).length : Int) = V.int 2 by rw [h2]; rfl)]
          refine iteF ?_
          have tab1 : GxR.TabG H1 T.P_read_change := g1.2 _ (tabs _ (by simp [Tx.tabs]))
          refine ⟨.ref p, rfl, p, rfl, ⟨_, SqL.of h1⟩, tab1, fun H2 tb => ?_⟩
          have g2 := Gr.tab tab1 tb
          refine gx_list (K := K) (a := p) (xs := (Txt.split z (SX.S to4)).map V.str) (fun j _ H' => Gr H1 H' ∧ ∀ r ∈ (Txt.split z (SX.S to4)).take j, sgn01 m r = true) ⟨g2, fun r hr => by cases hr⟩ (fun j _ H' _ ⟨g, _⟩ => SqL.of (g.lst h1)) ?_ ?_
          · rintro j x _ H3 hx ⟨g3, so⟩
            obtain ⟨r, hr', rfl⟩ : ∃ r, (Txt.split z (SX.S to4))[j]? = some r ∧ x = V.str r := by
              rw [List.getElem?_map] at hx
              cases hq : (Txt.split z (SX.S to4))[j]? with
              | none => rw [hq] at hx; cases hx
              | some u => rw [hq] at hx; exact ⟨u, rfl, (Option.some.inj hx).symm⟩
            have mem := List.mem_of_getElem? hr'
            refine ⟨rfl, .int m, rfl, .str r, rfl, m, r, rfl, short r mem, (g1.trans g3).2 _ (tabs _ (by simp [Tx.tabs])), fun H4 g4 => ⟨_, rfl, ?_⟩⟩
            by_cases hb : sgn01 m r = true
            · refine (if_pos hb).mpr ⟨g3.trans g4, fun r' hr2 => ?_⟩
              rw [List.take_add_one, hr'] at hr2
              rcases List.mem_append.mp hr2 with k | k
              · exact so r' k
              · rw [List.mem_singleton.mp k]
                exact hb
            · refine (if_neg hb).mpr ⟨false, rfl, g3.trans g4, fun _ => ?_, fun z => by cases z⟩
              cases hc : chL m (TL.tl z) with
              | none => rfl
              | some ab => exact absurd ((rows_bad hc).2 r mem) hb
          · rintro _ H3 ⟨g3, so⟩
            rw [List.length_map, List.take_length] at so
            exact ⟨true, rfl, g3, (fun z => by cases z), fun _ => rows_good h2 so⟩
        · rw [decide_eq_false (show ¬ V.int ((Txt.split z (SX.S to4)).length : Int) = V.int 2 from fun k => h2 (by have := V.int.inj k; omega))]
          refine iteT ⟨Gr.refl, fun _ => ?_, fun z => by cases z⟩
          cases hc : chL m (TL.tl z) with
          | none => rfl
          | some ab => exact absurd (rows_bad hc).1 h2
      · rintro b H2 ⟨g2, bt, bf⟩
        refine ite2 (fun hb => ?_) (fun hb => ?_)
        · exact no (fun z' e => by cases e; exact bt hb) _ (g1.trans g2)
        · obtain ⟨x, y, hc, hs⟩ := bf (by simpa using hb)
          obtain ⟨lx, ly, ax, ay, _⟩ := chL_some hc
          have hp2 := g2.lst h1
          rw [hs] at hp2
          refine ⟨.ref p, rfl, p, _, rfl, SqL.of hp2, rfl, _, _, rfl, _, _, rfl, rfl, ?_⟩
          have t2 : Tabs H2 T.tabs := (g1.trans g2).tabs tabs
          refine ⟨.str (SX.S x), rfl, x, rfl, by omega, ax, t2 _ (by simp [Tx.tabs]), fun H3 pa g3 ha => ?_⟩
          refine ⟨.str (SX.S y), rfl, y, rfl, by omega, ay, g3.2 _ (t2 _ (by simp [Tx.tabs])), fun H4 pb g4 hb => ?_⟩
          refine ⟨sl2, fun pp npp => ?_⟩
          have g5 := Gr.none (o := .tup [.ref pa, .ref pb]) npp
          exact yes z x y rfl hc _ pp pa pb ((((g1.trans g2).trans g3).trans g4).trans g5) upd_same (g5.tup (g4.tup ha)) (g5.tup hb)
end
end Gk

set_option Elab.async false
set_option linter.all false
set_option maxRecDepth 100000
set_option maxHeartbeats 1000000
namespace Gk
open PySem PySem.Spec PyProof.Rows L2
section
variable {P : Program} {w : World} {K : PySem.W.Frag} {mg : Str → Option Value} {base : Heap}
/-! ### sizes of what is shown -/
def fineB (n m : Nat) (d : PyData) : Bool := d.showable && (d.leavesShort 200 && (decide (d.weight ≤ n) && decide (d.depth ≤ m)))
theorem fine_iff {n m : Nat} {d : PyData} : fineB n m d = true ↔ d.showable = true ∧ d.leavesShort 200 = true ∧ d.weight ≤ n ∧ d.depth ≤ m := by
  unfold fineB
  rw [Bool.and_eq_true, Bool.and_eq_true, Bool.and_eq_true, decide_eq_true_eq, decide_eq_true_eq]
theorem fine_mono {n m n' m' : Nat} {d : PyData} (h : fineB n m d = true) (a : n ≤ n') (b : m ≤ m') : fineB n' m' d = true := by
  obtain ⟨h1, h2, h3, h4⟩ := fine_iff.mp h
  exact fine_iff.mpr ⟨h1, h2, Nat.le_trans h3 a, Nat.le_trans h4 b⟩
theorem fine_fits {n m : Nat} {d : PyData} (h : fineB n m d = true) (hn : n ≤ 50000) : d.shown.length ≤ sizeLine := by
  obtain ⟨_, h2, h3, _⟩ := fine_iff.mp h
  have := PyData.shown_le 200 (by decide) d h2
  have e : sizeLine = 16777216 := by decide
  rw [e]
  omega
theorem fine_all {n m : Nat} : ∀ {ds : List PyData}, (∀ d ∈ ds, fineB n m d = true) → PyData.showableAll ds = true ∧ PyData.leavesShortAll 200 ds = true ∧ PyData.weightAll ds ≤ ds.length * (n + 1) ∧ PyData.depthAll ds ≤ m
  | [], _ => ⟨rfl, rfl, Nat.zero_le _, Nat.zero_le _⟩
  | d :: r, h => by
    obtain ⟨a1, a2, a3, a4⟩ := fine_iff.mp (h d (List.mem_cons_self ..))
    obtain ⟨b1, b2, b3, b4⟩ := fine_all (ds := r) fun x hx => h x (List.mem_cons_of_mem _ hx)
    refine ⟨?_, ?_, ?_, ?_⟩
    · unfold PyData.showableAll
      rw [a1, b1]
      rfl
    · unfold PyData.leavesShortAll
      rw [a2, b2]
      rfl
    · unfold PyData.weightAll
      rw [List.length_cons, Nat.succ_mul]
      omega
    · unfold PyData.depthAll
      omega
theorem fine_tup {n m k : Nat} {ds : List PyData} (h : ∀ d ∈ ds, fineB n m d = true) (hk : ds.length ≤ k) : fineB (k * (n + 1)) (m + 1) (.tuple ds) = true := by
  obtain ⟨b1, b2, b3, b4⟩ := fine_all h
  refine fine_iff.mpr ⟨b1, b2, ?_, ?_⟩
  · show PyData.weightAll ds ≤ _
    exact Nat.le_trans b3 (Nat.mul_le_mul_right _ hk)
  · show PyData.depthAll ds + 1 ≤ _
    omega
theorem fine_lst {n m k : Nat} {ds : List PyData} (h : ∀ d ∈ ds, fineB n m d = true) (hk : ds.length ≤ k) : fineB (k * (n + 1)) (m + 1) (.list ds) = true := by
  obtain ⟨b1, b2, b3, b4⟩ := fine_all h
  refine fine_iff.mpr ⟨b1, b2, ?_, ?_⟩
  · show PyData.weightAll ds ≤ _
    exact Nat.le_trans b3 (Nat.mul_le_mul_right _ hk)
  · show PyData.depthAll ds + 1 ≤ _
    omega

def chQ (m : Nat) : PyData → Option (List Nat × List Nat)
  | .str z => chL m (TL.tl z)
  | _ => none
def rowP (a : List Nat) : PyData := .tuple (a.map fun c => .int (wB c))
def chP (a b : List Nat) : PyData := .tuple [rowP a, rowP b]
theorem row_fine {a : List Nat} (h : a.length ≤ 6) : fineB 12 2 (rowP a) = true := by
  have := fine_tup (n := 1) (m := 1) (k := 6) (ds := a.map fun c => PyData.int (wB c)) (fun d hd => by
    obtain ⟨c, _, rfl⟩ := List.mem_map.mp hd
    unfold wB
    split <;> decide +kernel) (by rw [List.length_map]; exact h)
  exact this
theorem ch_fine {a b : List Nat} (ha : a.length ≤ 6) (hb : b.length ≤ 6) : fineB 26 3 (chP a b) = true :=
  fine_tup (n := 12) (m := 2) (k := 2) (fun d hd => by
    rcases List.mem_cons.mp hd with rfl | hd
    · exact row_fine ha
    · rw [List.mem_singleton.mp hd]; exact row_fine hb) (Nat.le_refl 2)
theorem row_sh {H : Hp} {p : Addr} {a : List Nat} (h : H p = some (.tup (a.map fun c => V.int (wB c)))) : Sh H (.ref p) (rowP a) := by
  refine .tup h ?_
  clear h
  induction a with
  | nil => exact .nil
  | cons c r ih => exact .cons (.int _) ih
def toldV (m : Nat) (d : PyData) : V := match chQ m d with
  | some (a, b) => .str (chP a b).shown
  | none => .bl true
theorem same_del {H H' : Hp} {a : Addr} {o : HO} (s : Same (upd H a o) H') (n : H a = none) : Same H (delH H' a) := fun b x e => by
  have nb : b ≠ a := fun z => by rw [z, n] at e; cases e
  rw [delH_ne nb]
  exact s b x (by rw [upd_ne nb]; exact e)
def sp_told (T : Tx K mg) : Sp := fun vs H Q _ => ∃ (m : Nat) (v : V) (d : PyData), vs = [.int m, v] ∧ m ≤ 6 ∧ Sh H v d ∧ (∀ z, d = .str z → z.length ≤ 1000) ∧ Tabs H T.tabs ∧ ∀ H', Gr H H' → Q (toldV m d) H'
theorem ok_told (T : Tx K mg) (B : Tb base T) : FnG P w K mg base CX0 5 T.f_told T.fd_told ["_law_many", "_law_thing"] (sp_told T) := by
  refine okG0 T.F_told sc_told (fun vs H Q E h => ?_) (fun cdv A outer s H vs Q E nothing hr h => ?_)
  · obtain ⟨m, v, d, rfl, _⟩ := h
    rfl
  · obtain ⟨m, v, d, rfl, m6, sh, hz, tabs, q⟩ := h
    refine ⟨_, (pss_cons (ps_set (i := 2) sc_told.nd rfl (by first | exact .inl rfl | exact .inr rfl) pe_non) (pss_cons (L2N.ps_try_as (i := 3) rfl rfl sc_told.nd rfl (by rfl) ⟨by rfl, by decide, .inl T.gC_NetError⟩ GxE.takesN (fun W pn xe tk own => (pss_one (ps_set (i := 2) sc_told.nd rfl (by first | exact .inl rfl | exact .inr rfl) (pe_callB (call_repr nothing hr.units) (by rfl) T.m_repr (by decide +kernel) (pa_cons (pe_callS (ok_read_change T B) (hr.mono (by decide)) (by rfl) T.g_read_change T.F_read_change.kp T.b_read_change (fun σ => L2N.passAt tk σ) (pa_cons (pv 0) (pa_cons (pv 1) pa_nil))) pa_nil))))) (fun ea oe cls ed pn hz hf => (pss_one (ps_set (i := 2) sc_told.nd rfl (by first | exact .inl rfl | exact .inr rfl) (GxE.pe_callX hz.zc hf (ok_refused T) (L2H.roomH_mark (hr.mono (by decide)) _) (by rfl) T.g_refused T.F_refused.kp T.b_refused (pa_cons (pv 3) pa_nil)))))) (pss_one (ps_ret (pv 2))))), ?_⟩
    refine ⟨.int m, rfl, v, rfl, m, v, d, rfl, m6, sh, hz, tabs, fun hno H' g => ?_, fun z a b hd hc H' p pa pb g hp ha hb => ?_⟩
    · have e : toldV m d = .bl true := by
        unfold toldV chQ
        cases d with
        | str z =>
          dsimp only
          rw [hno z rfl]
        | _ => rfl
      rw [e] at q
      refine ⟨true, T.x_NoText_NetError, fun _ a na => ?_, fun z => by cases z⟩
      refine ⟨.ref a, rfl, fun oe hz hf => ⟨fun n1 => ?_, fun hb => ?_⟩⟩
      · refine ⟨a, 0, rfl, by decide, ⟨T.C_NoText, oe, rfl, .inl upd_same, hz, hf⟩, fun H2 s2 => ⟨s2 _ _ upd_same, ?_⟩⟩
        exact ⟨_, rfl, q _ (g.trans (Gr.of (same_del s2 n1)))⟩
      · refine ⟨a, 0, rfl, by decide, ⟨T.C_NoText, oe, rfl, .inr hb, hz, hf⟩, fun H2 s2 => ?_⟩
        exact ⟨_, rfl, q _ (g.trans (Gr.of s2))⟩
    · subst hd
      have e : toldV m (.str z) = .str (chP a b).shown := by
        unfold toldV chQ
        dsimp only
        rw [hc]
      rw [e] at q
      obtain ⟨la, lb, _⟩ := chL_some hc
      have fe := ch_fine (a := a) (b := b) (by omega) (by omega)
      obtain ⟨able, _, _, deep⟩ := fine_iff.mp fe
      have fits := fine_fits fe (by decide)
      have sh2 : Sh H' (.ref p) (chP a b) := .tup hp (.cons (row_sh ha) (.cons (row_sh hb) .nil))
      exact ⟨.ref p, _, rfl, sh2, able, fits, by omega, _, rfl, q _ g⟩
def sp_raised (T : Tx K mg) : Sp := fun vs H Q _ => ∃ (i : Nat) (z : Str), vs = [.int i, .str z] ∧ i < 6 ∧ ∀ H' p, Same H H' → H' p = some (.lst ((one6 i ++ [true]).map V.bl)) → Q (.ref p) H'
theorem ok_raised (T : Tx K mg) : FnOk P w K mg base CX0 2 T.f_raised T.fd_raised ["_law_k", "_law_text"] (sp_raised T) := by
  refine T.F_raised.ok sc_raised (fun vs H Q E h => ?_) (fun cdv A outer s H vs Q E hr h => ?_)
  · obtain ⟨i, z, rfl, _⟩ := h
    rfl
  · obtain ⟨i, z, rfl, hi, q⟩ := h
    refine ⟨_, (pss_cons (ps_set (i := 2) sc_raised.nd rfl (by first | exact .inl rfl | exact .inr rfl) (pe_lst pa_nil)) (pss_cons (L2N.ps_try_as (i := 3) rfl rfl sc_raised.nd rfl (by rfl) ⟨by rfl, by decide, .inl T.gC_NetError⟩ GxE.takesN (fun W pn xe tk own => (pss_cons (ps_if (pt_cmpR op_eq (pv 0) pe_int (nomark _)) (pss_one (L2N.ps_raise rfl tk (GxE.pmk_one PySem.F.excBase_ValueError T.q_NoText T.gC_NoText T.kC_NoText (raises_own T.su_NoText T.ty_NoText) (by rfl) (pv 1)))) pss_nil) (pss_cons (ps_if (pt_cmpR op_eq (pv 0) pe_int (nomark _)) (pss_one (L2N.ps_raise rfl tk (GxE.pmk_one PySem.F.excBase_ValueError T.q_TooMany T.gC_TooMany T.kC_TooMany (raises_own T.su_TooMany T.ty_TooMany) (by rfl) (pv 1)))) pss_nil) (pss_cons (ps_if (pt_cmpR op_eq (pv 0) pe_int (nomark _)) (pss_one (L2N.ps_raise rfl tk (GxE.pmk_one PySem.F.excBase_ValueError T.q_NotFormula T.gC_NotFormula T.kC_NotFormula (raises_own T.su_NotFormula T.ty_NotFormula) (by rfl) (pv 1)))) pss_nil) (pss_cons (ps_if (pt_cmpR op_eq (pv 0) pe_int (nomark _)) (pss_one (L2N.ps_raise rfl tk (GxE.pmk_one PySem.F.excBase_ValueError T.q_NoTurn T.gC_NoTurn T.kC_NoTurn (raises_own T.su_NoTurn T.ty_NoTurn) (by rfl) (pv 1)))) pss_nil) (pss_cons (ps_if (pt_cmpR op_eq (pv 0) pe_int (nomark _)) (pss_one (L2N.ps_raise rfl tk (GxE.pmk_one PySem.F.excBase_ValueError T.q_NoForms T.gC_NoForms T.kC_NoForms (raises_own T.su_NoForms T.ty_NoForms) (by rfl) (pv 1)))) pss_nil) (pss_one (L2N.ps_raise rfl tk (GxE.pmk_one PySem.F.excBase_ValueError T.q_NoRow T.gC_NoRow T.kC_NoRow (raises_own T.su_NoRow T.ty_NoRow) (by rfl) (pv 1)))))))))) (fun ea oe cls ed pn hz hf => (pss_one (ps_set (i := 2) sc_raised.nd rfl (by first | exact .inl rfl | exact .inr rfl) (pe_op op_cat (GxE.pe_callX hz.zc hf (ok_kinds T) (L2H.roomH_mark (hr.mono (by decide)) _) (by rfl) T.g_kinds T.F_kinds.kp T.b_kinds (pa_cons (pv 3) pa_nil)) (pe_lst (pa_cons (pe_callB (GxE.call_isP hz.zc hf) (by rfl) T.m_isinstance (by decide +kernel) (pa_cons (pv 3) (pa_cons (pe_bltn (v := .ty "ValueError") (u := .type "ValueError") (by rfl) T.m_ValueError (by decide +kernel) rfl) pa_nil))) pa_nil))))))) (pss_one (ps_ret (pv 2))))), ?_⟩
    refine ⟨Nat.zero_le _, fun p0 n0 => ?_⟩
    have s0 := same_upd (o := .lst []) n0
    generalize upd H p0 (.lst []) = H1 at s0 ⊢
    refine ⟨.int i, rfl, rfl, _, rfl, ite2 (fun h => ?_) (fun h => ?_)⟩
    · have : i = 0 := by
        have := V.int.inj (of_decide_eq_true h)
        omega
      subst this
      refine ⟨.str z, rfl, true, T.x_NoText_NetError, fun _ a na => ?_, fun z => by cases z⟩
      refine ⟨.ref a, rfl, fun oe hz hf => ⟨fun n1 => ?_, fun hb => ?_⟩⟩
      · refine ⟨a, 0, rfl, by decide, ⟨T.C_NoText, oe, rfl, .inl upd_same, hz, hf⟩, fun H2 p2 s2 h2 => ⟨s2 _ _ upd_same, ?_⟩⟩
        have s3 := same_del s2 n1
        have h3 : delH H2 a p2 = some (.lst ((one6 0).map V.bl)) := by
          rw [delH_ne (fun k => by rw [k, s2 _ _ upd_same] at h2; cases h2)]
          exact h2
        refine ⟨.ref a, rfl, T.C_NoText, _, _, true, rfl, rfl, rfl, T.X_NoText, .ty _, T.v_NoText, sl1, fun p3 n3 => ?_⟩
        refine ⟨p2, p3, _, _, rfl, rfl, same_upd n3 _ _ h3, upd_same, by show 7 ≤ sizeLine; decide, fun p4 n4 => ?_⟩
        exact ⟨_, rfl, q _ p4 (((s0.trans s3).trans (same_upd n3)).trans (same_upd n4)) upd_same⟩
      · refine ⟨a, 0, rfl, by decide, ⟨T.C_NoText, oe, rfl, .inr hb, hz, hf⟩, fun H2 p2 s2 h2 => ?_⟩
        refine ⟨.ref a, rfl, T.C_NoText, _, _, true, rfl, rfl, rfl, T.X_NoText, .ty _, T.v_NoText, sl1, fun p3 n3 => ?_⟩
        refine ⟨p2, p3, _, _, rfl, rfl, same_upd n3 _ _ h2, upd_same, by show 7 ≤ sizeLine; decide, fun p4 n4 => ?_⟩
        exact ⟨_, rfl, q _ p4 (((s0.trans s2).trans (same_upd n3)).trans (same_upd n4)) upd_same⟩
    have n0 : i ≠ 0 := fun z => h (by rw [z]; exact decide_eq_true rfl)
    refine ⟨.int i, rfl, rfl, _, rfl, ite2 (fun h => ?_) (fun h => ?_)⟩
    · have : i = 1 := by
        have := V.int.inj (of_decide_eq_true h)
        omega
      subst this
      refine ⟨.str z, rfl, true, T.x_TooMany_NetError, fun _ a na => ?_, fun z => by cases z⟩
      refine ⟨.ref a, rfl, fun oe hz hf => ⟨fun n1 => ?_, fun hb => ?_⟩⟩
      · refine ⟨a, 1, rfl, by decide, ⟨T.C_TooMany, oe, rfl, .inl upd_same, hz, hf⟩, fun H2 p2 s2 h2 => ⟨s2 _ _ upd_same, ?_⟩⟩
        have s3 := same_del s2 n1
        have h3 : delH H2 a p2 = some (.lst ((one6 1).map V.bl)) := by
          rw [delH_ne (fun k => by rw [k, s2 _ _ upd_same] at h2; cases h2)]
          exact h2
        refine ⟨.ref a, rfl, T.C_TooMany, _, _, true, rfl, rfl, rfl, T.X_TooMany, .ty _, T.v_TooMany, sl1, fun p3 n3 => ?_⟩
        refine ⟨p2, p3, _, _, rfl, rfl, same_upd n3 _ _ h3, upd_same, by show 7 ≤ sizeLine; decide, fun p4 n4 => ?_⟩
        exact ⟨_, rfl, q _ p4 (((s0.trans s3).trans (same_upd n3)).trans (same_upd n4)) upd_same⟩
      · refine ⟨a, 1, rfl, by decide, ⟨T.C_TooMany, oe, rfl, .inr hb, hz, hf⟩, fun H2 p2 s2 h2 => ?_⟩
        refine ⟨.ref a, rfl, T.C_TooMany, _, _, true, rfl, rfl, rfl, T.X_TooMany, .ty _, T.v_TooMany, sl1, fun p3 n3 => ?_⟩
        refine ⟨p2, p3, _, _, rfl, rfl, same_upd n3 _ _ h2, upd_same, by show 7 ≤ sizeLine; decide, fun p4 n4 => ?_⟩
        exact ⟨_, rfl, q _ p4 (((s0.trans s2).trans (same_upd n3)).trans (same_upd n4)) upd_same⟩
    have n1 : i ≠ 1 := fun z => h (by rw [z]; exact decide_eq_true rfl)
    refine ⟨.int i, rfl, rfl, _, rfl, ite2 (fun h => ?_) (fun h => ?_)⟩
    · have : i = 2 := by
        have := V.int.inj (of_decide_eq_true h)
        omega
      subst this
      refine ⟨.str z, rfl, true, T.x_NotFormula_NetError, fun _ a na => ?_, fun z => by cases z⟩
      refine ⟨.ref a, rfl, fun oe hz hf => ⟨fun n1 => ?_, fun hb => ?_⟩⟩
      · refine ⟨a, 2, rfl, by decide, ⟨T.C_NotFormula, oe, rfl, .inl upd_same, hz, hf⟩, fun H2 p2 s2 h2 => ⟨s2 _ _ upd_same, ?_⟩⟩
        have s3 := same_del s2 n1
        have h3 : delH H2 a p2 = some (.lst ((one6 2).map V.bl)) := by
          rw [delH_ne (fun k => by rw [k, s2 _ _ upd_same] at h2; cases h2)]
          exact h2
        refine ⟨.ref a, rfl, T.C_NotFormula, _, _, true, rfl, rfl, rfl, T.X_NotFormula, .ty _, T.v_NotFormula, sl1, fun p3 n3 => ?_⟩
        refine ⟨p2, p3, _, _, rfl, rfl, same_upd n3 _ _ h3, upd_same, by show 7 ≤ sizeLine; decide, fun p4 n4 => ?_⟩
        exact ⟨_, rfl, q _ p4 (((s0.trans s3).trans (same_upd n3)).trans (same_upd n4)) upd_same⟩
      · refine ⟨a, 2, rfl, by decide, ⟨T.C_NotFormula, oe, rfl, .inr hb, hz, hf⟩, fun H2 p2 s2 h2 => ?_⟩
        refine ⟨.ref a, rfl, T.C_NotFormula, _, _, true, rfl, rfl, rfl, T.X_NotFormula, .ty _, T.v_NotFormula, sl1, fun p3 n3 => ?_⟩
        refine ⟨p2, p3, _, _, rfl, rfl, same_upd n3 _ _ h2, upd_same, by show 7 ≤ sizeLine; decide, fun p4 n4 => ?_⟩
        exact ⟨_, rfl, q _ p4 (((s0.trans s2).trans (same_upd n3)).trans (same_upd n4)) upd_same⟩
    have n2 : i ≠ 2 := fun z => h (by rw [z]; exact decide_eq_true rfl)
    refine ⟨.int i, rfl, rfl, _, rfl, ite2 (fun h => ?_) (fun h => ?_)⟩
    · have : i = 3 := by
        have := V.int.inj (of_decide_eq_true h)
        omega
      subst this
      refine ⟨.str z, rfl, true, T.x_NoTurn_NetError, fun _ a na => ?_, fun z => by cases z⟩
      refine ⟨.ref a, rfl, fun oe hz hf => ⟨fun n1 => ?_, fun hb => ?_⟩⟩
      · refine ⟨a, 3, rfl, by decide, ⟨T.C_NoTurn, oe, rfl, .inl upd_same, hz, hf⟩, fun H2 p2 s2 h2 => ⟨s2 _ _ upd_same, ?_⟩⟩
        have s3 := same_del s2 n1
        have h3 : delH H2 a p2 = some (.lst ((one6 3).map V.bl)) := by
          rw [delH_ne (fun k => by rw [k, s2 _ _ upd_same] at h2; cases h2)]
          exact h2
        refine ⟨.ref a, rfl, T.C_NoTurn, _, _, true, rfl, rfl, rfl, T.X_NoTurn, .ty _, T.v_NoTurn, sl1, fun p3 n3 => ?_⟩
        refine ⟨p2, p3, _, _, rfl, rfl, same_upd n3 _ _ h3, upd_same, by show 7 ≤ sizeLine; decide, fun p4 n4 => ?_⟩
        exact ⟨_, rfl, q _ p4 (((s0.trans s3).trans (same_upd n3)).trans (same_upd n4)) upd_same⟩
      · refine ⟨a, 3, rfl, by decide, ⟨T.C_NoTurn, oe, rfl, .inr hb, hz, hf⟩, fun H2 p2 s2 h2 => ?_⟩
        refine ⟨.ref a, rfl, T.C_NoTurn, _, _, true, rfl, rfl, rfl, T.X_NoTurn, .ty _, T.v_NoTurn, sl1, fun p3 n3 => ?_⟩
        refine ⟨p2, p3, _, _, rfl, rfl, same_upd n3 _ _ h2, upd_same, by show 7 ≤ sizeLine; decide, fun p4 n4 => ?_⟩
        exact ⟨_, rfl, q _ p4 (((s0.trans s2).trans (same_upd n3)).trans (same_upd n4)) upd_same⟩
    have n3 : i ≠ 3 := fun z => h (by rw [z]; exact decide_eq_true rfl)
    refine ⟨.int i, rfl, rfl, _, rfl, ite2 (fun h => ?_) (fun h => ?_)⟩
    · have : i = 4 := by
        have := V.int.inj (of_decide_eq_true h)
        omega
      subst this
      refine ⟨.str z, rfl, true, T.x_NoForms_NetError, fun _ a na => ?_, fun z => by cases z⟩
      refine ⟨.ref a, rfl, fun oe hz hf => ⟨fun n1 => ?_, fun hb => ?_⟩⟩
      · refine ⟨a, 4, rfl, by decide, ⟨T.C_NoForms, oe, rfl, .inl upd_same, hz, hf⟩, fun H2 p2 s2 h2 => ⟨s2 _ _ upd_same, ?_⟩⟩
        have s3 := same_del s2 n1
        have h3 : delH H2 a p2 = some (.lst ((one6 4).map V.bl)) := by
          rw [delH_ne (fun k => by rw [k, s2 _ _ upd_same] at h2; cases h2)]
          exact h2
        refine ⟨.ref a, rfl, T.C_NoForms, _, _, true, rfl, rfl, rfl, T.X_NoForms, .ty _, T.v_NoForms, sl1, fun p3 n3 => ?_⟩
        refine ⟨p2, p3, _, _, rfl, rfl, same_upd n3 _ _ h3, upd_same, by show 7 ≤ sizeLine; decide, fun p4 n4 => ?_⟩
        exact ⟨_, rfl, q _ p4 (((s0.trans s3).trans (same_upd n3)).trans (same_upd n4)) upd_same⟩
      · refine ⟨a, 4, rfl, by decide, ⟨T.C_NoForms, oe, rfl, .inr hb, hz, hf⟩, fun H2 p2 s2 h2 => ?_⟩
        refine ⟨.ref a, rfl, T.C_NoForms, _, _, true, rfl, rfl, rfl, T.X_NoForms, .ty _, T.v_NoForms, sl1, fun p3 n3 => ?_⟩
        refine ⟨p2, p3, _, _, rfl, rfl, same_upd n3 _ _ h2, upd_same, by show 7 ≤ sizeLine; decide, fun p4 n4 => ?_⟩
        exact ⟨_, rfl, q _ p4 (((s0.trans s2).trans (same_upd n3)).trans (same_upd n4)) upd_same⟩
    have n4 : i ≠ 4 := fun z => h (by rw [z]; exact decide_eq_true rfl)
    have : i = 5 := by omega
    subst this
    refine ⟨.str z, rfl, true, T.x_NoRow_NetError, fun _ a na => ?_, fun z => by cases z⟩
    refine ⟨.ref a, rfl, fun oe hz hf => ⟨fun n1 => ?_, fun hb => ?_⟩⟩
    · refine ⟨a, 5, rfl, by decide, ⟨T.C_NoRow, oe, rfl, .inl upd_same, hz, hf⟩, fun H2 p2 s2 h2 => ⟨s2 _ _ upd_same, ?_⟩⟩
      have s3 := same_del s2 n1
      have h3 : delH H2 a p2 = some (.lst ((one6 5).map V.bl)) := by
        rw [delH_ne (fun k => by rw [k, s2 _ _ upd_same] at h2; cases h2)]
        exact h2
      refine ⟨.ref a, rfl, T.C_NoRow, _, _, true, rfl, rfl, rfl, T.X_NoRow, .ty _, T.v_NoRow, sl1, fun p3 n3 => ?_⟩
      refine ⟨p2, p3, _, _, rfl, rfl, same_upd n3 _ _ h3, upd_same, by show 7 ≤ sizeLine; decide, fun p4 n4 => ?_⟩
      exact ⟨_, rfl, q _ p4 (((s0.trans s3).trans (same_upd n3)).trans (same_upd n4)) upd_same⟩
    · refine ⟨a, 5, rfl, by decide, ⟨T.C_NoRow, oe, rfl, .inr hb, hz, hf⟩, fun H2 p2 s2 h2 => ?_⟩
      refine ⟨.ref a, rfl, T.C_NoRow, _, _, true, rfl, rfl, rfl, T.X_NoRow, .ty _, T.v_NoRow, sl1, fun p3 n3 => ?_⟩
      refine ⟨p2, p3, _, _, rfl, rfl, same_upd n3 _ _ h2, upd_same, by show 7 ≤ sizeLine; decide, fun p4 n4 => ?_⟩
      exact ⟨_, rfl, q _ p4 (((s0.trans s2).trans (same_upd n3)).trans (same_upd n4)) upd_same⟩
end
end Gk

set_option Elab.async false
set_option linter.all false
set_option maxRecDepth 100000
set_option maxHeartbeats 1000000
namespace Gk
open PySem PySem.Spec PyProof.Rows L2
def one (c : Nat) : Str := SX.S [c]
theorem one_len (c : Nat) : (one c).length = 1 := rfl
theorem joinL_nil : ∀ l : List (List Nat), TL.joinL [] l = l.flatten
  | [] => rfl
  | [p] => by simp [TL.joinL]
  | p :: q :: r => by
    show p ++ ([] ++ TL.joinL [] (q :: r)) = _
    rw [joinL_nil (q :: r)]
    rfl
theorem join_one (cs : List Nat) : Txt.join (Str.ofString "") (cs.map one) = SX.S cs := by
  have e : cs.map one = (cs.map fun c => [c]).map SX.S := by rw [List.map_map]; rfl
  have z : Str.ofString "" = SX.S [] := by decide +kernel
  rw [e, z, SX.join_S, joinL_nil]
  have : (cs.map fun c => [c]).flatten = cs := by
    clear e z
    induction cs with
    | nil => rfl
    | cons b r ih => rw [List.map_cons, List.flatten_cons, ih]; rfl
  rw [this]
theorem ones_sum (cs : List Nat) : ((cs.map one).map (·.length)).sum = cs.length := by
  induction cs with
  | nil => rfl
  | cons b r ih =>
    rw [List.map_cons, List.map_cons, List.sum_cons, ih, List.length_cons, one_len]
    omega
theorem join_fit {cs : List Nat} (h : cs.length ≤ 64) : ((cs.map one).map (·.length)).sum + (cs.map one).length * (Str.ofString "").length ≤ 16777216 := by
  rw [ones_sum]
  show cs.length + (cs.map one).length * 0 ≤ _
  omega

/-! ### sep.join(elt for tg in iter ..) -/
namespace GxJ
open PySem PySem.Spec PyProof.Rows L2 Builtin Builtin.Str
section
variable {X : Cx}
def tJoinX (P : Addr) (to : TE) (wi : TI) (g : TG) (tt : TT) (te : TE) (vs : List Nat) : TE := fun σ H Q => to σ H fun v H0 => ∃ sep : PySem.Str, v = .str sep ∧ wi σ H0 fun J H1 => GxR.TabG H1 P ∧ ∀ H2, GxR.Tabbed P H1 H2 → ∃ W : Nat → Nat → List V → Hp → Prop, (∃ m, W 0 m [] H2) ∧
  tGx J g tt te (wipe σ vs) vs (fun ys H => ∃ ws : List PySem.Str, ys = ws.map V.str ∧ JoinOk sep ws = true ∧ Q (.str (Txt.join sep ws)) H) YdL W
theorem l_strs : ∀ {ws : List PySem.Str} {us : List Value}, Vals (ws.map V.str) us → ∃ l : List (PySem.Str × Tok), strValues l = us ∧ l.map (·.1) = ws
  | [], _, .nil => ⟨[], rfl, rfl⟩
  | y :: ys, _, .cons r t => by
    obtain ⟨k, rfl⟩ := r
    obtain ⟨l, rfl, e⟩ := l_strs t
    exact ⟨(y, k) :: l, rfl, by rw [List.map_cons, e]⟩
theorem pe_joinX {c P : Addr} {o elt tg iter : Expr} {ifs : List Expr} {apos cpos gpos : Pos} {scope : Scope} {own : List (PySem.Str × Nat)} {to : TE} {wi : TI} {g : TG} {tt : TT} {te : TE} {k : Nat}
    (hr : Room (k + 1) X.A) (hc : X.calm = true) (hN : X.N.Nodup) (ho : PE X o to) (TB : GxR.TabB X.base X.mg c P) (hcode : X.env.code = .ref c)
    (hco : scope.isCoroutine = false) (hdot : scope.names.lookup (".0" : PySem.Str) = some NameKind.local) (nocell : ∀ y ∈ scope.names, y.2 ≠ .cell) (ok : BlkOk X.N X.env.scope scope own) (hi : PI X tg iter wi)
    (hg : ∀ (A' : Around) (s : Shared) (H : Hp) (C : Addr) (cl : List (PySem.Str × Addr)) (code : Value) (fp : List Addr), Room k A' → A'.guards = X.A.guards → PG (gblk X A' s H (genEnv scope cl C code builtinsNs X.env) fp) tg g)
    (ht : ∀ (A' : Around) (s : Shared) (H : Hp) (C : Addr) (cl : List (PySem.Str × Addr)) (code : Value) (fp : List Addr), Room k A' → A'.guards = X.A.guards → PTs (gblk X A' s H (genEnv scope cl C code builtinsNs X.env) fp) ifs tt)
    (he : ∀ (A' : Around) (s : Shared) (H : Hp) (C : Addr) (cl : List (PySem.Str × Addr)) (code : Value) (fp : List Addr), Room k A' → A'.guards = X.A.guards → PE (gblk X A' s H (genEnv scope cl C code builtinsNs X.env) fp) elt te)
    (hs : ∀ v, genFold iter X.env v = pure v) (hbase : attributeBase o "join" X.env (eval o X.env) = eval o X.env := by rfl)
    (hfew : ((backTo cpos (starEach [.GeneratorExp elt [⟨tg, iter, ifs, 0⟩] scope gpos] X.env)).all (fun x => !x.1) && (backToKw cpos (keywordEach [] X.env)).all (fun x => x.1.isSome)
      && decide (([.GeneratorExp elt [⟨tg, iter, ifs, 0⟩] scope gpos] : List Expr).length + ([] : List Keyword).length + (if ([] : List Keyword).isEmpty then 0 else 1) < 30)) = true := by rfl)
    (hline : (apos.endLine == cpos.line) = true := by rfl)
    (hst : starEach [.GeneratorExp elt [⟨tg, iter, ifs, 0⟩] scope gpos] X.env = (false, eval (.GeneratorExp elt [⟨tg, iter, ifs, 0⟩] scope gpos) X.env) :: starEach [] X.env := by rfl)
    (hplain : (backTo cpos (starEach [] X.env)).any (·.1) = false := by rfl) :
    PE X (.Call (.Attribute o "join" apos) [.GeneratorExp elt [⟨tg, iter, ifs, 0⟩] scope gpos] [] cpos) (tJoinX P to wi g tt te (own.map (·.2))) := by
  refine ⟨fun pins s σ H Q I h => ?_⟩
  refine wpAny_Call_method_late hbase hfew hline rfl (thn (ho.run pins s σ H _ I h) fun v s1 ⟨x', H1, I1, r1, sep, ex, q1⟩ => ?_)
  subst ex
  obtain ⟨tk, rfl⟩ := (show ∃ t, v = Value.str sep t from r1)
  refine ⟨"str", _, PySem.F.plainAttrs_str, PySem.F.slot_str_join, PySem.F.type_str_join, typeIs_str _ _ _, (fun _ e => nomatch e), ?_⟩
  rw [hst]
  refine Calls.callWith_builtin (by show (false || (backTo cpos (starEach [] X.env)).any (·.1)) = false; rw [hplain] <;> rfl) (Calls.evalArgs_plain ?_)
  show wpAny _ _ (spliced ((false, eval (.GeneratorExp elt [⟨tg, iter, ifs, 0⟩] scope gpos) X.env) :: backTo cpos (starEach [] X.env))) _ _ s1
  refine Calls.spliced_cons (gx_make (A := X.A.in1.in1.in1) hr ⟨rfl, rfl, rfl, rfl, (by show X.A.units + 1 + 1 + 1 ≤ _; omega)⟩ hc hN TB hcode hco hdot nocell ok hi hg ht he hs I1 q1 fun J H2 H3 u s5 hR hT hG => ?_)
  obtain ⟨W, ⟨m, w0⟩, turn⟩ := hR H3 hT
  refine Calls.spliced_nil ?_
  have ⟨A', s_0, H_0, cenv, fp, ga, gn, go, tn, gs, eu, hGO, hgs, hbare, I5, st5, nf, hlt, keep, back, goes⟩ := hG
  have pin5 := (I5.pin (ga, go) (List.mem_append_right _ List.mem_cons_self)).1
  rw [eu] at hG ⊢
  have hTI : s5.TypeIs (.ref ga) "generator" := (hGO.isGen pin5).typeIs
  refine wpAny_call (codeAny_call_builtin F.slot_str_join.plain F.entry_str_join (F.slot_str_join.check _ _ _ _ _ _ _ _ (typeIs_str _ _ _) (F.args_str_join_2 _ _) ?_))
  show wpAny _ X.A.in1 («str.join» ⟨[.str sep tk, .ref ga], []⟩) _ _ s5
  rw [join_tree_other]
  refine wpAny_bind (wpAny_typeOf hTI ?_)
  show wpAny _ X.A.in1 ((pyIter (.ref ga)).tryCatch _ >>= fun it => collect it >>= fun items => joinTail sep items) _ _ s5
  refine wpAny_bind (wpAny_tryCatch (wpAny_pyIter_gen (hGO.isGen pin5) ?_))
  refine wpAny_bind (collect_gx (A := X.A.in1) hr.hd hr.depth hG w0 turn (fun s' acc ys H' I' rv q => ?_))
  obtain ⟨ws, rfl, hok, hq⟩ := q
  obtain ⟨l, hl, el⟩ := l_strs rv
  rw [← hl]
  subst el
  unfold JoinOk at hok
  rw [Bool.not_eq_true'] at hok
  have gj : Gives (joinTail sep (strValues l)) (joinMade sep l) := by
    have g0 := gives_joinTail sep l hok
    cases l with
    | nil => exact g0
    | cons p r => cases r with
      | nil => exact g0
      | cons q r' => exact g0
  exact gj X.prog X.w X.A (wants _ _) s' (post_join l ⟨joinFit_length hok, fun t' k' => ⟨.str _, H', I'.tok k', ⟨t', rfl⟩, hq⟩⟩)
end
end GxJ

section
variable {P : Program} {w : World} {K : PySem.W.Frag} {mg : Str → Option Value} {base : Heap}
/-! ### show_row -/
def Row01' (r : List Int) : Prop := ∀ x ∈ r, x = 0 ∨ x = 1
def wS (b : Int) : Nat := if b = 1 then 49 else 48
theorem str01 {b : Int} (h : b = 0 ∨ b = 1) : (toString b : Str) = one (wS b) := by
  rcases h with rfl | rfl <;> decide +kernel
def rowS (r : List Int) : List Nat := r.map wS
theorem joinOk_ones (cs : List Nat) (h : cs.length ≤ 64) : JoinOk (Str.ofString "") (cs.map one) = true := by
  have key : ∀ (cs : List Nat) (n : Nat), (cs.map one).foldl (fun a t => a + t.length + (Str.ofString "").length) n = n + cs.length := by
    intro cs
    induction cs with
    | nil => intro n; rfl
    | cons c r ih =>
      intro n
      rw [List.map_cons, List.foldl_cons, ih, List.length_cons]
      show n + 1 + 0 + r.length = n + (r.length + 1)
      omega
  unfold JoinOk
  rw [List.foldl_toArray', key]
  · unfold Builtin.Str.tooLong
    rw [decide_eq_false (show ¬ (0 + cs.length > sizeLine) by rw [sizeLine_eq]; omega)]
    rfl
  · simp
def sp_show_row (T : Tx K mg) : Sp := fun vs H Q _ => ∃ (a : Addr) (r : List Int), vs = [.ref a] ∧ H a = some (.tup (r.map V.int)) ∧ Row01' r ∧ r.length ≤ 6 ∧ Tabs H T.tabs ∧ ∀ H', Gr H H' → Q (.str (SX.S (rowS r))) H'
theorem ok_show_row (T : Tx K mg) (B : Tb base T) : FnOk P w K mg base CX0 2 T.f_show_row T.fd_show_row ["row"] (sp_show_row T) := by
  refine okC T.F_show_row sc_show_row (fun vs H Q E h => ?_) (fun A outer s H vs Q E hr h => ?_)
  · obtain ⟨a, r, rfl, _⟩ := h
    rfl
  · obtain ⟨a, r, rfl, ha, ok, l6, tabs, q⟩ := h
    refine ⟨_, (pss_one (ps_ret (GxJ.pe_joinX (own := [("worth", 1)]) (k := 0) (hr.mono (by decide)) rfl sc_show_row.nd pe_str B.TB_show_row T.cd_show_row rfl rfl (by decide +kernel) (blkOk_by (own := [("worth", 1)]) (N := ["row", "worth"]) (sc := defScope s_show_row) (by decide +kernel)) (pi_tup (pv 0)) (fun _ _ _ _ _ _ _ hr gd => (pg_name (i := 1) sc_show_row.nd rfl (by first | exact .inl rfl | exact .inr rfl))) (fun _ _ _ _ _ _ _ hr gd => pts_nil) (fun _ _ _ _ _ _ _ hr gd => (pe_callTy call_str_int (by rfl) T.m_str (by decide +kernel) (pa_cons (pv 1) pa_nil))) (fun _ => rfl)))), ?_⟩
    have tab : GxR.TabG H T.P_show_row := tabs _ (by simp [Tx.tabs])
    refine ⟨_, rfl, .ref a, rfl, a, rfl, ⟨_, SqT.of ha⟩, tab, fun H2 tb2 => ?_⟩
    have g2 := Gr.tab tab tb2
    refine gx_tup (K := K) (a := a) (xs := r.map V.int) (fun j ys H' => H' = H2 ∧ ys = ((rowS (r.take j)).map one).map V.str) ⟨rfl, rfl⟩ (fun j ys H' _ ⟨e, _⟩ => by rw [e]; exact SqT.of (g2.tup ha)) ?_ ?_
    · rintro j x ys H' hx ⟨rfl, rfl⟩
      obtain ⟨b, hb, rfl⟩ : ∃ b, r[j]? = some b ∧ x = V.int b := by
        rw [List.getElem?_map] at hx
        cases hz : r[j]? with
        | none => rw [hz] at hx; cases hx
        | some u => rw [hz] at hx; exact ⟨u, rfl, (Option.some.inj hx).symm⟩
      have hb01 := ok b (List.mem_of_getElem? hb)
      refine ⟨rfl, .int b, rfl, b, rfl, by rcases hb01 with rfl | rfl <;> decide, ?_⟩
      rw [str01 hb01]
      refine ⟨?_, rfl, ?_⟩
      · unfold rowS
        rw [List.length_map, List.length_map, List.length_map, List.length_take]
        exact Nat.lt_of_lt_of_le (show _ < 64 by omega) (by decide)
      · unfold rowS
        rw [List.take_add_one, hb]
        simp
    · rintro ys H' ⟨rfl, rfl⟩
      rw [List.length_map, List.take_length]
      refine ⟨(rowS r).map one, rfl, joinOk_ones _ (by unfold rowS; rw [List.length_map]; omega), ?_⟩
      rw [join_one]
      exact q _ g2

def chT (a b : List Int) : List Nat := rowS a ++ (to4 ++ rowS b)
def sp_show_change (T : Tx K mg) : Sp := fun vs H Q _ => ∃ (p pa pb : Addr) (a b : List Int), vs = [.ref p] ∧ H p = some (.tup [.ref pa, .ref pb]) ∧ H pa = some (.tup (a.map V.int)) ∧ H pb = some (.tup (b.map V.int)) ∧ Row01' a ∧ Row01' b ∧ a.length ≤ 6 ∧ b.length ≤ 6 ∧ Tabs H T.tabs ∧ ∀ H', Gr H H' → Q (.str (SX.S (chT a b))) H'
theorem ok_show_change (T : Tx K mg) (B : Tb base T) : FnOk P w K mg base CX0 3 T.f_show_change T.fd_show_change ["change"] (sp_show_change T) := by
  refine T.F_show_change.ok sc_show_change (fun vs H Q E h => ?_) (fun cdv A outer s H vs Q E hr h => ?_)
  · obtain ⟨p, pa, pb, a, b, rfl, _⟩ := h
    rfl
  · obtain ⟨p, pa, pb, a, b, rfl, hp, ha, hb, ra, rb, la, lb, tabs, q⟩ := h
    refine ⟨_, (pss_cons (ps_asg (pv 0) (pg_tup rfl (pgs_cons (pg_name (i := 1) sc_show_change.nd rfl (by first | exact .inl rfl | exact .inr rfl)) (pgs_cons (pg_name (i := 2) sc_show_change.nd rfl (by first | exact .inl rfl | exact .inr rfl)) pgs_nil)))) (pss_one (ps_ret (pe_joined (.cons (pe_fmt (pe_call (ok_show_row T B) (hr.mono (by decide)) (by rfl) T.g_show_row T.F_show_row.kp T.b_show_row .nil pass0 (pa_cons (pv 1) pa_nil))) (.cons pe_str (.cons (pe_fmt (pe_call (ok_show_row T B) (hr.mono (by decide)) (by rfl) T.g_show_row T.F_show_row.kp T.b_show_row .nil pass0 (pa_cons (pv 2) pa_nil))) .nil))))))), ?_⟩
    refine ⟨.ref p, rfl, p, _, rfl, SqT.of hp, rfl, _, _, rfl, _, _, rfl, rfl, ?_⟩
    refine ⟨.ref pa, rfl, pa, a, rfl, ha, ra, la, tabs, fun H2 g2 => .inl ⟨_, rfl, ?_, ?_⟩⟩
    · rw [SX.S_len]
      unfold rowS
      rw [List.length_map]
      exact Nat.le_trans la (by decide)
    have lenS : ∀ r : List Int, (rowS r).length = r.length := fun r => by unfold rowS; rw [List.length_map]
    have e0 : Str.empty = SX.S [] := by decide +kernel
    rw [e0, to4_S]
    refine ⟨_, rfl, ?_, _, rfl, ?_, .ref pb, rfl, pb, b, rfl, g2.tup hb, rb, lb, g2.tabs tabs, fun H3 g3 => .inl ⟨_, rfl, ?_, _, rfl, ?_, ?_⟩⟩
    · rw [SX.S_cat, SX.S_len, List.nil_append, lenS]
      exact Nat.le_trans la (by decide)
    · rw [SX.S_cat, SX.S_cat, SX.S_len, List.nil_append, List.length_append, lenS]
      exact Nat.le_trans (show a.length + 4 ≤ 64 by omega) (by decide)
    · rw [SX.S_len, lenS]
      exact Nat.le_trans lb (by decide)
    · rw [SX.S_cat, SX.S_cat, SX.S_cat, SX.S_len, List.nil_append, List.length_append, List.length_append, lenS, lenS]
      exact Nat.le_trans (show a.length + 4 + b.length ≤ 64 by omega) (by decide)
    · have q := q _ (g2.trans g3)
      unfold chT at q
      rw [SX.S_cat, SX.S_cat, SX.S_cat, List.nil_append, List.append_assoc]
      exact q
def sp_row (K : PySem.W.Frag) : Sp := fun vs H Q _ => ∃ (d l : Addr) (n : Int) (m : Nat), vs = [.ref d, .int m] ∧ DeckC H d l n ∧ n < 900000 ∧ m ≤ 6 ∧ ∀ (p : Addr) (bs : List Int) (H' : Hp), DeckC H' d l (n + m) → Fr d l H H' → bs.length = m → (∀ b ∈ bs, b = 0 ∨ b = 1) → H' p = some (.tup (bs.map V.int)) → Q (.ref p) H'
theorem ok_row (T : Tx K mg) : FnOk P w K mg base CX0 3 T.f_row T.fd_row ["_law_deck_here", "_law_many"] (sp_row K) := by
  refine T.F_row.ok sc_row (fun vs H Q E h => ?_) (fun cdv A outer s H vs Q E hr h => ?_)
  · obtain ⟨d, l, n, m, rfl, _⟩ := h
    rfl
  · obtain ⟨d, l, n, m, rfl, D, hn, hm, q⟩ := h
    refine ⟨_, (pss_one (ps_ret (pe_callTy call_tuple_of (by rfl) T.m_tuple (by decide +kernel) (pa_cons (pe_lc (own := [("_law_k", 2)]) (by rfl) sc_row.nd (pi_range1 (by rfl) T.m_range (pa_cons (pv 1) pa_nil)) (blkOk_by (own := [("_law_k", 2)]) (N := ["_law_deck_here", "_law_many", "_law_k"]) (sc := defScope s_row) (by decide +kernel)) (fun _ _ _ _ _ => (pg_name (i := 2) sc_row.nd rfl (by first | exact .inl rfl | exact .inr rfl))) (fun _ _ _ _ _ => pts_nil) (fun _ _ _ _ _ => (pe_call (ok_take T) (hr.mono (by decide)) (by rfl) T.g_take T.F_take.kp T.b_take .nil pass0 (pa_cons (pv 0) (pa_cons pe_int pa_nil))))) pa_nil)))), ?_⟩
    refine ⟨.int m, rfl, m, rfl, by omega, by omega, fun I nI => ?_⟩
    have oI := D.off nI
    refine lc_range (lo := 0) (n := (m : Int).toNat) (fun j H' => DeckC H' d l (n + j) ∧ Fr d l H H' ∧ ∃ bs : List Int, H' I = some (.lst (bs.map V.int)) ∧ bs.length = j ∧ ∀ b ∈ bs, b = 0 ∨ b = 1)
      ⟨(D.same (same_upd nI)).mono (by omega), Fr.new nI, [], upd_same, rfl, fun x hx => by cases hx⟩ ?_ ?_
    · rintro j H2 hj ⟨D2, fr2, bs, hI, lb, okb⟩
      have hj' : j < m := by simpa using hj
      refine ⟨rfl, .ref d, rfl, d, l, 2, _, rfl, D2, by omega, by decide, by decide, fun H3 x D3 fr3 x0 x1 => ?_⟩
      have hI3 := fr3 _ _ oI.1 oI.2 hI
      refine ⟨_, hI3, ?_, (D3.upd oI.1 oI.2).mono (by push_cast; omega), Fr.upd (fr2.trans fr3) nI, bs ++ [x], ?_, by rw [List.length_append, lb]; rfl, fun y hy => ?_⟩
      · rw [List.length_map, lb]
        exact Nat.lt_of_lt_of_le (show j < 64 by omega) (by decide)
      · rw [upd_same, List.map_append]
        rfl
      · rcases List.mem_append.mp hy with z | z
        · exact okb y z
        · rw [List.mem_singleton.mp z]; omega
    · rintro H2 ⟨D2, fr2, bs, hI, lb, okb⟩
      have lb' : bs.length = m := by rw [lb]; simp
      refine ⟨I, _, rfl, .inl ⟨SqL.of hI, fun ti nti => ?_⟩⟩
      have s2 := same_upd (o := HO.tup (bs.map V.int)) nti
      exact q ti bs _ ((D2.same s2).mono (by simp)) (fr2.trans (Fr.of s2)) lb' okb upd_same
def sp_shown (K : PySem.W.Frag) : Sp := fun vs H Q _ => ∃ (p pa pb : Addr) (a b : List Int), vs = [.ref p] ∧ H p = some (.tup [.ref pa, .ref pb]) ∧ H pa = some (.tup (a.map V.int)) ∧ H pb = some (.tup (b.map V.int)) ∧ Row01' a ∧ Row01' b ∧ a.length ≤ 6 ∧ b.length ≤ 6 ∧ ∀ H', Same H H' → Q (.str (SX.S (chT a b))) H'
theorem ok_shown (T : Tx K mg) : FnOk P w K mg base CX0 1 T.f_shown T.fd_shown ["_law_change"] (sp_shown K) := by
  refine T.F_shown.ok sc_shown (fun vs H Q E h => ?_) (fun cdv A outer s H vs Q E hr h => ?_)
  · obtain ⟨p, pa, pb, a, b, rfl, _⟩ := h
    rfl
  · obtain ⟨p, pa, pb, a, b, rfl, hp, ha, hb, ra, rb, la, lb, q⟩ := h
    refine ⟨_, (pss_one (ps_ret (pe_op op_add_str (pe_op op_add_str (pe_join pe_str (pe_lc (own := [("_law_one", 1)]) (by rfl) sc_shown.nd (pi_tup (pe_ix ix_tup (pv 0) pe_int (fun _ _ => rfl))) (blkOk_by (own := [("_law_one", 1)]) (N := ["_law_change", "_law_one"]) (sc := defScope s_shown) (by decide +kernel)) (fun _ _ _ _ _ => (pg_name (i := 1) sc_shown.nd rfl (by first | exact .inl rfl | exact .inr rfl))) (fun _ _ _ _ _ => pts_nil) (fun _ _ _ _ _ => (pe_callTy call_str_int (by rfl) T.m_str (by decide +kernel) (pa_cons (pv 1) pa_nil))))) pe_str) (pe_join pe_str (pe_lc (own := [("_law_one", 1)]) (by rfl) sc_shown.nd (pi_tup (pe_ix ix_tup (pv 0) pe_int (fun _ _ => rfl))) (blkOk_by (own := [("_law_one", 1)]) (N := ["_law_change", "_law_one"]) (sc := defScope s_shown) (by decide +kernel)) (fun _ _ _ _ _ => (pg_name (i := 1) sc_shown.nd rfl (by first | exact .inl rfl | exact .inr rfl))) (fun _ _ _ _ _ => pts_nil) (fun _ _ _ _ _ => (pe_callTy call_str_int (by rfl) T.m_str (by decide +kernel) (pa_cons (pv 1) pa_nil)))))))), ?_⟩
    refine ⟨⟨_, rfl⟩, .ref p, rfl, p, _, 0, .ref pa, rfl, rfl, SqT.of hp, rfl, pa, rfl, ⟨_, SqT.of ha⟩, fun L nL => ?_⟩
    have lenS : ∀ r : List Int, (rowS r).length = r.length := fun r => by unfold rowS; rw [List.length_map]
    refine lc_tup (K := K) (a := pa) (xs := a.map V.int) (fun j H' => Same H H' ∧ H' L = some (.lst (((rowS (a.take j)).map one).map V.str))) ⟨same_upd nL, upd_same⟩ (fun j H' _ ⟨s, _⟩ => SqT.of (s _ _ ha)) ?_ ?_
    · rintro j x H' hx ⟨s1, h1⟩
      obtain ⟨c, hc, rfl⟩ : ∃ c, a[j]? = some c ∧ x = V.int c := by
        rw [List.getElem?_map] at hx
        cases hz : a[j]? with
        | none => rw [hz] at hx; cases hx
        | some u => rw [hz] at hx; exact ⟨u, rfl, (Option.some.inj hx).symm⟩
      have c01 := ra c (List.mem_of_getElem? hc)
      refine ⟨rfl, .int c, rfl, c, rfl, by rcases c01 with rfl | rfl <;> decide, ?_⟩
      rw [str01 c01]
      refine ⟨_, h1, ?_, fun b' o e => ?_, ?_⟩
      · rw [List.length_map, List.length_map, lenS, List.length_take]
        exact Nat.lt_of_lt_of_le (show _ < 64 by omega) (by decide)
      · rw [upd_ne (fun k => by rw [k, nL] at e; cases e)]
        exact s1 _ _ e
      · rw [upd_same]
        unfold rowS
        rw [List.take_add_one, hc]
        simp
    · rintro H2 ⟨s2, h2⟩
      rw [List.length_map, List.take_length] at h2
      refine ⟨_, L, (rowS a).map one, rfl, rfl, .inl (SqL.of h2), join_fit (by rw [lenS]; omega), ?_⟩
      rw [join_one, to4_S]
      refine ⟨_, _, rfl, rfl, ?_, ?_⟩
      · rw [SX.S_len, SX.S_len, lenS]
        exact Nat.le_trans (show a.length + 4 ≤ 64 by omega) (by decide)
      rw [SX.S_cat]
      refine ⟨⟨_, rfl⟩, .ref p, rfl, p, _, 1, .ref pb, rfl, rfl, SqT.of (s2 _ _ hp), rfl, pb, rfl, ⟨_, SqT.of (s2 _ _ hb)⟩, fun M nM => ?_⟩
      refine lc_tup (K := K) (a := pb) (xs := b.map V.int) (fun j H' => Same H2 H' ∧ H' M = some (.lst (((rowS (b.take j)).map one).map V.str))) ⟨same_upd nM, upd_same⟩ (fun j H' _ ⟨s, _⟩ => SqT.of (s _ _ (s2 _ _ hb))) ?_ ?_
      · rintro j x H' hx ⟨s1, h1⟩
        obtain ⟨c, hc, rfl⟩ : ∃ c, b[j]? = some c ∧ x = V.int c := by
          rw [List.getElem?_map] at hx
          cases hz : b[j]? with
          | none => rw [hz] at hx; cases hx
          | some u => rw [hz] at hx; exact ⟨u, rfl, (Option.some.inj hx).symm⟩
        have c01 := rb c (List.mem_of_getElem? hc)
        refine ⟨rfl, .int c, rfl, c, rfl, by rcases c01 with rfl | rfl <;> decide, ?_⟩
        rw [str01 c01]
        refine ⟨_, h1, ?_, fun b' o e => ?_, ?_⟩
        · rw [List.length_map, List.length_map, lenS, List.length_take]
          exact Nat.lt_of_lt_of_le (show _ < 64 by omega) (by decide)
        · rw [upd_ne (fun k => by rw [k, nM] at e; cases e)]
          exact s1 _ _ e
        · rw [upd_same]
          unfold rowS
          rw [List.take_add_one, hc]
          simp
      · rintro H3 ⟨s3, h3⟩
        rw [List.length_map, List.take_length] at h3
        refine ⟨_, M, (rowS b).map one, rfl, rfl, .inl (SqL.of h3), join_fit (by rw [lenS]; omega), ?_⟩
        rw [join_one]
        refine ⟨_, _, rfl, rfl, ?_, ?_⟩
        · rw [SX.S_len, SX.S_len, List.length_append, lenS, lenS]
          exact Nat.le_trans (show a.length + 4 + b.length ≤ 64 by omega) (by decide)
        · have q := q _ (s2.trans s3)
          unfold chT at q
          rw [SX.S_cat, List.append_assoc]
          exact q
end
end Gk

set_option Elab.async false
set_option linter.all false
set_option maxRecDepth 100000
set_option maxHeartbeats 1000000
namespace Gk
open PySem PySem.Spec PyProof.Rows L2
/-! ### slices and sums of tuples: what is told stands in a heap that has grown -/
theorem cut_all {xs : List V} {lo hi : Option Int} (h : HT.sIx xs.length 0 lo = 0 ∧ HT.sIx xs.length xs.length hi = xs.length) : cutV xs lo hi = xs := by
  unfold cutV
  rw [h.1, h.2, List.drop_zero, Nat.sub_zero, List.take_length]
theorem same_refl {H : Hp} : Same H H := fun _ _ e => e
theorem slA {K : PySem.W.Frag} {a : Addr} {xs : List V} {lo hi : Option Int} {H : Hp} {Q : VK} (h : H a = some (.tup xs)) (q : ∀ p H', Same H H' → H' p = some (.tup (cutV xs lo hi)) → Q (.ref p) H') : rSlA K (.ref a) lo hi H Q :=
  ⟨a, xs, rfl, SqT.of h, fun w => q a H same_refl (by rw [cut_all w]; exact h), fun _ p np => q p _ (same_upd np) upd_same⟩
theorem slAn {K : PySem.W.Frag} {a : Addr} {xs : List V} {lo : Option Int} {H : Hp} {Q : VK} {σ : L2.St} (h : H a = some (.tup xs)) (q : ∀ p H', Same H H' → H' p = some (.tup (cutV xs lo none)) → Q (.ref p) H') : tNoPart σ H (fun u H3 => rSlA K (.ref a) lo u H3 Q) := slA h q
theorem catA {K : PySem.W.Frag} {a b : Addr} {xs ys : List V} {H : Hp} {Q : VK} (ha : H a = some (.tup xs)) (hb : H b = some (.tup ys)) (hl : xs.length + ys.length ≤ sizeLine) (q : ∀ p H', Same H H' → H' p = some (.tup (xs ++ ys)) → Q (.ref p) H') : rCatA K (.ref a) (.ref b) H Q :=
  ⟨a, b, xs, ys, rfl, rfl, SqT.of ha, SqT.of hb, hl, fun e => q b H same_refl (by rw [e]; exact hb), fun _ e => q a H same_refl (by rw [e, List.append_nil]; exact ha), fun _ _ p np => q p _ (same_upd np) upd_same⟩
theorem cut_to {xs : List V} {k : Nat} : cutV xs none (some (k : Int)) = xs.take k := by
  unfold cutV
  rw [HT.sIx_none, HT.sIx_nat, List.drop_zero, Nat.sub_zero]
  apply List.ext_getElem?
  intro i
  rw [List.getElem?_take, List.getElem?_take]
  by_cases h : i < k
  · rw [if_pos h]
    by_cases h2 : i < xs.length
    · rw [if_pos (by omega)]
    · rw [List.getElem?_eq_none (by omega)]
      split <;> rfl
  · rw [if_neg h, if_neg (by omega)]
theorem cut_from {xs : List V} {k : Nat} : cutV xs (some (k : Int)) none = xs.drop k := by
  unfold cutV
  rw [HT.sIx_none, HT.sIx_nat]
  by_cases h : k ≤ xs.length
  · rw [Nat.min_eq_left h]
    exact List.take_of_length_le (by rw [List.length_drop]; exact Nat.le_refl _)
  · rw [Nat.min_eq_right (by omega), Nat.sub_self, List.take_zero, List.drop_eq_nil_of_le (by omega)]
theorem TkAll.take {H : Hp} : ∀ {xs : List V} {ds : List PyData} (k : Nat), TkAll H xs ds → TkAll H (xs.take k) (ds.take k)
  | _, _, 0, _ => by rw [List.take_zero, List.take_zero]; exact .nil
  | _, _, _ + 1, .nil => .nil
  | _, _, k + 1, .cons a t => .cons a (t.take k)
theorem TkAll.drop {H : Hp} : ∀ {xs : List V} {ds : List PyData} (k : Nat), TkAll H xs ds → TkAll H (xs.drop k) (ds.drop k)
  | _, _, 0, t => t
  | _, _, _ + 1, .nil => .nil
  | _, _, k + 1, .cons _ t => t.drop k
theorem set_put {α : Type} {l : List α} {i : Nat} {x : α} (h : i < l.length) : (l.take i ++ [x]) ++ l.drop (i + 1) = l.set i x := by
  rw [List.set_eq_take_append_cons_drop, if_pos h, List.append_assoc]
  rfl
def rJoinK (K : PySem.W.Frag) : V → List V → Hp → VK → Prop := fun x xs H Q => ∃ a p, ∃ ys : List Str, x = .str a ∧ xs = [.ref p] ∧ (SqL K H p (ys.map V.str) ∨ SqT K H p (ys.map V.str)) ∧ (ys.map (·.length)).sum + ys.length * a.length ≤ 16777216 ∧ Q (.str (Txt.join a ys)) H

/-! ### walks over texts -/
theorem lc_str {z : Str} {g : TG} {tt : TT} {te : TE} {vs : List Nat} {σ : L2.St} {H1 : Hp} {D : Addr} {Qd : Hp → Prop} (Pv : Nat → Hp → Prop) (h0 : Pv 0 (upd H1 D (.lst [])))
    (hs : ∀ i x H, z.cps[i]? = some x → Pv i H → g (.str ⟨#[x]⟩) (wipe σ vs) H fun σ2 H2 => wipe σ2 vs = wipe σ vs ∧ tt σ2 H2 fun b H3 =>
      if b = true then te σ2 H3 fun y H4 => ∃ acc, H4 D = some (.lst acc) ∧ acc.length < sizeLine ∧ Pv (i + 1) (upd H4 D (.lst (acc ++ [y]))) else Pv (i + 1) H3) (hd : ∀ H, Pv z.cps.size H → Qd H) :
    ∃ W : Nat → Nat → Hp → Prop, (∃ m, W 0 m (upd H1 D (.lst []))) ∧ ∀ i m H, W i m H →
      ((Its z).stop i H ∧ Qd H) ∨ ((Its z).go i H ∧ ∃ Nx : Hp → Prop, (∀ H', Nx H' → ∃ m', m' < m ∧ W (i + 1) m' H') ∧ ∀ x H', (Its z).yld i H x H' → g x (wipe σ vs) H' fun σ2 H2 => wipe σ2 vs = wipe σ vs ∧ tt σ2 H2 fun b H3 =>
        if b = true then te σ2 H3 fun y H4 => ∃ acc, H4 D = some (.lst acc) ∧ acc.length < sizeLine ∧ Nx (upd H4 D (.lst (acc ++ [y]))) else Nx H3) := by
  refine ⟨fun i m H => m = z.cps.size - i ∧ i ≤ z.cps.size ∧ Pv i H, ⟨z.cps.size, by simp, Nat.zero_le _, h0⟩, ?_⟩
  rintro i m H ⟨rfl, hi, p⟩
  by_cases hlt : i < z.cps.size
  · refine .inr ⟨hlt, Pv (i + 1), fun H' p' => ⟨z.cps.size - (i + 1), by omega, rfl, hlt, p'⟩, fun x H' y => ?_⟩
    obtain ⟨rfl, ch, hc, rfl⟩ := y
    exact hs i ch _ hc p
  · have e : i = z.cps.size := by omega
    subst e
    exact .inl ⟨Nat.le_refl _, hd H p⟩
theorem for_str {z : Str} {g : TG} {tb : TS} {D : Ends} {σ : L2.St} {H : Hp} (Pv : Nat → L2.St → Hp → Prop) (h0 : Pv 0 σ H)
    (hs : ∀ i x σ H, z.cps[i]? = some x → Pv i σ H → g (.str ⟨#[x]⟩) σ H fun σ2 H2 => tb { D with nx := Pv (i + 1), ct := Pv (i + 1), bk := D.nx } σ2 H2) (hd : ∀ σ H, Pv z.cps.size σ H → D.nx σ H) :
    ∃ W : Nat → Nat → L2.St → Hp → Prop, (∃ m, W 0 m σ H) ∧ ∀ i m σ H, W i m σ H →
      ((Its z).stop i H ∧ D.nx σ H) ∨ ((Its z).go i H ∧ ∃ N : L2.St → Hp → Prop, (∀ σ' H', N σ' H' → ∃ m', m' < m ∧ W (i + 1) m' σ' H') ∧ ∀ x H', (Its z).yld i H x H' → g x σ H' fun σ2 H2 => tb { D with nx := N, ct := N, bk := D.nx } σ2 H2) := by
  refine ⟨fun i m σ H => m = z.cps.size - i ∧ i ≤ z.cps.size ∧ Pv i σ H, ⟨z.cps.size, by simp, Nat.zero_le _, h0⟩, ?_⟩
  rintro i m σ H ⟨rfl, hi, p⟩
  by_cases hlt : i < z.cps.size
  · refine .inr ⟨hlt, Pv (i + 1), fun σ' H' p' => ⟨z.cps.size - (i + 1), by omega, rfl, hlt, p'⟩, fun x H' y => ?_⟩
    obtain ⟨rfl, ch, hc, rfl⟩ := y
    exact hs i ch σ _ hc p
  · have e : i = z.cps.size := by omega
    subst e
    exact .inl ⟨Nat.le_refl _, hd σ H p⟩
theorem S_at {p : List Nat} {i x : Nat} (h : (SX.S p).cps[i]? = some x) : p[i]? = some x := by
  have : (SX.S p).cps = p.toArray := rfl
  rw [this, List.getElem?_toArray] at h
  exact h
theorem S_size (p : List Nat) : (SX.S p).cps.size = p.length := by
  show p.toArray.size = _
  simp

theorem cutS_to (l : List Nat) (k : Nat) : cutS (SX.S l) none (some (k : Int)) = SX.S (l.take k) := by
  unfold cutS
  rw [SX.S_len, HT.sIx_none, HT.sIx_nat, List.drop_zero, Nat.sub_zero]
  have e : (SX.S l).cps.toList = l := by simp
  rw [e]
  congr 1
  by_cases h : k ≤ l.length
  · rw [Nat.min_eq_left h]
  · rw [Nat.min_eq_right (by omega), List.take_length, List.take_of_length_le (by omega)]
theorem cutS_from (l : List Nat) (k : Nat) : cutS (SX.S l) (some (k : Int)) none = SX.S (l.drop k) := by
  unfold cutS
  rw [SX.S_len, HT.sIx_none, HT.sIx_nat]
  have e : (SX.S l).cps.toList = l := by simp
  rw [e]
  congr 1
  by_cases h : k ≤ l.length
  · rw [Nat.min_eq_left h, List.take_of_length_le (show (l.drop k).length ≤ l.length - k by rw [List.length_drop]; exact Nat.le_refl _)]
  · rw [Nat.min_eq_right (by omega), Nat.sub_self, List.take_zero, List.drop_eq_nil_of_le (by omega)]
theorem cutS_mid (l : List Nat) (k : Nat) (h : k + 4 ≤ l.length) : cutS (SX.S l) (some (k : Int)) (some ((k : Int) + 4)) = SX.S ((l.drop k).take 4) := by
  unfold cutS
  have e2 : HT.sIx l.length l.length (some ((k : Int) + 4)) = min (k + 4) l.length := HT.sIx_nat l.length l.length (k + 4)
  rw [SX.S_len, HT.sIx_nat, e2, Nat.min_eq_left h, show min k l.length = k by omega]
  have e : (SX.S l).cps.toList = l := by simp
  rw [e, show k + 4 - k = 4 by omega]
theorem count_l (l : List Nat) (c : Nat) : Txt.count (SX.S l) ⟨#[c]⟩ = (l.count c : Int) := by
  rw [count_is]
  have e : (SX.S l).cps.toList = l := by simp
  rw [e]
  clear e
  induction l with
  | nil => rfl
  | cons x r ih =>
    rw [List.map_cons, List.count_cons]
    show (if PySem.Spec.same (.str ⟨#[x]⟩) (.str ⟨#[c]⟩) then 1 else 0) + PySem.Spec.countIn _ _ = _
    rw [ih]
    by_cases e : x = c
    · subst e
      rw [if_pos (by simp [PySem.Spec.same])]
      simp
      omega
    · have : PySem.Spec.same (.str ⟨#[x]⟩) (.str ⟨#[c]⟩) = false := by
        simp [PySem.Spec.same, e]
      rw [this]
      simp [e]
theorem count_le (l : List Nat) : l.count 48 + l.count 49 ≤ l.length ∧ (l.count 48 + l.count 49 = l.length ↔ l.all bit = true) := by
  induction l with
  | nil => exact ⟨Nat.le_refl _, by simp⟩
  | cons x r ih =>
    obtain ⟨h1, h2⟩ := ih
    rw [List.count_cons, List.count_cons, List.length_cons, List.all_cons]
    by_cases e : x = 48
    · subst e
      simp [bit]
      constructor
      · omega
      · constructor
        · intro h; have := h2.mp (by omega); simpa [bit] using this
        · intro h; have := h2.mpr (by simpa [bit] using h); omega
    · by_cases e2 : x = 49
      · subst e2
        simp [bit]
        constructor
        · omega
        · constructor
          · intro h; have := h2.mp (by omega); simpa [bit] using this
          · intro h; have := h2.mpr (by simpa [bit] using h); omega
      · have b0 : bit x = false := by simp [bit, e, e2]
        have c0 : (x == 48) = false := by simp [e]
        have c1 : (x == 49) = false := by simp [e2]
        rw [b0, c0, c1]
        simp
        omega
section
variable {P : Program} {w : World} {K : PySem.W.Frag} {mg : Str → Option Value} {base : Heap}
def sp_read (K : PySem.W.Frag) : Sp := fun vs H Q _ => ∃ (m : Nat) (z : Str), vs = [.int m, .str z] ∧ m ≤ 6 ∧ z.length ≤ 1000 ∧ (chL m (TL.tl z) = none → ∀ H', Same H H' → Q .non H') ∧ ∀ a b, chL m (TL.tl z) = some (a, b) → ∀ H' p pa pb, Same H H' → H' p = some (.tup [.ref pa, .ref pb]) → H' pa = some (.tup (a.map fun c => V.int (wB c))) → H' pb = some (.tup (b.map fun c => V.int (wB c))) → Q (.ref p) H'
theorem ok_read (T : Tx K mg) : FnOk P w K mg base CX0 1 T.f_read T.fd_read ["_law_many", "_law_text"] (sp_read K) := by
  refine T.F_read.ok sc_read (fun vs H Q E h => ?_) (fun cdv A outer s H vs Q E hr h => ?_)
  · obtain ⟨m, z, rfl, _⟩ := h
    rfl
  · obtain ⟨m, z, rfl, m6, hz, no, yes⟩ := h
    refine ⟨_, (pss_cons (ps_if (pw_or (pt_cmpR op_ne (pe_callB call_len_str (by rfl) T.m_len PySem.boot_len (pa_cons (pv 1) pa_nil)) (pe_op op_add (pe_op op_mul pe_int (pv 0)) pe_int) (nomark _)) (pw_or1 (pt_cmpR op_ne (pe_slice sl_str (pv 1) (po_some (pv 0)) (po_some (pe_op op_add (pv 0) pe_int))) pe_str (nomark _)))).pt (pss_one (ps_ret pe_non)) pss_nil) (pss_cons (ps_set (i := 2) sc_read.nd rfl (by first | exact .inl rfl | exact .inr rfl) (pe_op op_add_str (pe_slice sl_str (pv 1) po_none (po_some (pv 0))) (pe_slice sl_str (pv 1) (po_some (pe_op op_add (pv 0) pe_int)) po_none))) (pss_cons (ps_if (pt_cmpR op_ne (pe_op op_add (pe_bm PySem.F.plainAttrs_str PySem.F.slot_str_count PySem.F.type_str_count mt_count (pv 2) (pa_cons pe_str pa_nil)) (pe_bm PySem.F.plainAttrs_str PySem.F.slot_str_count PySem.F.type_str_count mt_count (pv 2) (pa_cons pe_str pa_nil))) (pe_op op_mul pe_int (pv 0)) (nomark _)) (pss_one (ps_ret pe_non)) pss_nil) (pss_cons (ps_set (i := 3) sc_read.nd rfl (by first | exact .inl rfl | exact .inr rfl) (pe_callTy call_tuple_of (by rfl) T.m_tuple (by decide +kernel) (pa_cons (pe_lc (own := [("_law_sign", 4)]) (by rfl) sc_read.nd (pi_str (pv 2)) (blkOk_by (own := [("_law_sign", 4)]) (N := ["_law_many", "_law_text", "_law_signs", "_law_worths", "_law_sign"]) (sc := defScope s_read) (by decide +kernel)) (fun _ _ _ _ _ => (pg_name (i := 4) sc_read.nd rfl (by first | exact .inl rfl | exact .inr rfl))) (fun _ _ _ _ _ => pts_nil) (fun _ _ _ _ _ => (show PE _ _ (tBM K "list" _ _ _) from (pe_bm PySem.F.plainAttrs_list PySem.F.slot_list_index PySem.F.type_list_index (show MtR _ _ (rIndex K) from mt_index) (pe_lst (pa_cons pe_str (pa_cons pe_str pa_nil))) (pa_cons (pv 4) pa_nil))))) pa_nil))) (pss_one (ps_ret (pe_tup (pa_cons (pe_slice sl_tupA (pv 3) po_none (po_some (pv 0))) (pa_cons (pe_slice sl_tupA (pv 3) (po_some (pv 0)) po_none) pa_nil))))))))), ?_⟩
    obtain ⟨l, rfl⟩ : ∃ l : List Nat, z = SX.S l := ⟨z.cps.toList, (SX.S_tl z).symm⟩
    have etl : TL.tl (SX.S l) = l := by simp [TL.tl]
    rw [etl] at no yes
    have zf : (SX.S l).length ≤ sizeLine := Nat.le_trans hz (by decide)
    rw [SX.S_len] at hz
    refine ⟨.str (SX.S l), rfl, _, rfl, zf, .int m, rfl, 2, m, rfl, rfl, .inl ⟨by decide, by decide⟩, _, _, rfl, rfl, rfl, _, rfl, ?_⟩
    rw [SX.S_len]
    by_cases hl : l.length = 2 * m + 4
    · have e1 : (decide (V.int (l.length : Int) = V.int (2 * (m : Int) + 4))) = true := decide_eq_true (by rw [hl]; congr 1)
      refine ite2 (fun h => absurd h (by rw [show (!decide (V.int (l.length : Int) = V.int (2 * (m : Int) + 4))) = false by rw [e1]; rfl]; exact Bool.false_ne_true)) (fun _ => ?_)
      refine ⟨.str (SX.S l), rfl, .int m, rfl, m, rfl, .int m, rfl, _, _, rfl, rfl, _, rfl, SX.S l, rfl, zf, rfl, _, rfl, ?_⟩
      rw [cutS_mid l m (by omega), to4_S]
      by_cases ht : (l.drop m).take 4 = to4
      · refine ite2 (fun h => absurd h (by rw [ht, decide_eq_true rfl]; exact Bool.false_ne_true)) (fun _ => ?_)
        have ef : cutS (SX.S l) (some ((m : Int) + 4)) none = SX.S (l.drop (m + 4)) := cutS_from l (m + 4)
        refine ⟨.str (SX.S l), rfl, .int m, rfl, m, rfl, SX.S l, rfl, zf, .str (SX.S l), rfl, .int m, rfl, _, _, rfl, rfl, _, rfl, SX.S l, rfl, zf, _, _, rfl, rfl, ?_, ?_⟩
        · rw [cutS_to, ef, SX.S_len, SX.S_len, List.length_take, List.length_drop]
          exact Nat.le_trans (show _ ≤ 2000 by omega) (by decide)
        rw [cutS_to, ef, SX.S_cat]
        have lg : (l.take m ++ l.drop (m + 4)).length = 2 * m := by rw [List.length_append, List.length_take, List.length_drop]; omega
        have e0 : Str.ofString "0" = ⟨#[48]⟩ := by decide +kernel
        have e1 : Str.ofString "1" = ⟨#[49]⟩ := by decide +kernel
        refine ⟨.str _, rfl, rfl, _, _, rfl, rfl, .str _, rfl, rfl, _, _, rfl, rfl, _, _, rfl, rfl, .int m, rfl, 2, m, rfl, rfl, .inl ⟨by decide, by decide⟩, rfl, _, rfl, ?_⟩
        rw [e0, e1, count_l, count_l]
        obtain ⟨cl, ciff⟩ := count_le (l.take m ++ l.drop (m + 4))
        generalize hg : l.take m ++ l.drop (m + 4) = sg at lg cl ciff ⊢
        by_cases hb : sg.all bit = true
        · have hc := ciff.mpr hb
          refine ite2 (fun h => absurd h (by rw [decide_eq_true (show V.int ((sg.count 48 : Int) + (sg.count 49 : Int)) = V.int (2 * (m : Int)) by congr 1; omega)]; exact Bool.false_ne_true)) (fun _ => ?_)
          have hch : chL m l = some (l.take m, l.drop (m + 4)) := by
            unfold chL
            rw [← hg, List.all_append, Bool.and_eq_true] at hb
            rw [if_pos ⟨hl, ht, hb.1, hb.2⟩]
          refine ⟨.str (SX.S sg), rfl, SX.S sg, rfl, fun L nL => ?_⟩
          refine lc_str (z := SX.S sg) (fun j H' => Same H H' ∧ H' L = some (.lst ((sg.take j).map fun c => V.int (wB c)))) ⟨same_upd nL, upd_same⟩ ?_ ?_
          · rintro j x H1 hx ⟨s1, h1⟩
            have hx' : sg[j]? = some x := by simpa using hx
            have hbx := List.all_eq_true.mp hb x (List.mem_of_getElem? hx')
            have fin : ∀ H2, Same H1 H2 → ∃ acc, H2 L = some (.lst acc) ∧ acc.length < sizeLine ∧ Same H (upd H2 L (.lst (acc ++ [V.int (wB x)]))) ∧ (upd H2 L (.lst (acc ++ [V.int (wB x)]))) L = some (.lst ((sg.take (j + 1)).map fun c => V.int (wB c))) := fun H2 s2 => by
              refine ⟨_, s2 _ _ h1, ?_, fun b o e => ?_, ?_⟩
              · rw [List.length_map, List.length_take]
                exact Nat.lt_of_lt_of_le (show _ < 64 by omega) (by decide)
              · rw [upd_ne (fun k => by rw [k, nL] at e; cases e)]
                exact s2 _ _ (s1 _ _ e)
              · rw [upd_same, List.take_add_one, hx', List.map_append]
                rfl
            refine ⟨rfl, sl2, fun p np => ?_⟩
            have s2 := same_upd (o := .lst [.str "0", .str "1"]) np
            have hxx : x = 48 ∨ x = 49 := by
              unfold bit at hbx
              simpa using hbx
            rcases hxx with rfl | rfl
            · exact ⟨.inl ⟨rfl, _, SqL.of upd_same⟩, .str ⟨#[48]⟩, rfl, p, _, .str ⟨#[48]⟩, 0, .str "0", rfl, rfl, SqL.of upd_same, rfl, rfl, rfl, by decide +kernel, (fun m z' hm => absurd hm (Nat.not_lt_zero _)), fin _ s2⟩
            · refine ⟨.inl ⟨rfl, _, SqL.of upd_same⟩, .str ⟨#[49]⟩, rfl, p, _, .str ⟨#[49]⟩, 1, .str "1", rfl, rfl, SqL.of upd_same, rfl, rfl, rfl, by decide +kernel, (fun m z' hm hz' => ?_), fin _ s2⟩
              have : m = 0 := by omega
              subst this
              cases Option.some.inj hz'
              decide +kernel
          · rintro H1 ⟨s1, h1⟩
            have es : (SX.S sg).cps.size = sg.length := by simp
            rw [es, List.take_length] at h1
            refine ⟨L, _, rfl, .inl ⟨SqL.of h1, fun ti nti => ?_⟩⟩
            have s2 := same_upd (o := .tup (sg.map fun c => V.int (wB c))) nti
            have h2 := upd_same (H := H1) (a := ti) (o := .tup (sg.map fun c => V.int (wB c)))
            generalize upd H1 ti (.tup (sg.map fun c => V.int (wB c))) = H2 at s2 h2 ⊢
            refine ⟨.ref ti, rfl, .int m, rfl, m, rfl, slA (K := K) h2 (fun pa Ha sa ha => ?_)⟩
            refine ⟨.ref ti, rfl, .int m, rfl, m, rfl, slAn (K := K) (sa _ _ h2) (fun pb Hb sb hbb => ?_)⟩
            refine ⟨sl2, fun pp npp => ?_⟩
            have s3 := same_upd (o := .tup [.ref pa, .ref pb]) npp
            have lt : (l.take m).length = m := by rw [List.length_take]; omega
            have t1 : sg.take m = l.take m := by rw [← hg, List.take_append_of_le_length (by omega), List.take_of_length_le (by omega)]
            have t2 : sg.drop m = l.drop (m + 4) := by
              rw [← hg, List.drop_append_of_le_length (by omega), List.drop_of_length_le (by omega), List.nil_append]
            rw [cut_to, ← List.map_take, t1] at ha
            rw [cut_from, ← List.map_drop, t2] at hbb
            exact yes _ _ hch _ pp pa pb ((((s1.trans s2).trans sa).trans sb).trans s3) upd_same (s3 _ _ (sb _ _ ha)) (s3 _ _ hbb)
        · have hc : ¬ sg.count 48 + sg.count 49 = 2 * m := fun k => hb (ciff.mp (by omega))
          refine ite2 (fun _ => ?_) (fun h => absurd (by rw [decide_eq_false (fun k => hc (by have := V.int.inj k; omega))]; rfl) h)
          refine no (by
            unfold chL
            rw [if_neg]
            rintro ⟨_, _, c3, c4⟩
            exact hb (by rw [← hg, List.all_append, c3, c4]; rfl)) _ (Same.refl _)
      · refine ite2 (fun _ => ?_) (fun h => absurd (by rw [decide_eq_false (fun k => ht (SX.S_inj (V.str.inj k)))]; rfl) h)
        exact no (by unfold chL; rw [if_neg (fun c => ht c.2.1)]) _ (Same.refl _)
    · have e1 : (decide (V.int (l.length : Int) = V.int (2 * (m : Int) + 4))) = false := decide_eq_false (fun k => hl (by have := V.int.inj k; omega))
      refine ite2 (fun _ => ?_) (fun h => absurd (by rw [e1]; rfl) h)
      exact iteT (no (by unfold chL; rw [if_neg (fun c => hl c.1)]) _ (Same.refl _))
end
end Gk

set_option Elab.async false
set_option linter.all false
set_option maxRecDepth 100000
set_option maxHeartbeats 1000000
namespace Gk
open PySem PySem.Spec PyProof.Rows L2
section
variable {P : Program} {w : World} {K : PySem.W.Frag} {mg : Str → Option Value} {base : Heap}
def sp_right (T : Tx K mg) : Sp := fun vs H Q _ => ∃ (m : Nat) (z : Str), vs = [.int m, .str z] ∧ m ≤ 6 ∧ z.length ≤ 1000 ∧ Tabs H T.tabs ∧ ∀ H', Gr H H' → Q (.bl true) H'
theorem ok_right (T : Tx K mg) (B : Tb base T) : FnG P w K mg base CX0 6 T.f_right T.fd_right ["_law_many", "_law_text"] (sp_right T) := by
  refine okG0 T.F_right sc_right (fun vs H Q E h => ?_) (fun cdv A outer s H vs Q E nothing hr h => ?_)
  · obtain ⟨m, z, rfl, _⟩ := h
    rfl
  · obtain ⟨m, z, rfl, m6, hz, tabs, q⟩ := h
    refine ⟨_, (pss_cons (ps_set (i := 2) sc_right.nd rfl (by first | exact .inl rfl | exact .inr rfl) (pe_call (ok_read T) (hr.mono (by decide)) (by rfl) T.g_read T.F_read.kp T.b_read .nil pass0 (pa_cons (pv 0) (pa_cons (pv 1) pa_nil)))) (pss_cons (ps_if (pt_cmpR op_isN (pv 2) pe_non (nomark _)) (pss_one (ps_ret (pe_cmpR op_is_bl (pe_callG (ok_told T B) nothing (hr.mono (by decide)) (by rfl) T.g_told T.F_told.kp T.b_told .nil pass0 (pa_cons (pv 0) (pa_cons (pv 1) pa_nil))) pe_bl (nomark _)))) pss_nil) (pss_one (ps_ret (pe_cmpR op_eq (pe_callG (ok_told T B) nothing (hr.mono (by decide)) (by rfl) T.g_told T.F_told.kp T.b_told .nil pass0 (pa_cons (pv 0) (pa_cons (pv 1) pa_nil))) (pe_callB (call_repr nothing hr.units) (by rfl) T.m_repr (by decide +kernel) (pa_cons (pv 2) pa_nil)) (nomark _)))))), ?_⟩
    have short : ∀ z', PyData.str z = .str z' → z'.length ≤ 1000 := fun z' e => by cases e; exact hz
    refine ⟨.int m, rfl, .str z, rfl, m, z, rfl, m6, hz, fun hc H1 s1 => ?_, fun a b hc H1 p pa pb s1 hp ha hb => ?_⟩
    · refine ⟨.non, rfl, rfl, _, rfl, iteT ?_⟩
      refine ⟨.int m, rfl, .str z, rfl, m, .str z, .str z, rfl, m6, .str z, short, (Gr.of s1).tabs tabs, fun H2 g2 => ?_⟩
      have e : toldV m (.str z) = .bl true := by
        unfold toldV chQ
        dsimp only
        rw [hc]
      rw [e]
      exact ⟨true, true, rfl, rfl, q _ ((Gr.of s1).trans g2)⟩
    · refine ⟨.ref p, rfl, rfl, _, rfl, iteF ?_⟩
      refine ⟨.int m, rfl, .str z, rfl, m, .str z, .str z, rfl, m6, .str z, short, (Gr.of s1).tabs tabs, fun H2 g2 => ?_⟩
      have e : toldV m (.str z) = .str (chP a b).shown := by
        unfold toldV chQ
        dsimp only
        rw [hc]
      rw [e]
      obtain ⟨la, lb, _⟩ := chL_some hc
      have fe := ch_fine (a := a) (b := b) (by omega) (by omega)
      obtain ⟨able, _, _, deep⟩ := fine_iff.mp fe
      have fits := fine_fits fe (by decide)
      have sh2 : Sh H2 (.ref p) (chP a b) := .tup (g2.tup hp) (.cons (row_sh (g2.tup ha)) (.cons (row_sh (g2.tup hb)) .nil))
      refine ⟨.ref p, rfl, .ref p, _, rfl, sh2, able, fits, by omega, rfl, ?_⟩
      rw [decide_eq_true rfl]
      exact q _ ((Gr.of s1).trans g2)
end
end Gk

set_option Elab.async false
set_option linter.all false
set_option maxRecDepth 100000
set_option maxHeartbeats 1000000
namespace Gk
open PySem PySem.Spec PyProof.Rows L2
def rRepS : V → V → Hp → VK → Prop := fun x y H Q => ∃ (z : Str) (n : Int), x = .str z ∧ y = .int n ∧ z.length ≤ 16 ∧ 0 ≤ n ∧ n ≤ 1048576 ∧ Q (.str (Txt.mul z n)) H
theorem op_repS {X : Cx} : OpR X (binaryOp .Mult) rRepS := by
  intro pins s σ H x y v u Q I rx ry h
  obtain ⟨i, j, rfl, rfl, h1, h2, h3, q⟩ := h
  obtain ⟨t, rfl⟩ := rx
  obtain ⟨t', rfl⟩ := ry
  exact SB.mul (mulOk_of 16 1048576 h1 h3 (by omega) (by decide) (by decide)) fun t' tk => ⟨.str _, H, I.tok _, ⟨_, rfl⟩, q⟩
def wt (ys : List Str) : Nat := (ys.map (·.length)).sum + ys.length
theorem wt_app (xs ys : List Str) : wt (xs ++ ys) = wt xs + wt ys := by
  unfold wt
  rw [List.map_append, List.sum_append, List.length_append]
  omega
theorem wt_cons (x : Str) (ys : List Str) : wt (x :: ys) = x.length + 1 + wt ys := by
  unfold wt
  rw [List.map_cons, List.sum_cons, List.length_cons]
  omega
theorem wt_nil : wt [] = 0 := rfl
theorem wt_take (k : Nat) (ys : List Str) : wt (ys.take k) ≤ wt ys := by
  have := wt_app (ys.take k) (ys.drop k)
  rw [List.take_append_drop] at this
  omega
theorem wt_drop (k : Nat) (ys : List Str) : wt (ys.drop k) ≤ wt ys := by
  have := wt_app (ys.take k) (ys.drop k)
  rw [List.take_append_drop] at this
  omega
theorem cutV_str (ys : List Str) (lo hi : Option Int) : ∃ zs : List Str, cutV (ys.map V.str) lo hi = zs.map V.str ∧ wt zs ≤ wt ys := by
  unfold cutV
  rw [← List.map_drop, ← List.map_take]
  exact ⟨_, rfl, Nat.le_trans (wt_take _ _) (wt_drop _ _)⟩
theorem wt_split (z y : Str) (h : 1 ≤ y.length) : wt (Txt.split z y) ≤ z.length + 1 := split_weight z y h
theorem wt_at {ys : List Str} {k : Nat} {x : Str} (h : ys[k]? = some x) : x.length + 1 ≤ wt ys := by
  have e : ys = ys.take k ++ x :: ys.drop (k + 1) := by
    obtain ⟨hk, he⟩ := List.getElem?_eq_some_iff.mp h
    rw [← he, List.getElem_cons_drop, List.take_append_drop]
  rw [e, wt_app, wt_cons]
  omega
theorem wt_join (sep : Str) (hs : sep.length = 1) (ys : List Str) : (Txt.join sep ys).length ≤ wt ys := by
  rw [TL.join_eq]
  cases ys with
  | nil => exact Nat.zero_le _
  | cons a r =>
    rw [len_join_cons, hs]
    unfold wt
    rw [List.length_cons]
    omega
theorem wt_fit (sep : Str) (hs : sep.length = 1) (ys : List Str) (h : wt ys ≤ 100000) : (ys.map (·.length)).sum + ys.length * sep.length ≤ 16777216 := by
  rw [hs]
  unfold wt at h
  omega
theorem at_some {xs : List V} {j : Int} (h0 : 0 ≤ j) (h1 : j < xs.length) : ∃ (k : Nat) (x : V), k < xs.length ∧ xs[k]? = some x ∧ atI xs j = some x ∧ ixN xs.length j = some k ∧ j = (k : Int) := by
  obtain ⟨k, rfl⟩ : ∃ k : Nat, j = (k : Int) := ⟨j.toNat, (Int.toNat_of_nonneg h0).symm⟩
  have hk : k < xs.length := by omega
  refine ⟨k, xs[k], hk, List.getElem?_eq_getElem hk, atI_nat (List.getElem?_eq_getElem hk), ?_, rfl⟩
  unfold ixN
  rw [if_pos h0, if_pos h1]
  rfl
/-- a list of texts of some weight -/
def LT (H : Hp) (p : Addr) (W : Nat) : Prop := ∃ zs : List Str, H p = some (.lst (zs.map V.str)) ∧ wt zs ≤ W
theorem LT.same {H H' : Hp} {p : Addr} {W : Nat} (h : LT H p W) (s : Same H H') : LT H' p W := by
  obtain ⟨zs, h1, h2⟩ := h
  exact ⟨zs, s _ _ h1, h2⟩
theorem LT.fr {H H' : Hp} {p d l : Addr} {W : Nat} (h : LT H p W) (f : Fr d l H H') (o : p ≠ d ∧ p ≠ l) : LT H' p W := by
  obtain ⟨zs, h1, h2⟩ := h
  exact ⟨zs, f _ _ o.1 o.2 h1, h2⟩
theorem slL {K : PySem.W.Frag} {a : Addr} {W : Nat} {lo hi : Option Int} {H : Hp} {Q : VK} (h : LT H a W) (q : ∀ p H', H p = none → Same H H' → LT H' p W → Q (.ref p) H') : rSlL K (.ref a) lo hi H Q := by
  obtain ⟨zs, h1, h2⟩ := h
  obtain ⟨ys, e, hw⟩ := cutV_str zs lo hi
  refine ⟨a, _, rfl, SqL.of h1, fun p np => q p _ np (same_upd np) ⟨ys, ?_, Nat.le_trans hw h2⟩⟩
  rw [upd_same, e]
theorem slLn {K : PySem.W.Frag} {a : Addr} {W : Nat} {lo : Option Int} {H : Hp} {Q : VK} {σ : L2.St} (h : LT H a W) (q : ∀ p H', H p = none → Same H H' → LT H' p W → Q (.ref p) H') : tNoPart σ H (fun u H3 => rSlL K (.ref a) lo u H3 Q) := slL h q
theorem catL {a b : Addr} {W1 W2 : Nat} {H : Hp} {Q : VK} (ha : LT H a W1) (hb : LT H b W2) (hw : W1 + W2 ≤ 100000) (q : ∀ p H', H p = none → Same H H' → LT H' p (W1 + W2) → Q (.ref p) H') : rCat (.ref a) (.ref b) H Q := by
  obtain ⟨xs, h1, w1⟩ := ha
  obtain ⟨ys, h2, w2⟩ := hb
  refine ⟨a, b, _, _, rfl, rfl, h1, h2, ?_, fun p np => q p _ np (same_upd np) ⟨xs ++ ys, ?_, by rw [wt_app]; omega⟩⟩
  · rw [List.length_map, List.length_map]
    unfold wt at w1 w2
    exact Nat.le_trans (show xs.length + ys.length ≤ 100000 by omega) (by decide)
  · rw [upd_same, List.map_append]
def moreL : List Str := [Str.ofString "7", Str.ofString "0", Str.ofString "6", Str.ofString "46", Str.ofString "10", Str.ofString "01", Str.ofString "0001", Str.ofString "00010111", Txt.mul (Str.ofString "1") 40, Str.ofString "one", Str.ofString "input"]
theorem more_len : ∀ y ∈ moreL, y.length ≤ 40 := by decide +kernel
theorem more_at (x : Int) (x0 : 0 ≤ x) (x1 : x < 11) : ∃ y : Str, atI (moreL.map V.str) x = some (.str y) ∧ y.length ≤ 40 := by
  obtain ⟨v, h1, h2⟩ := at_pick (xs := moreL.map V.str) x0 (by exact x1)
  obtain ⟨y, hy, rfl⟩ := List.mem_map.mp h2
  exact ⟨y, h1, more_len y hy⟩
section
variable {P : Program} {w : World} {K : PySem.W.Frag} {mg : Str → Option Value} {base : Heap}
def sp_bent (K : PySem.W.Frag) : Sp := fun vs H Q _ => ∃ (d l : Addr) (n : Int) (z : Str) (N : Nat), vs = [.ref d, .str z] ∧ DeckC H d l n ∧ n < 900000 ∧ z.length ≤ N ∧ N ≤ 1000 ∧ ∀ H' y, DeckC H' d l (n + 8) → Fr d l H H' → y.length ≤ 6 * N + 60 → Q (.str y) H'
theorem ok_bent (T : Tx K mg) : FnOk P w K mg base CX0 3 T.f_bent T.fd_bent ["_law_deck_here", "_law_text"] (sp_bent K) := by
  refine T.F_bent.ok sc_bent (fun vs H Q E h => ?_) (fun cdv A outer s H vs Q E hr h => ?_)
  · obtain ⟨d, l, n, z, N, rfl, _⟩ := h
    rfl
  · obtain ⟨d, l, n, z, N, rfl, D, hn, hz, hN, q⟩ := h
    refine ⟨_, (pss_cons (ps_set (i := 2) sc_bent.nd rfl (by first | exact .inl rfl | exact .inr rfl) (pe_call (ok_take T) (hr.mono (by decide)) (by rfl) T.g_take T.F_take.kp T.b_take .nil pass0 (pa_cons (pv 0) (pa_cons pe_int pa_nil)))) (pss_cons (ps_set (i := 3) sc_bent.nd rfl (by first | exact .inl rfl | exact .inr rfl) pe_str) (pss_cons (ps_set (i := 4) sc_bent.nd rfl (by first | exact .inl rfl | exact .inr rfl) (pe_item_str (pe_op op_add_str (pv 3) pe_str) (pe_call (ok_take T) (hr.mono (by decide)) (by rfl) T.g_take T.F_take.kp T.b_take .nil pass0 (pa_cons (pv 0) (pa_cons (pe_op op_add (pe_callB call_len_str (by rfl) T.m_len PySem.boot_len (pa_cons (pv 3) pa_nil)) pe_int) pa_nil))) (fun _ _ => rfl))) (pss_cons (ps_set (i := 5) sc_bent.nd rfl (by first | exact .inl rfl | exact .inr rfl) (pe_call (ok_take T) (hr.mono (by decide)) (by rfl) T.g_take T.F_take.kp T.b_take .nil pass0 (pa_cons (pv 0) (pa_cons (pe_op op_add (pe_callB call_len_str (by rfl) T.m_len PySem.boot_len (pa_cons (pv 1) pa_nil)) pe_int) pa_nil)))) (pss_cons (ps_if (pt_cmpR op_lt (pv 2) pe_int (nomark _)) (pss_one (ps_ret (pe_op op_add_str (pe_op op_add_str (pe_slice sl_str (pv 1) po_none (po_some (pv 5))) (pe_op op_repS (pv 4) (pe_callTy call_int1 (by rfl) T.m_int (by decide +kernel) (pa_cons (pe_cmpR op_ne (pv 2) pe_int (nomark _)) pa_nil)))) (pe_slice sl_str (pv 1) (po_some (pe_op op_add (pv 5) (pe_callTy call_int1 (by rfl) T.m_int (by decide +kernel) (pa_cons (pe_cmpR op_gt (pv 2) pe_int (nomark _)) pa_nil)))) po_none)))) pss_nil) (pss_cons (ps_if (pt_cmpR op_eq (pv 2) pe_int (nomark _)) (pss_cons (ps_set (i := 6) sc_bent.nd rfl (by first | exact .inl rfl | exact .inr rfl) (pe_lst (pa_cons (pe_op op_add_str (pv 1) pe_str) (pa_cons (pe_op op_add_str pe_str (pv 1)) (pa_cons (pe_op op_add_str (pv 1) pe_str) (pa_cons (pe_op op_add_str pe_str (pv 1)) pa_nil)))))) (pss_one (ps_ret (pe_ix ix_list (pe_op op_cat (pv 6) (pe_lst (pa_cons (pe_bm0 PySem.F.plainAttrs_str PySem.F.slot_str_upper PySem.F.type_str_upper mt_upper (pv 1)) (pa_cons (pe_op op_add_str (pe_op op_add_str (pv 1) pe_str) (pv 1)) pa_nil)))) (pe_call (ok_take T) (hr.mono (by decide)) (by rfl) T.g_take T.F_take.kp T.b_take .nil pass0 (pa_cons (pv 0) (pa_cons pe_int pa_nil))) (fun _ _ => rfl))))) pss_nil) (pss_cons (ps_set (i := 7) sc_bent.nd rfl (by first | exact .inl rfl | exact .inr rfl) (pe_bm PySem.F.plainAttrs_str PySem.F.slot_str_split PySem.F.type_str_split mt_split (pv 1) (pa_cons pe_str pa_nil))) (pss_cons (ps_set (i := 8) sc_bent.nd rfl (by first | exact .inl rfl | exact .inr rfl) (pe_call (ok_take T) (hr.mono (by decide)) (by rfl) T.g_take T.F_take.kp T.b_take .nil pass0 (pa_cons (pv 0) (pa_cons (pe_callB call_len_seq (by rfl) T.m_len PySem.boot_len (pa_cons (pv 7) pa_nil)) pa_nil)))) (pss_cons (ps_if (pt_cmpR op_lt (pv 2) pe_int (nomark _)) (pss_cons (ps_set (i := 9) sc_bent.nd rfl (by first | exact .inl rfl | exact .inr rfl) (pe_call (ok_take T) (hr.mono (by decide)) (by rfl) T.g_take T.F_take.kp T.b_take .nil pass0 (pa_cons (pv 0) (pa_cons (pe_callB call_len_seq (by rfl) T.m_len PySem.boot_len (pa_cons (pv 7) pa_nil)) pa_nil)))) (pss_cons (ps_set (i := 6) sc_bent.nd rfl (by first | exact .inl rfl | exact .inr rfl) (pe_lst (pa_cons (pe_op op_cat (pe_slice sl_list (pv 7) po_none (po_some (pv 8))) (pe_slice sl_list (pv 7) (po_some (pe_op op_add (pv 8) pe_int)) po_none)) (pa_cons (pe_op op_cat (pe_slice sl_list (pv 7) po_none (po_some (pe_op op_add (pv 8) pe_int))) (pe_slice sl_list (pv 7) (po_some (pv 8)) po_none)) (pa_cons (pe_op op_cat (pe_op op_cat (pe_slice sl_list (pv 7) po_none (po_some (pv 8))) (pe_lst (pa_cons (pe_ix ix_list (pv 7) (pv 9) (fun _ _ => rfl)) pa_nil))) (pe_slice sl_list (pv 7) (po_some (pe_op op_add (pv 8) pe_int)) po_none)) pa_nil))))) (pss_one (ps_ret (pe_join pe_str (pe_ix ix_list (pv 6) (pe_call (ok_take T) (hr.mono (by decide)) (by rfl) T.g_take T.F_take.kp T.b_take .nil pass0 (pa_cons (pv 0) (pa_cons pe_int pa_nil))) (fun _ _ => rfl))))))) pss_nil) (pss_cons (ps_set (i := 10) sc_bent.nd rfl (by first | exact .inl rfl | exact .inr rfl) (pe_bm PySem.F.plainAttrs_str PySem.F.slot_str_split PySem.F.type_str_split mt_split (pe_ix ix_list (pv 7) (pv 8) (fun _ _ => rfl)) (pa_cons pe_str pa_nil))) (pss_cons (ps_set (i := 11) sc_bent.nd rfl (by first | exact .inl rfl | exact .inr rfl) (pe_call (ok_take T) (hr.mono (by decide)) (by rfl) T.g_take T.F_take.kp T.b_take .nil pass0 (pa_cons (pv 0) (pa_cons (pe_callB call_len_seq (by rfl) T.m_len PySem.boot_len (pa_cons (pv 10) pa_nil)) pa_nil)))) (pss_cons (ps_set (i := 12) sc_bent.nd rfl (by first | exact .inl rfl | exact .inr rfl) (pe_ix ix_list (pv 10) (pv 11) (fun _ _ => rfl))) (pss_cons (ps_set (i := 6) sc_bent.nd rfl (by first | exact .inl rfl | exact .inr rfl) (pe_lst (pa_cons (pe_lst pa_nil) (pa_cons (pe_lst (pa_cons (pv 12) (pa_cons (pv 12) pa_nil))) (pa_cons (pe_lst (pa_cons (pe_op op_add_str pe_str (pv 12)) pa_nil)) (pa_cons (pe_lst (pa_cons (pe_op op_add_str pe_str (pv 12)) pa_nil)) (pa_cons (pe_lst (pa_cons (pe_op op_add_str pe_str (pv 12)) pa_nil)) (pa_cons (pe_lst (pa_cons pe_str (pa_cons (pv 12) pa_nil))) (pa_cons (pe_lst (pa_cons (pe_op op_add_str (pv 12) pe_str) pa_nil)) (pa_cons (pe_lst (pa_cons (pe_slice sl_str (pv 12) po_none (po_some (pe_un un_neg pe_int))) pa_nil)) pa_nil)))))))))) (pss_cons (ps_set (i := 13) sc_bent.nd rfl (by first | exact .inl rfl | exact .inr rfl) (pe_lst (pa_cons pe_str (pa_cons pe_str (pa_cons pe_str (pa_cons pe_str (pa_cons pe_str (pa_cons pe_str (pa_cons pe_str (pa_cons pe_str (pa_cons (pe_op op_repS pe_str pe_int) (pa_cons pe_str (pa_cons pe_str pa_nil))))))))))))) (pss_cons (ps_set (i := 14) sc_bent.nd rfl (by first | exact .inl rfl | exact .inr rfl) (pe_ix ix_list (pv 6) (pe_call (ok_take T) (hr.mono (by decide)) (by rfl) T.g_take T.F_take.kp T.b_take .nil pass0 (pa_cons (pv 0) (pa_cons pe_int pa_nil))) (fun _ _ => rfl))) (C8.pss_cut (ps_if (pt_cmpR op_gt (pv 2) pe_int (nomark _)) (pss_one (ps_set (i := 14) sc_bent.nd rfl (by first | exact .inl rfl | exact .inr rfl) (pe_lst (pa_cons (pe_ix ix_list (pv 13) (pe_call (ok_take T) (hr.mono (by decide)) (by rfl) T.g_take T.F_take.kp T.b_take .nil pass0 (pa_cons (pv 0) (pa_cons pe_int pa_nil))) (fun _ _ => rfl)) pa_nil)))) pss_nil) (pss_cons (ps_set (i := 15) sc_bent.nd rfl (by first | exact .inl rfl | exact .inr rfl) (pe_join pe_str (pe_op op_cat (pe_op op_cat (pe_slice sl_list (pv 10) po_none (po_some (pv 11))) (pv 14)) (pe_slice sl_list (pv 10) (po_some (pe_op op_add (pv 11) pe_int)) po_none)))) (pss_one (ps_ret (pe_join pe_str (pe_op op_cat (pe_op op_cat (pe_slice sl_list (pv 7) po_none (po_some (pv 8))) (pe_lst (pa_cons (pv 15) pa_nil))) (pe_slice sl_list (pv 7) (po_some (pe_op op_add (pv 8) pe_int)) po_none)))))))))))))))))))))), ?_⟩
    have zf : z.length ≤ sizeLine := Nat.le_trans hz (Nat.le_trans hN (by decide))
    refine ⟨.ref d, rfl, d, l, 12, n, rfl, D, by omega, by decide, by decide, fun H1 way D1 f1 w0 w1 => ?_⟩
    refine ⟨.str _, rfl, _, _, rfl, rfl, by decide +kernel, .ref d, rfl, .str _, rfl, _, rfl, by decide +kernel, _, _, rfl, rfl, d, l, _, n + 1, rfl, D1, by omega, by decide +kernel, by decide +kernel, fun H2 v D2 f2 v0 v1 => ?_⟩
    refine ⟨_, v, _, rfl, rfl, v0, Int.lt_of_lt_of_le v1 (by decide +kernel), Int.lt_of_lt_of_le v1 (by decide +kernel), Array.getElem?_eq_getElem ((Int.toNat_lt v0).mpr (Int.lt_of_lt_of_le v1 (by decide +kernel))), ?_⟩
    generalize hsg : (Str.mk #[_] : Str) = sg
    have lsg : sg.length = 1 := by rw [← hsg]; rfl
    clear hsg
    refine ⟨.ref d, rfl, .str z, rfl, z, rfl, zf, _, _, rfl, rfl, d, l, _, n + 1 + 1, rfl, D2, by omega, by omega, by omega, fun H3 at_ D3 f3 a0 a1 => ?_⟩
    have f13 := (f1.trans f2).trans f3
    have D3' : DeckC H3 d l (n + 8) := D3.mono (by omega)
    refine ⟨.int way, rfl, way, 5, rfl, rfl, _, rfl, ite2 (fun _ => ?_) (fun _ => ?_)⟩
    · refine ⟨.str z, rfl, .int at_, rfl, at_, rfl, z, rfl, zf, .str sg, rfl, .int way, rfl, rfl, .inr ⟨_, rfl, sg, _, rfl, rfl, by omega, ?_, ?_, ?_⟩⟩
      · split <;> decide
      · split <;> decide
      have lm : ∀ b : Bool, (Txt.mul sg (if b = true then 1 else 0)).length ≤ 1 := fun b => by
        have := len_mul sg (if b = true then 1 else 0)
        rw [lsg] at this
        cases b
        · simp at this ⊢; omega
        · simp at this ⊢; omega
      have lc := cutS_length z none (some at_)
      refine ⟨_, _, rfl, rfl, ?_, .str z, rfl, .int at_, rfl, .int way, rfl, way, 1, rfl, rfl, .inr ⟨_, rfl, _, _, rfl, rfl, _, rfl, z, rfl, zf, _, _, rfl, rfl, ?_, ?_⟩⟩
      · exact Nat.le_trans (Nat.add_le_add (Nat.le_trans lc (Nat.le_trans hz hN)) (lm _)) (by decide)
      · rw [Str.length_append]
        have l2 := cutS_length z (some (at_ + if decide (way > 1) = true then 1 else 0)) none
        exact Nat.le_trans (Nat.add_le_add (Nat.add_le_add (Nat.le_trans lc (Nat.le_trans hz hN)) (lm _)) (Nat.le_trans (cutS_length z _ _) (Nat.le_trans hz hN))) (by decide)
      · refine q _ _ D3' f13 ?_
        rw [Str.length_append, Str.length_append]
        exact Nat.le_trans (Nat.add_le_add (Nat.add_le_add (Nat.le_trans lc hz) (lm _)) (Nat.le_trans (cutS_length z _ _) hz)) (by omega)
    have l1n : (Str.ofString "\n").length = 1 := by decide +kernel
    have l1s : (Str.ofString " ").length = 1 := by decide +kernel
    refine ⟨.int way, rfl, rfl, _, rfl, ite2 (fun _ => ?_) (fun _ => ?_)⟩
    · have lu := len_upper z
      have fA : ∀ x : Str, x.length = 1 → z.length + x.length ≤ sizeLine := fun x hx => Nat.le_trans (show z.length + x.length ≤ 2000 by omega) (by decide)
      have fB : ∀ x : Str, x.length = 1 → x.length + z.length ≤ sizeLine := fun x hx => Nat.le_trans (show x.length + z.length ≤ 2000 by omega) (by decide)
      refine ⟨.str z, rfl, _, _, rfl, rfl, fA _ l1n, .str z, rfl, _, _, rfl, rfl, fB _ l1n, .str z, rfl, _, _, rfl, rfl, fA _ l1s, .str z, rfl, _, _, rfl, rfl, fB _ l1s, by show 4 ≤ sizeLine; decide, fun p1 n1 => ?_⟩
      refine ⟨.ref p1, rfl, .str z, rfl, rfl, z, rfl, rfl, by omega, .str z, rfl, _, _, rfl, rfl, fA _ l1n, .str z, rfl, _, _, rfl, rfl, ?_, sl2, fun p2 n2 => ?_⟩
      · rw [Str.length_append]
        exact Nat.le_trans (show z.length + (Str.ofString "\n").length + z.length ≤ 3000 by omega) (by decide)
      refine ⟨p1, p2, _, _, rfl, rfl, same_upd n2 _ _ upd_same, upd_same, by show 6 ≤ sizeLine; decide, fun p3 n3 => ?_⟩
      have sA := ((same_upd (o := .lst [.str (z ++ Str.ofString "\n"), .str (Str.ofString "\n" ++ z), .str (z ++ Str.ofString " "), .str (Str.ofString " " ++ z)]) n1).trans (same_upd (o := .lst [.str (Txt.upper z), .str (z ++ Str.ofString "\n" ++ z)]) n2)).trans (same_upd (o := .lst ([.str (z ++ Str.ofString "\n"), .str (Str.ofString "\n" ++ z), .str (z ++ Str.ofString " "), .str (Str.ofString " " ++ z)] ++ [.str (Txt.upper z), .str (z ++ Str.ofString "\n" ++ z)])) n3)
      refine ⟨.ref d, rfl, d, l, 6, n + 1 + 1 + 1, rfl, D3.same sA, by omega, by decide, by decide, fun H4 x D4 f4 x0 x1 => ?_⟩
      have o3 := (D3.same ((same_upd n1).trans (same_upd n2))).off n3
      have h4 := f4 _ _ o3.1 o3.2 upd_same
      have pick : ∃ y : Str, atI ([V.str (z ++ Str.ofString "\n"), .str (Str.ofString "\n" ++ z), .str (z ++ Str.ofString " "), .str (Str.ofString " " ++ z)] ++ [.str (Txt.upper z), .str (z ++ Str.ofString "\n" ++ z)]) x = some (.str y) ∧ y.length ≤ 6 * N + 60 := by
        have : x = 0 ∨ x = 1 ∨ x = 2 ∨ x = 3 ∨ x = 4 ∨ x = 5 := by omega
        rcases this with rfl | rfl | rfl | rfl | rfl | rfl
        · exact ⟨_, rfl, by rw [Str.length_append]; omega⟩
        · exact ⟨_, rfl, by rw [Str.length_append]; omega⟩
        · exact ⟨_, rfl, by rw [Str.length_append]; omega⟩
        · exact ⟨_, rfl, by rw [Str.length_append]; omega⟩
        · exact ⟨_, rfl, by omega⟩
        · exact ⟨_, rfl, by rw [Str.length_append, Str.length_append]; omega⟩
      obtain ⟨y, hy, ly⟩ := pick
      exact ⟨p3, _, _, .str y, rfl, rfl, SqL.of h4, hy, q _ _ (D4.mono (by omega)) (f13.trans ((Fr.of sA).trans f4)) ly⟩
    · refine ⟨.str z, rfl, rfl, z, _, rfl, rfl, by decide +kernel, Nat.le_trans (show z.length + 2 ≤ 2000 by omega) (by decide), fun p4 n4 => ?_⟩
      have w4 : wt (Txt.split z (Str.ofString "\n")) ≤ N + 1 := Nat.le_trans (wt_split z _ (by rw [l1n]; exact Nat.le_refl 1)) (by omega)
      have sp := split_pos z (Str.ofString "\n")
      have o4 := D3.off n4
      have s4 := same_upd (o := .lst ((Txt.split z (Str.ofString "\n")).map V.str)) n4
      have h4 := upd_same (H := H3) (a := p4) (o := .lst ((Txt.split z (Str.ofString "\n")).map V.str))
      generalize upd H3 p4 (.lst ((Txt.split z (Str.ofString "\n")).map V.str)) = H4 at s4 h4 ⊢
      generalize Txt.split z (Str.ofString "\n") = ls at w4 sp h4
      have D4 := D3.same s4
      have ll : ls.length ≤ 1001 := by unfold wt at w4; omega
      refine ⟨.ref d, rfl, .ref p4, rfl, p4, _, rfl, .inl (SqL.of h4), d, l, _, n + 1 + 1 + 1, rfl, D4, by omega, by rw [List.length_map]; omega, by rw [List.length_map]; omega, fun H5 k D5 f5 k0 k1 => ?_⟩
      rw [List.length_map] at k1
      have h5 := f5 _ _ o4.1 o4.2 h4
      have f15 := f13.trans ((Fr.of s4).trans f5)
      have L5 : LT H5 p4 (N + 1) := ⟨ls, h5, w4⟩
      refine ⟨.int way, rfl, way, 8, rfl, rfl, _, rfl, ite2 (fun _ => ?_) (fun _ => ?_)⟩
      · refine ⟨.ref d, rfl, .ref p4, rfl, p4, _, rfl, .inl (SqL.of h5), d, l, _, n + 1 + 1 + 1 + 1, rfl, D5, by omega, by rw [List.length_map]; omega, by rw [List.length_map]; omega, fun H6 ot D6 f6 o0 o1 => ?_⟩
        rw [List.length_map] at o1
        have h6 := f6 _ _ o4.1 o4.2 h5
        have L6 : LT H6 p4 (N + 1) := ⟨ls, h6, w4⟩
        have f16 := f15.trans f6
        refine ⟨.ref p4, rfl, .int k, rfl, k, rfl, slL L6 (fun pa Ha na sa La => ?_)⟩
        refine ⟨.ref p4, rfl, .int k, rfl, _, _, rfl, rfl, _, rfl, slLn (L6.same sa) (fun pb Hb nb sb Lb => catL (La.same sb) Lb (by omega) (fun p7 H7 n7 s7 L7 => ?_))⟩
        have t7 := (sa.trans sb).trans s7
        refine ⟨.ref p4, rfl, .int k, rfl, _, _, rfl, rfl, _, rfl, slL (L6.same t7) (fun pc Hc nc sc Lc => ?_)⟩
        refine ⟨.ref p4, rfl, .int k, rfl, k, rfl, slLn ((L6.same t7).same sc) (fun pd Hd nd sd Ld => catL (Lc.same sd) Ld (by omega) (fun p8 H8 n8 s8 L8 => ?_))⟩
        have t8 := (t7.trans (sc.trans sd)).trans s8
        obtain ⟨ko, xo, hko, hxo, hao, _, _⟩ := at_some (xs := ls.map V.str) o0 (by rw [List.length_map]; exact o1)
        obtain ⟨xt, hxt, rfl⟩ : ∃ y, ls[ko]? = some y ∧ xo = V.str y := by
          rw [List.getElem?_map] at hxo
          cases hq : ls[ko]? with
          | none => rw [hq] at hxo; cases hxo
          | some u => rw [hq] at hxo; exact ⟨u, rfl, (Option.some.inj hxo).symm⟩
        have wx := wt_at hxt
        refine ⟨.ref p4, rfl, .int k, rfl, k, rfl, slL (L6.same t8) (fun pe He ne se Le => ?_)⟩
        have t9 := t8.trans se
        refine ⟨.ref p4, rfl, .int ot, rfl, p4, _, _, .str xt, rfl, rfl, SqL.of (t9 _ _ h6), hao, sl1, fun pf nf => ?_⟩
        have sf := same_upd (o := .lst [V.str xt]) nf
        have Lf : LT (upd He pf (.lst [V.str xt])) pf (xt.length + 1) := ⟨[xt], upd_same, by rw [wt_cons, wt_nil]; omega⟩
        refine catL (Le.same sf) Lf (by omega) (fun pg Hg ng sg' Lg => ?_)
        have t10 := (t9.trans sf).trans sg'
        refine ⟨.ref p4, rfl, .int k, rfl, _, _, rfl, rfl, _, rfl, slLn (L6.same t10) (fun ph Hh nh sh Lh => catL (Lg.same sh) Lh (by omega) (fun p9 H9 n9 s9 L9 => ?_))⟩
        have t11 := (t10.trans sh).trans s9
        refine ⟨sl3, fun ps nps => ?_⟩
        have sS := same_upd (o := .lst [V.ref p7, .ref p8, .ref p9]) nps
        have t12 := t11.trans sS
        have hps := upd_same (H := H9) (a := ps) (o := .lst [V.ref p7, .ref p8, .ref p9])
        have o7 := (D6.same (sa.trans sb)).off n7
        have o8 := (D6.same (t7.trans (sc.trans sd))).off n8
        have o9 := (D6.same (t10.trans sh)).off n9
        have ops := (D6.same t11).off nps
        have u7 : Same H7 H9 := (((((sc.trans sd).trans s8).trans se).trans sf).trans sg').trans (sh.trans s9)
        have u8 : Same H8 H9 := ((se.trans sf).trans sg').trans (sh.trans s9)
        have M : ∀ x : Int, 0 ≤ x → x < 3 → ∃ pi, atI [V.ref p7, .ref p8, .ref p9] x = some (.ref pi) ∧ (pi ≠ d ∧ pi ≠ l) ∧ ∃ W, W ≤ 3 * N + 50 ∧ LT (upd H9 ps (.lst [V.ref p7, .ref p8, .ref p9])) pi W := fun x x0 x1 => by
          have : x = 0 ∨ x = 1 ∨ x = 2 := by omega
          rcases this with rfl | rfl | rfl
          · exact ⟨p7, rfl, o7, _, by omega, (L7.same u7).same sS⟩
          · exact ⟨p8, rfl, o8, _, by omega, (L8.same u8).same sS⟩
          · exact ⟨p9, rfl, o9, _, by omega, L9.same sS⟩
        refine ⟨⟨_, rfl⟩, .ref ps, rfl, .ref d, rfl, d, l, 3, n + 1 + 1 + 1 + 1 + 1, rfl, D6.same t12, by omega, by decide, by decide, fun Hx x Dx fx x0 x1 => ?_⟩
        obtain ⟨pi, hpi, opi, W, hW, LW⟩ := M x x0 x1
        obtain ⟨zs, hzs, wz⟩ := LW.fr fx opi
        refine ⟨ps, _, _, .ref pi, rfl, rfl, SqL.of (fx _ _ ops.1 ops.2 hps), hpi, _, pi, zs, rfl, rfl, .inl (SqL.of hzs), wt_fit _ l1n _ (by omega), ?_⟩
        exact q _ _ (Dx.mono (by omega)) (f16.trans ((Fr.of t12).trans fx)) (Nat.le_trans (wt_join _ l1n _) (by omega))
      · obtain ⟨kkn, xk0, kkh, kkx, hak, _, _⟩ := at_some (xs := ls.map V.str) k0 (by rw [List.length_map]; exact k1)
        obtain ⟨xk, kkx', rfl⟩ : ∃ y, ls[kkn]? = some y ∧ xk0 = V.str y := by
          rw [List.getElem?_map] at kkx
          cases hq : ls[kkn]? with
          | none => rw [hq] at kkx; cases kkx
          | some u => rw [hq] at kkx; exact ⟨u, rfl, (Option.some.inj kkx).symm⟩
        have wk := wt_at kkx'
        have lk : xk.length ≤ N := by omega
        refine ⟨.ref p4, rfl, .int k, rfl, p4, _, _, .str xk, rfl, rfl, SqL.of h5, hak, rfl, xk, _, rfl, rfl, by decide +kernel, Nat.le_trans (show xk.length + 2 ≤ 2000 by omega) (by decide), fun p6 n6 => ?_⟩
        have w6 : wt (Txt.split xk (Str.ofString " ")) ≤ N + 1 := Nat.le_trans (wt_split xk _ (by rw [l1s]; exact Nat.le_refl 1)) (by omega)
        have sp6 := split_pos xk (Str.ofString " ")
        have o6 := D5.off n6
        have s6 := same_upd (o := .lst ((Txt.split xk (Str.ofString " ")).map V.str)) n6
        have h6 := upd_same (H := H5) (a := p6) (o := .lst ((Txt.split xk (Str.ofString " ")).map V.str))
        generalize upd H5 p6 (.lst ((Txt.split xk (Str.ofString " ")).map V.str)) = H6 at s6 h6 ⊢
        generalize Txt.split xk (Str.ofString " ") = ws at w6 sp6 h6
        have D6 := D5.same s6
        have lw : ws.length ≤ 1001 := by unfold wt at w6; omega
        refine ⟨.ref d, rfl, .ref p6, rfl, p6, _, rfl, .inl (SqL.of h6), d, l, _, n + 1 + 1 + 1 + 1, rfl, D6, by omega, by rw [List.length_map]; omega, by rw [List.length_map]; omega, fun H7 j D7 f7 j0 j1 => ?_⟩
        rw [List.length_map] at j1
        have h7 := f7 _ _ o6.1 o6.2 h6
        have h7l := f7 _ _ o4.1 o4.2 (s6 _ _ h5)
        have f17 := f15.trans ((Fr.of s6).trans f7)
        obtain ⟨jjn, xw0, jjh, jjx, haj, _, _⟩ := at_some (xs := ws.map V.str) j0 (by rw [List.length_map]; exact j1)
        obtain ⟨xw, jjx', rfl⟩ : ∃ y, ws[jjn]? = some y ∧ xw0 = V.str y := by
          rw [List.getElem?_map] at jjx
          cases hq : ws[jjn]? with
          | none => rw [hq] at jjx; cases jjx
          | some u => rw [hq] at jjx; exact ⟨u, rfl, (Option.some.inj jjx).symm⟩
        have wj := wt_at jjx'
        have lj : xw.length ≤ N := by omega
        refine ⟨.ref p6, rfl, .int j, rfl, p6, _, _, .str xw, rfl, rfl, SqL.of h7, haj, ?_⟩
        have fA : ∀ x : Str, x.length = 1 → xw.length + x.length ≤ sizeLine := fun x hx => Nat.le_trans (show xw.length + x.length ≤ 2000 by omega) (by decide)
        have fB : ∀ x : Str, x.length = 1 → x.length + xw.length ≤ sizeLine := fun x hx => Nat.le_trans (show x.length + xw.length ≤ 2000 by omega) (by decide)
        have lz : ∀ x : Str, x.length = 1 → wt [x ++ xw] ≤ 2 * N + 41 := fun x hx => by rw [wt_cons, wt_nil, Str.length_append]; omega
        have g0 := Same.refl H7
        refine ⟨Nat.zero_le _, fun q0 m0 => ?_⟩
        have e0 := same_upd (o := .lst []) m0
        have E0 : LT (upd H7 q0 (.lst [])) q0 (2 * N + 41) := ⟨[], upd_same, by rw [wt_nil]; omega⟩
        have c0 := (D7.same g0).off m0
        have g1 := g0.trans e0
        generalize upd H7 q0 (.lst []) = G0 at e0 E0 g1 ⊢
        refine ⟨.str xw, rfl, .str xw, rfl, sl2, fun q1 m1 => ?_⟩
        have e1 := same_upd (o := .lst [V.str (xw), V.str (xw)]) m1
        have E1 : LT (upd G0 q1 (.lst [V.str (xw), V.str (xw)])) q1 (2 * N + 41) := ⟨[xw, xw], upd_same, by rw [wt_cons, wt_cons, wt_nil]; omega⟩
        have c1 := (D7.same g1).off m1
        have g2 := g1.trans e1
        generalize upd G0 q1 (.lst [V.str (xw), V.str (xw)]) = G1 at e1 E1 g2 ⊢
        refine ⟨.str xw, rfl, _, _, rfl, rfl, fB _ (by decide +kernel), sl1, fun q2 m2 => ?_⟩
        have e2 := same_upd (o := .lst [V.str (Str.ofString "0" ++ xw)]) m2
        have E2 : LT (upd G1 q2 (.lst [V.str (Str.ofString "0" ++ xw)])) q2 (2 * N + 41) := ⟨[Str.ofString "0" ++ xw], upd_same, lz _ (by decide +kernel)⟩
        have c2 := (D7.same g2).off m2
        have g3 := g2.trans e2
        generalize upd G1 q2 (.lst [V.str (Str.ofString "0" ++ xw)]) = G2 at e2 E2 g3 ⊢
        refine ⟨.str xw, rfl, _, _, rfl, rfl, fB _ (by decide +kernel), sl1, fun q3 m3 => ?_⟩
        have e3 := same_upd (o := .lst [V.str (Str.ofString "-" ++ xw)]) m3
        have E3 : LT (upd G2 q3 (.lst [V.str (Str.ofString "-" ++ xw)])) q3 (2 * N + 41) := ⟨[Str.ofString "-" ++ xw], upd_same, lz _ (by decide +kernel)⟩
        have c3 := (D7.same g3).off m3
        have g4 := g3.trans e3
        generalize upd G2 q3 (.lst [V.str (Str.ofString "-" ++ xw)]) = G3 at e3 E3 g4 ⊢
        refine ⟨.str xw, rfl, _, _, rfl, rfl, fB _ (by decide +kernel), sl1, fun q4 m4 => ?_⟩
        have e4 := same_upd (o := .lst [V.str (Str.ofString "+" ++ xw)]) m4
        have E4 : LT (upd G3 q4 (.lst [V.str (Str.ofString "+" ++ xw)])) q4 (2 * N + 41) := ⟨[Str.ofString "+" ++ xw], upd_same, lz _ (by decide +kernel)⟩
        have c4 := (D7.same g4).off m4
        have g5 := g4.trans e4
        generalize upd G3 q4 (.lst [V.str (Str.ofString "+" ++ xw)]) = G4 at e4 E4 g5 ⊢
        refine ⟨.str xw, rfl, sl2, fun q5 m5 => ?_⟩
        have e5 := same_upd (o := .lst [V.str (Str.ofString ""), V.str (xw)]) m5
        have E5 : LT (upd G4 q5 (.lst [V.str (Str.ofString ""), V.str (xw)])) q5 (2 * N + 41) := ⟨[Str.ofString "", xw], upd_same, by rw [wt_cons, wt_cons, wt_nil, show (Str.ofString "").length = 0 by decide +kernel]; omega⟩
        have c5 := (D7.same g5).off m5
        have g6 := g5.trans e5
        generalize upd G4 q5 (.lst [V.str (Str.ofString ""), V.str (xw)]) = G5 at e5 E5 g6 ⊢
        refine ⟨.str xw, rfl, _, _, rfl, rfl, fA _ (by decide +kernel), sl1, fun q6 m6 => ?_⟩
        have e6 := same_upd (o := .lst [V.str (xw ++ Str.ofString "0")]) m6
        have E6 : LT (upd G5 q6 (.lst [V.str (xw ++ Str.ofString "0")])) q6 (2 * N + 41) := ⟨[xw ++ Str.ofString "0"], upd_same, by rw [wt_cons, wt_nil, Str.length_append, show (Str.ofString "0").length = 1 by decide +kernel]; omega⟩
        have c6 := (D7.same g6).off m6
        have g7 := g6.trans e6
        generalize upd G5 q6 (.lst [V.str (xw ++ Str.ofString "0")]) = G6 at e6 E6 g7 ⊢
        refine ⟨.str xw, rfl, _, rfl, _, rfl, xw, rfl, Nat.le_trans (show xw.length ≤ 2000 by omega) (by decide), sl1, fun q7 m7 => ?_⟩
        have e7 := same_upd (o := .lst [V.str (cutS xw none (some (-1)))]) m7
        have E7 : LT (upd G6 q7 (.lst [V.str (cutS xw none (some (-1)))])) q7 (2 * N + 41) := ⟨[cutS xw none (some (-1))], upd_same, by rw [wt_cons, wt_nil]; have := cutS_length xw none (some (-1)); omega⟩
        have c7 := (D7.same g7).off m7
        have g8 := g7.trans e7
        generalize upd G6 q7 (.lst [V.str (cutS xw none (some (-1)))]) = G7 at e7 E7 g8 ⊢
        refine ⟨by show 8 ≤ sizeLine; decide, fun qs ms => ?_⟩
        have e8 := same_upd (o := .lst [V.ref q0, V.ref q1, V.ref q2, V.ref q3, V.ref q4, V.ref q5, V.ref q6, V.ref q7]) ms
        have hqs := upd_same (H := G7) (a := qs) (o := .lst [V.ref q0, V.ref q1, V.ref q2, V.ref q3, V.ref q4, V.ref q5, V.ref q6, V.ref q7])
        have c8 := (D7.same g8).off ms
        have g9 := g8.trans e8
        generalize upd G7 qs (.lst [V.ref q0, V.ref q1, V.ref q2, V.ref q3, V.ref q4, V.ref q5, V.ref q6, V.ref q7]) = G8 at e8 hqs g9 ⊢
        refine ⟨_, 40, rfl, rfl, by decide +kernel, by decide, by decide, by show 11 ≤ sizeLine; decide, fun pm nm => ?_⟩
        have e9 := same_upd (o := .lst (moreL.map V.str)) nm
        have hpm := upd_same (H := G8) (a := pm) (o := .lst (moreL.map V.str))
        have c9 := (D7.same g9).off nm
        have g10 := g9.trans e9
        change tSeq _ _ _ _ (upd G8 pm (.lst (moreL.map V.str)))
        generalize upd G8 pm (.lst (moreL.map V.str)) = G9 at e9 hpm g10 ⊢
        have M : ∀ x : Int, 0 ≤ x → x < 8 → ∃ pi, atI [V.ref q0, V.ref q1, V.ref q2, V.ref q3, V.ref q4, V.ref q5, V.ref q6, V.ref q7] x = some (.ref pi) ∧ (pi ≠ d ∧ pi ≠ l) ∧ LT G9 pi (2 * N + 41) := fun x x0 x1 => by
          have : x = 0 ∨ x = 1 ∨ x = 2 ∨ x = 3 ∨ x = 4 ∨ x = 5 ∨ x = 6 ∨ x = 7 := by omega
          rcases this with rfl | rfl | rfl | rfl | rfl | rfl | rfl | rfl
          · exact ⟨q0, rfl, c0, ((((((((E0.same e1).same e2).same e3).same e4).same e5).same e6).same e7).same e8).same e9⟩
          · exact ⟨q1, rfl, c1, (((((((E1.same e2).same e3).same e4).same e5).same e6).same e7).same e8).same e9⟩
          · exact ⟨q2, rfl, c2, ((((((E2.same e3).same e4).same e5).same e6).same e7).same e8).same e9⟩
          · exact ⟨q3, rfl, c3, (((((E3.same e4).same e5).same e6).same e7).same e8).same e9⟩
          · exact ⟨q4, rfl, c4, ((((E4.same e5).same e6).same e7).same e8).same e9⟩
          · exact ⟨q5, rfl, c5, (((E5.same e6).same e7).same e8).same e9⟩
          · exact ⟨q6, rfl, c6, ((E6.same e7).same e8).same e9⟩
          · exact ⟨q7, rfl, c7, (E7.same e8).same e9⟩
        refine ⟨.ref qs, rfl, .ref d, rfl, d, l, 8, n + 1 + 1 + 1 + 1 + 1, rfl, D7.same g10, by omega, by decide, by decide, fun H10 x D10 f10 x0 x1 => ?_⟩
        obtain ⟨pi, hpi, opi, Lpi⟩ := M x x0 x1
        refine ⟨qs, _, _, .ref pi, rfl, rfl, SqL.of (f10 _ _ c8.1 c8.2 (e9 _ _ hqs)), hpi, ?_⟩
        have F10 := f17.trans ((Fr.of g10).trans f10)
        have k4 := f10 _ _ o4.1 o4.2 (g10 _ _ h7l)
        have k6 := f10 _ _ o6.1 o6.2 (g10 _ _ h7)
        refine ⟨fun σ H' => ∃ pp, σ = [some (.ref d), some (.str z), some (.int way), some (.str (Str.ofString "0123456789 0101inputs abzABZ_-+.,;:=(){}[]<>/!?#$&*'~^|")), some (.str sg), some (.int at_), some (.ref qs), some (.ref p4), some (.int k), none, some (.ref p6), some (.int j), some (.str xw), some (.ref pm), some (.ref pp), none] ∧ DeckC H' d l (n + 8) ∧ Fr d l H H' ∧ LT H' pp (2 * N + 41) ∧ H' p4 = some (.lst (ls.map V.str)) ∧ H' p6 = some (.lst (ws.map V.str)), ?_, ?_⟩
        · refine ⟨.int way, rfl, way, 9, rfl, rfl, _, rfl, ite2 (fun _ => ?_) (fun _ => ?_)⟩
          · refine ⟨.ref pm, rfl, .ref d, rfl, d, l, 11, n + 1 + 1 + 1 + 1 + 1 + 1, rfl, D10, by omega, by decide, by decide, fun H11 y D11 f11 y0 y1 => ?_⟩
            obtain ⟨yt, hyt, lyt⟩ := more_at y y0 y1
            refine ⟨pm, _, _, .str yt, rfl, rfl, SqL.of (f11 _ _ c9.1 c9.2 (f10 _ _ c9.1 c9.2 hpm)), hyt, sl1, fun pp np => ⟨pp, rfl, (D11.mono (by omega)).same (same_upd np), (F10.trans f11).trans (Fr.new np), ⟨[yt], upd_same, by rw [wt_cons, wt_nil]; omega⟩, same_upd np _ _ (f11 _ _ o4.1 o4.2 k4), same_upd np _ _ (f11 _ _ o6.1 o6.2 k6)⟩⟩
          · exact ⟨pi, rfl, D10.mono (by omega), F10, Lpi.fr f10 opi, k4, k6⟩
        rintro σ H12 ⟨pp, rfl, D12, F12, L12, i4, i6⟩
        have L4 : LT H12 p4 (N + 1) := ⟨ls, i4, w4⟩
        have L6 : LT H12 p6 (N + 1) := ⟨ws, i6, w6⟩
        refine ⟨⟨_, rfl⟩, .ref p6, rfl, .int j, rfl, j, rfl, slL L6 (fun pa Ha na sa La => ?_)⟩
        refine ⟨.ref pp, rfl, catL La (L12.same sa) (by omega) (fun pb Hb nb sb Lb => ?_)⟩
        refine ⟨.ref p6, rfl, .int j, rfl, _, _, rfl, rfl, _, rfl, slLn ((L6.same sa).same sb) (fun pc Hc nc sc' Lc => catL (Lb.same sc') Lc (by omega) (fun pd Hd nd sd Ld => ?_))⟩
        have t4 := ((sa.trans sb).trans sc').trans sd
        obtain ⟨zs, hzs, wz⟩ := Ld
        refine ⟨_, pd, zs, rfl, rfl, .inl (SqL.of hzs), wt_fit _ l1s _ (by omega), ?_⟩
        have ll := Nat.le_trans (wt_join _ l1s zs) wz
        generalize Txt.join (Str.ofString " ") zs = line at ll ⊢
        refine ⟨⟨_, rfl⟩, .ref p4, rfl, .int k, rfl, k, rfl, slL (L4.same t4) (fun pe He ne se Le => ?_)⟩
        refine ⟨.str line, rfl, sl1, fun pf nf => ?_⟩
        have sf := same_upd (o := .lst [V.str line]) nf
        have Lf : LT (upd He pf (.lst [V.str line])) pf (line.length + 1) := ⟨[line], upd_same, by rw [wt_cons, wt_nil]; omega⟩
        refine catL (Le.same sf) Lf (by omega) (fun pg Hg ng sg' Lg => ?_)
        have t5 := ((t4.trans se).trans sf).trans sg'
        refine ⟨.ref p4, rfl, .int k, rfl, _, _, rfl, rfl, _, rfl, slLn (L4.same t5) (fun ph Hh nh sh Lh => catL (Lg.same sh) Lh (by omega) (fun p9 H9 n9 s9 L9 => ?_))⟩
        obtain ⟨zs2, hzs2, wz2⟩ := L9
        have t6 := (t5.trans sh).trans s9
        refine ⟨_, p9, zs2, rfl, rfl, .inl (SqL.of hzs2), wt_fit _ l1n _ (by omega), ?_⟩
        exact q _ _ (D12.same t6) (F12.trans (Fr.of t6)) (Nat.le_trans (wt_join _ l1n _) (by omega))
end
end Gk

set_option Elab.async false
set_option linter.all false
set_option maxRecDepth 100000
set_option maxHeartbeats 1000000
namespace Gk
open PySem PySem.Spec PyProof.Rows L2
mutual
theorem Sh.gr {H H' : Hp} (s : Gr H H') : ∀ {v : V} {d : PyData}, Sh H v d → Sh H' v d
  | _, _, .non => .non
  | _, _, .bl b => .bl b
  | _, _, .int i => .int i
  | _, _, .str x => .str x
  | _, _, .lst h n t => .lst (s.lst h) n (t.gr s)
  | _, _, .tup h t => .tup (s.tup h) (t.gr s)
  | _, _, .dic h t => .dic (s.1 _ _ (fun _ z => by cases z) h) (t.gr s)
theorem ShAll.gr {H H' : Hp} (s : Gr H H') : ∀ {vs : List V} {ds : List PyData}, ShAll H vs ds → ShAll H' vs ds
  | _, _, .nil => .nil
  | _, _, .cons h t => .cons (h.gr s) (t.gr s)
end
theorem ShAll.get {H : Hp} : ∀ {xs : List V} {ds : List PyData} {j : Nat} {x : V}, ShAll H xs ds → xs[j]? = some x → ∃ d, ds[j]? = some d ∧ Sh H x d
  | _, _, _, _, .nil, h => by simp at h
  | _, _, 0, _, .cons (d := d) a _, h => by
    cases (Option.some.inj h)
    exact ⟨d, rfl, a⟩
  | _, _, j + 1, _, .cons _ t, h => t.get h
theorem ShAll.append {H : Hp} : ∀ {xs ys : List V} {ds es : List PyData}, ShAll H xs ds → ShAll H ys es → ShAll H (xs ++ ys) (ds ++ es)
  | _, _, _, _, .nil, t => t
  | _, _, _, _, .cons a r, t => .cons a (r.append t)
theorem ShAll.take {H : Hp} : ∀ {xs : List V} {ds : List PyData} (n : Nat), ShAll H xs ds → ShAll H (xs.take n) (ds.take n)
  | _, _, 0, _ => by rw [List.take_zero, List.take_zero]; exact .nil
  | _, _, n + 1, .nil => .nil
  | _, _, n + 1, .cons a r => .cons a (r.take n)
theorem ShAll.drop {H : Hp} : ∀ {xs : List V} {ds : List PyData} (n : Nat), ShAll H xs ds → ShAll H (xs.drop n) (ds.drop n)
  | _, _, 0, h => h
  | _, _, n + 1, .nil => .nil
  | _, _, n + 1, .cons _ r => r.drop n
theorem notT {b : Bool} (h : (!b) = true) : ¬ b = true := by cases b <;> simp_all
theorem notF {b : Bool} (h : ¬ (!b) = true) : b = true := by cases b <;> simp_all

theorem one_plus {x k : Int} (h0 : 0 ≤ x) (h1 : x < k) : ∃ m : Nat, (fun i j : Int => V.int (i + j)) 1 x = V.int m ∧ 1 ≤ m ∧ (m : Int) ≤ k := by
  obtain ⟨c, rfl⟩ := Int.eq_ofNat_of_zero_le h0
  refine ⟨1 + c, ?_, by omega, by omega⟩
  show V.int (1 + (c : Int)) = _
  congr 1
theorem Tabs.fr {H H' : Hp} {Ps : List Addr} {d l : Addr} {n : Int} (t : Tabs H Ps) (D : DeckC H d l n) (f : Fr d l H H') : Tabs H' Ps := fun P hP => tab_frC D f (t P hP)
def Bd : Nat → Nat
  | 0 => 16
  | n + 1 => 6 * Bd n + 60
def ChAt (H : Hp) (p : Addr) (a b : List Int) (m : Nat) : Prop := ∃ pa pb, H p = some (.tup [.ref pa, .ref pb]) ∧ H pa = some (.tup (a.map V.int)) ∧ H pb = some (.tup (b.map V.int)) ∧ Row01' a ∧ Row01' b ∧ a.length = m ∧ b.length = m ∧ 1 ≤ m ∧ m ≤ 6
theorem ChAt.ts {H H' : Hp} {p : Addr} {a b : List Int} {m : Nat} (h : ChAt H p a b m) (t : Ts H H') : ChAt H' p a b m := by
  obtain ⟨pa, pb, h1, h2, h3, r⟩ := h
  exact ⟨pa, pb, t _ _ h1, t _ _ h2, t _ _ h3, r⟩
theorem wB_wS {b : Int} (h : b = 0 ∨ b = 1) : wB (wS b) = b := by
  rcases h with rfl | rfl <;> rfl
theorem rowP_S {a : List Int} (h : Row01' a) : rowP (rowS a) = .tuple (a.map PyData.int) := by
  unfold rowP rowS
  rw [List.map_map]
  congr 1
  refine List.map_congr_left fun x hx => ?_
  show PyData.int (wB (wS x)) = _
  rw [wB_wS (h x hx)]
theorem rowS_bits {a : List Int} : (rowS a).all bit = true := by
  refine List.all_eq_true.mpr fun c hc => ?_
  obtain ⟨x, _, rfl⟩ := List.mem_map.mp hc
  unfold wS
  split <;> rfl
theorem rowS_len {a : List Int} : (rowS a).length = a.length := by unfold rowS; rw [List.length_map]
theorem told_ch {a b : List Int} {m : Nat} (la : a.length = m) (lb : b.length = m) : toldV m (.str (SX.S (chT a b))) = .str (chP (rowS a) (rowS b)).shown := by
  unfold toldV chQ
  dsimp only
  have : TL.tl (SX.S (chT a b)) = chT a b := by rfl
  rw [this]
  unfold chT
  rw [chL_of (by rw [rowS_len, la]) (by rw [rowS_len, lb]) rowS_bits rowS_bits]
theorem ints_sh {H : Hp} : ∀ bs : List Int, ShAll H (bs.map V.int) (bs.map PyData.int)
  | [] => .nil
  | b :: r => .cons (.int b) (ints_sh r)
theorem ChAt.sh {H : Hp} {p : Addr} {a b : List Int} {m : Nat} (h : ChAt H p a b m) : Sh H (.ref p) (chP (rowS a) (rowS b)) ∧ fineB 26 3 (chP (rowS a) (rowS b)) = true := by
  obtain ⟨pa, pb, h1, h2, h3, r1, r2, l1, l2, m1, m6⟩ := h
  refine ⟨?_, ch_fine (by rw [rowS_len]; omega) (by rw [rowS_len]; omega)⟩
  unfold chP
  rw [rowP_S r1, rowP_S r2]
  exact .tup h1 (.cons (.tup h2 (ints_sh a)) (.cons (.tup h3 (ints_sh b)) .nil))
theorem chT_len {a b : List Int} {m : Nat} (la : a.length = m) (lb : b.length = m) (h : m ≤ 6) : (SX.S (chT a b)).length ≤ 16 := by
  rw [SX.S_len]
  unfold chT
  rw [List.length_append, List.length_append, rowS_len, rowS_len, la, lb]
  show m + (4 + m) ≤ 16
  omega
theorem chT_small {a b : List Int} : ∀ c ∈ chT a b, c < 200 := by
  intro c hc
  have hb : ∀ r : List Int, ∀ c ∈ rowS r, c < 200 := fun r c hc => by
    obtain ⟨x, _, rfl⟩ := List.mem_map.mp hc
    unfold wS
    split <;> decide
  unfold chT at hc
  rcases List.mem_append.mp hc with z | z
  · exact hb _ _ z
  · rcases List.mem_append.mp z with z | z
    · exact (show ∀ c ∈ to4, c < 200 by decide) c z
    · exact hb _ _ z
def odd06 (t : Str) (c : PyData) : List PyData := [.none, .int 7, .bool true, .tuple [], .list [], .dict [], .tuple [.str t], .list [.str t, .str "b", .str "a"], c, .dict [(.str "b", .str t), (.str "a", .list [.str t])]]
theorem t_fine {t : Str} (h : t.length ≤ 16) (hc : ∀ c ∈ t.cps.toList, c < 200) : fineB 16 0 (.str t) = true := by
  refine fine_iff.mpr ⟨rfl, ?_, ?_, Nat.zero_le _⟩
  · exact List.all_eq_true.mpr fun c k => decide_eq_true (Nat.lt_trans (hc c k) (by decide))
  · exact h
theorem odd06_fine {t : Str} {c : PyData} (h : t.length ≤ 16) (hc : ∀ x ∈ t.cps.toList, x < 200) (fc : fineB 26 3 c = true) : ∀ e ∈ odd06 t c, fineB 4000 10 e = true := by
  have ft := t_fine h hc
  have f1 : fineB 16 0 (.str "b") = true := by decide +kernel
  have f2 : fineB 16 0 (.str "a") = true := by decide +kernel
  have g1 := fine_tup (n := 16) (m := 0) (k := 1) (ds := [.str t]) (fun d hd => by rw [List.mem_singleton.mp hd]; exact ft) (Nat.le_refl _)
  have g0 := fine_lst (n := 16) (m := 0) (k := 1) (ds := [.str t]) (fun d hd => by rw [List.mem_singleton.mp hd]; exact ft) (Nat.le_refl _)
  have g2 := fine_lst (n := 16) (m := 0) (k := 3) (ds := [.str t, .str "b", .str "a"]) (fun d hd => by
    rcases List.mem_cons.mp hd with rfl | hd
    · exact ft
    · rcases List.mem_cons.mp hd with rfl | hd
      · exact f1
      · rw [List.mem_singleton.mp hd]; exact f2) (Nat.le_refl _)
  have g3 : fineB 4000 10 (.dict [(.str "b", .str t), (.str "a", .list [.str t])]) = true := by
    obtain ⟨_, a2, a3, _⟩ := fine_iff.mp ft
    obtain ⟨_, b2, b3, _⟩ := fine_iff.mp g0
    obtain ⟨_, c2, c3, _⟩ := fine_iff.mp f1
    obtain ⟨_, d2, d3, _⟩ := fine_iff.mp f2
    refine fine_iff.mpr ⟨rfl, ?_, ?_, ?_⟩
    · simp only [PyData.leavesShort, PyData.leavesShortKv] at a2 b2 c2 d2 ⊢
      simp only [a2, b2, c2, d2, Bool.and_true, Bool.true_and]
    · simp only [PyData.weight, PyData.weightKv] at a3 b3 c3 d3 ⊢
      omega
    · simp only [PyData.depth, PyData.depthKv, PyData.depthAll]
      omega
  intro e he
  unfold odd06 at he
  simp only [List.mem_cons, List.not_mem_nil, or_false] at he
  rcases he with rfl | rfl | rfl | rfl | rfl | rfl | rfl | rfl | rfl | rfl
  · decide +kernel
  · decide +kernel
  · decide +kernel
  · decide +kernel
  · decide +kernel
  · decide +kernel
  · exact fine_mono g1 (by decide) (by decide)
  · exact fine_mono g2 (by decide) (by decide)
  · exact fine_mono fc (by decide) (by decide)
  · exact g3
theorem odd06_told {t : Str} {a b : List Nat} (m : Nat) : ∀ e ∈ odd06 t (chP a b), toldV m e = .bl true ∧ ∀ z, e ≠ .str z := by
  intro e he
  unfold odd06 at he
  simp only [List.mem_cons, List.not_mem_nil, or_false] at he
  rcases he with rfl | rfl | rfl | rfl | rfl | rfl | rfl | rfl | rfl | rfl <;> exact ⟨rfl, fun z k => by cases k⟩
section
variable {P : Program} {w : World} {K : PySem.W.Frag} {mg : Str → Option Value} {base : Heap}
def sp_law (K : PySem.W.Frag) (Ps : List Addr) : Sp := fun vs H Q _ => ∃ (a : Addr) (ns : List Int), vs = [.ref a] ∧ SqL K H a (ns.map V.int) ∧ ns.length ≤ 63 ∧ Tabs H Ps ∧ ∀ H', Q (.bl true) H'
theorem ok_law (T : Tx K mg) (B : Tb base T) : FnG P w K mg base CX0 7 T.f_law T.fd_law ["_law_script"] (sp_law K T.tabs) := by
  refine okG0 T.F_law sc_law (fun vs H Q E h => ?_) (fun cdv A outer s H vs Q E nothing hr h => ?_)
  · obtain ⟨a, ns, rfl, _⟩ := h
    rfl
  · obtain ⟨a, ns, rfl, hS, hlen, tabs, q⟩ := h
    refine ⟨_, (pss_cons (ps_set (i := 1) sc_law.nd rfl (by first | exact .inl rfl | exact .inr rfl) (pe_call (ok_deck T) (hr.mono (by decide)) (by rfl) T.g_deck T.F_deck.kp T.b_deck .nil pass0 (pa_cons (pv 0) pa_nil))) (pss_cons (ps_for PassesOwn.never rfl (pi_range1 (by rfl) T.m_range (pa_cons pe_int pa_nil)) (pg_name (i := 2) sc_law.nd rfl (by first | exact .inl rfl | exact .inr rfl)) (pss_cons (ps_set (i := 3) sc_law.nd rfl (by first | exact .inl rfl | exact .inr rfl) (pe_op op_add pe_int (pe_call (ok_take T) (hr.mono (by decide)) (by rfl) T.g_take T.F_take.kp T.b_take .nil pass0 (pa_cons (pv 1) (pa_cons pe_int pa_nil))))) (pss_cons (ps_set (i := 4) sc_law.nd rfl (by first | exact .inl rfl | exact .inr rfl) (pe_op op_add pe_int (pe_call (ok_take T) (hr.mono (by decide)) (by rfl) T.g_take T.F_take.kp T.b_take .nil pass0 (pa_cons (pv 1) (pa_cons pe_int pa_nil))))) (pss_cons (ps_set (i := 5) sc_law.nd rfl (by first | exact .inl rfl | exact .inr rfl) (pe_call (ok_row T) (hr.mono (by decide)) (by rfl) T.g_row T.F_row.kp T.b_row .nil pass0 (pa_cons (pv 1) (pa_cons (pv 4) pa_nil)))) (pss_cons (ps_set (i := 6) sc_law.nd rfl (by first | exact .inl rfl | exact .inr rfl) (pe_tup (pa_cons (pv 5) (pa_cons (pe_ix ix_list (pe_lst (pa_cons (pe_call (ok_row T) (hr.mono (by decide)) (by rfl) T.g_row T.F_row.kp T.b_row .nil pass0 (pa_cons (pv 1) (pa_cons (pv 4) pa_nil))) (pa_cons (pv 5) pa_nil))) (pe_call (ok_take T) (hr.mono (by decide)) (by rfl) T.g_take T.F_take.kp T.b_take .nil pass0 (pa_cons (pv 1) (pa_cons pe_int pa_nil))) (fun _ _ => rfl)) pa_nil)))) (pss_cons (ps_set (i := 7) sc_law.nd rfl (by first | exact .inl rfl | exact .inr rfl) (pe_call (ok_shown T) (hr.mono (by decide)) (by rfl) T.g_shown T.F_shown.kp T.b_shown .nil pass0 (pa_cons (pv 6) pa_nil))) (pss_cons (ps_if (pw_or (pt_cmpR op_ne (pe_call (ok_show_change T B) (hr.mono (by decide)) (by rfl) T.g_show_change T.F_show_change.kp T.b_show_change .nil pass0 (pa_cons (pv 6) pa_nil)) (pv 7) (nomark _)) (pw_or1 (pt_not (pt_val (pe_callB call_isi (by rfl) T.m_isinstance (by decide +kernel) (pa_cons (pe_call (ok_show_change T B) (hr.mono (by decide)) (by rfl) T.g_show_change T.F_show_change.kp T.b_show_change .nil pass0 (pa_cons (pv 6) pa_nil)) (pa_cons (pe_bltn (v := .ty "str") (u := .type "str") (by rfl) T.m_str (by decide +kernel) rfl) pa_nil))))))).pt (pss_one (ps_ret pe_bl)) pss_nil) (pss_cons (ps_for PassesOwn.never rfl (pi_range1 (by rfl) T.m_range (pa_cons pe_int pa_nil)) (pg_name (i := 8) sc_law.nd rfl (by first | exact .inl rfl | exact .inr rfl)) (pss_cons (ps_set (i := 9) sc_law.nd rfl (by first | exact .inl rfl | exact .inr rfl) (pv 7)) (pss_cons (ps_for PassesOwn.never rfl (pi_range1 (by rfl) T.m_range (pa_cons (pv 3) pa_nil)) (pg_name (i := 10) sc_law.nd rfl (by first | exact .inl rfl | exact .inr rfl)) (pss_one (ps_set (i := 9) sc_law.nd rfl (by first | exact .inl rfl | exact .inr rfl) (pe_call (ok_bent T) (hr.mono (by decide)) (by rfl) T.g_bent T.F_bent.kp T.b_bent .nil pass0 (pa_cons (pv 1) (pa_cons (pv 9) pa_nil)))))) (pss_cons (ps_if (pw_or (pt_not (pt_val (pe_callG (ok_right T B) nothing (hr.mono (by decide)) (by rfl) T.g_right T.F_right.kp T.b_right .nil pass0 (pa_cons (pv 4) (pa_cons (pv 9) pa_nil))))) (pw_or1 (pt_not (pt_val (pe_callG (ok_right T B) nothing (hr.mono (by decide)) (by rfl) T.g_right T.F_right.kp T.b_right .nil pass0 (pa_cons (pe_op op_add pe_int (pe_call (ok_take T) (hr.mono (by decide)) (by rfl) T.g_take T.F_take.kp T.b_take .nil pass0 (pa_cons (pv 1) (pa_cons pe_int pa_nil)))) (pa_cons (pv 9) pa_nil))))))).pt (pss_one (ps_ret pe_bl)) pss_nil) (pss_one (ps_if (pt_cmpR op_ne (pe_callG (ok_told T B) nothing (hr.mono (by decide)) (by rfl) T.g_told T.F_told.kp T.b_told .nil pass0 (pa_cons (pv 4) (pa_cons (pv 7) pa_nil))) (pe_callB (call_repr nothing hr.units) (by rfl) T.m_repr (by decide +kernel) (pa_cons (pv 6) pa_nil)) (nomark _)) (pss_one (ps_ret pe_bl)) pss_nil)))))) (pss_one (ps_if (pt_cmpR (op_neD hr.units) (pe_call (ok_raised T) (hr.mono (by decide)) (by rfl) T.g_raised T.F_raised.kp T.b_raised .nil pass0 (pa_cons (pv 2) (pa_cons (pv 9) pa_nil))) (pe_op op_cat (pe_lc (own := [("_law_place", 13)]) (by rfl) sc_law.nd (pi_range1 (by rfl) T.m_range (pa_cons pe_int pa_nil)) (blkOk_by (own := [("_law_place", 13)]) (N := ["_law_script", "_law_deck_here", "_law_turn", "_law_steps", "_law_many", "_law_row_here", "_law_change", "_law_text", "_law_again", "_law_other", "_law_step", "_law_thing", "_law_kept", "_law_place"]) (sc := defScope s_law) (by decide +kernel)) (fun _ _ _ _ _ => (pg_name (i := 13) sc_law.nd rfl (by first | exact .inl rfl | exact .inr rfl))) (fun _ _ _ _ _ => pts_nil) (fun _ _ _ _ _ => (pe_cmpR op_eq (pv 13) (pv 2) (nomark _)))) (pe_lst (pa_cons pe_bl pa_nil))) (nomark _)) (pss_one (ps_ret pe_bl)) pss_nil)))))))))) (pss_cons (ps_for PassesOwn.never rfl (pi_list (pe_lstN (pa_cons pe_non (pa_cons pe_int (pa_cons pe_bl (pa_cons (pe_tup pa_nil) (pa_cons (pe_lstN pa_nil) (pa_cons pe_dnewK (pa_cons (pe_tup (pa_cons (pv 7) pa_nil)) (pa_cons (pe_lstN (pa_cons (pv 7) (pa_cons pe_str (pa_cons pe_str pa_nil)))) (pa_cons (pv 6) (pa_cons (pe_disp (pps_cons pe_str (pv 7) (pps_cons pe_str (pe_lstN (pa_cons (pv 7) pa_nil)) pps_nil)) (by rfl) (by rfl) (fun z => by cases z) (by decide)) pa_nil)))))))))))) (pg_name (i := 11) sc_law.nd rfl (by first | exact .inl rfl | exact .inr rfl)) (pss_cons (ps_set (i := 12) sc_law.nd rfl (by first | exact .inl rfl | exact .inr rfl) (pe_callB (call_repr nothing hr.units) (by rfl) T.m_repr (by decide +kernel) (pa_cons (pv 11) pa_nil))) (pss_one (ps_if (pw_or (pt_cmpR op_isnot_bl (pe_callG (ok_told T B) nothing (hr.mono (by decide)) (by rfl) T.g_told T.F_told.kp T.b_told .nil pass0 (pa_cons (pv 4) (pa_cons (pv 11) pa_nil))) pe_bl (nomark _)) (pw_or1 (pt_cmpR op_ne (pe_callB (call_repr nothing hr.units) (by rfl) T.m_repr (by decide +kernel) (pa_cons (pv 11) pa_nil)) (pv 12) (nomark _)))).pt (pss_one (ps_ret pe_bl)) pss_nil)))) (pss_one (ps_ret (pe_cmpR op_is_bl (pe_callG (ok_told T B) nothing (hr.mono (by decide)) (by rfl) T.g_told T.F_told.kp T.b_told .nil pass0 (pa_cons (pv 4) (pa_cons pe_str pa_nil))) pe_bl (nomark _))))))), ?_⟩
    refine ⟨.ref a, rfl, a, ns, rfl, hS, hlen, fun H1 d l s1 D1 => ?_⟩
    have t1 : Tabs H1 T.tabs := (Gr.of s1).tabs tabs
    refine ⟨6, rfl, by decide, by decide, for_range (n := 6) (fun j σ H' => ∃ y2 y3 y4 y5 y6 y7 y8 y9 y10 y11 y12 y13, σ = [some (.ref a), some (.ref d), y2, y3, y4, y5, y6, y7, y8, y9, y10, y11, y12, y13] ∧ DeckC H' d l (200 * j) ∧ Tabs H' T.tabs ∧ (0 < j → ∃ (m : Nat) (p : Addr) (ra rb : List Int), y4 = some (.int m) ∧ y6 = some (.ref p) ∧ y7 = some (.str (SX.S (chT ra rb))) ∧ ChAt H' p ra rb m)) ⟨_, _, _, _, _, _, _, _, _, _, _, _, rfl, D1.mono (by omega), t1, fun z => absurd z (by omega)⟩ ?_ ?_⟩
    · rintro j σ Ha hj ⟨y2, y3, y4, y5, y6, y7, y8, y9, y10, y11, y12, y13, rfl, Da, ta, _⟩
      refine ⟨.ref d, rfl, d, l, 2, _, rfl, Da, by omega, by decide, by decide, fun Hb sx Db fb u0 u1 => ⟨_, _, rfl, rfl, ?_⟩⟩
      obtain ⟨st, es, st1, st2⟩ := one_plus u0 u1
      rw [es]
      have tb := ta.fr Da fb
      refine ⟨.ref d, rfl, d, l, 6, _, rfl, Db, by omega, by decide, by decide, fun Hc mx Dc fc w0 w1 => ⟨_, _, rfl, rfl, ?_⟩⟩
      obtain ⟨m, em, m1, m6⟩ := one_plus w0 w1
      rw [em]
      have tc := tb.fr Db fc
      refine ⟨.ref d, rfl, .int m, rfl, d, l, _, m, rfl, Dc, by omega, by omega, fun pa ra Hd Dd fd lra ra01 hpa => ?_⟩
      have td := tc.fr Dc fd
      refine ⟨.ref pa, rfl, .ref d, rfl, .int m, rfl, d, l, _, m, rfl, Dd, by omega, by omega, fun pb rb He De fe lrb rb01 hpb => ?_⟩
      have te := td.fr Dd fe
      have hpa := Ts.frC Dd fe _ _ hpa
      refine ⟨.ref pa, rfl, sl2, fun pl npl => ?_⟩
      have sl := same_upd (o := .lst [V.ref pb, .ref pa]) npl
      have ol := De.off npl
      have hpl := upd_same (H := He) (a := pl) (o := .lst [V.ref pb, .ref pa])
      generalize upd He pl (.lst [V.ref pb, .ref pa]) = He' at sl hpl ⊢
      refine ⟨.ref d, rfl, d, l, 2, _, rfl, De.same sl, by omega, by decide, by decide, fun Hf v Df ff v0 v1 => ?_⟩
      have tf := ((Gr.of sl).tabs te).fr (De.same sl) ff
      have hpa := Ts.frC (De.same sl) ff _ _ (sl _ _ hpa)
      have hpb := Ts.frC (De.same sl) ff _ _ (sl _ _ hpb)
      obtain ⟨px, rx, hv, hpx, lrx, rx01⟩ : ∃ px rx, atI [V.ref pb, .ref pa] v = some (.ref px) ∧ Hf px = some (.tup (rx.map V.int)) ∧ rx.length = m ∧ Row01' rx := by
        have : v = 0 ∨ v = 1 := by omega
        rcases this with rfl | rfl
        · exact ⟨pb, rb, rfl, hpb, lrb, rb01⟩
        · exact ⟨pa, ra, rfl, hpa, lra, ra01⟩
      refine ⟨pl, _, _, .ref px, rfl, rfl, SqL.of (ff _ _ ol.1 ol.2 hpl), hv, sl2, fun pc npc => ?_⟩
      have sc' := same_upd (o := .tup [V.ref pa, .ref px]) npc
      have C : ChAt (upd Hf pc (.tup [V.ref pa, .ref px])) pc ra rx m := ⟨pa, px, upd_same, sc' _ _ hpa, sc' _ _ hpx, ra01, rx01, lra, lrx, m1, by omega⟩
      have D0 : DeckC (upd Hf pc (.tup [V.ref pa, .ref px])) d l (200 * j + 20) := (Df.mono (by omega)).same sc'
      have t0 := (Gr.of sc').tabs tf
      generalize upd Hf pc (.tup [V.ref pa, .ref px]) = H0 at C D0 t0 ⊢
      obtain ⟨pa', px', c1, c2, c3, _⟩ := C
      have lS := chT_len (a := ra) (b := rx) lra lrx (by omega)
      refine ⟨.ref pc, rfl, pc, pa', px', ra, rx, rfl, c1, c2, c3, ra01, rx01, by omega, by omega, fun Hh sh => ?_⟩
      refine ⟨.ref pc, rfl, pc, pa', px', ra, rx, rfl, sh _ _ c1, sh _ _ c2, sh _ _ c3, ra01, rx01, by omega, by omega, (Gr.of sh).tabs t0, fun Hi gi => ⟨.str _, rfl, rfl, false, ?_, iteF ?_⟩⟩
      · rw [decide_eq_true rfl]
        rfl
      have gi := (Gr.of sh).trans gi
      refine ⟨.ref pc, rfl, pc, pa', px', ra, rx, rfl, gi.tup c1, gi.tup c2, gi.tup c3, ra01, rx01, by omega, by omega, gi.tabs t0, fun Hj gj => ⟨_, _, _, _, true, rfl, .ty _, .base (.str _), kit_ty (by decide +kernel), true, rfl, iteF ?_⟩⟩
      have gj := gi.trans gj
      have Cj : ChAt Hj pc ra rx m := ⟨pa', px', gj.tup c1, gj.tup c2, gj.tup c3, ra01, rx01, lra, lrx, m1, by omega⟩
      have Dj := D0.gr gj
      have tj := gj.tabs t0
      refine ⟨5, rfl, by decide, by decide, for_range (n := 5) (fun i σ H' => ∃ y8 y9 y10, σ = [some (.ref a), some (.ref d), some (.int (0 + (j : Int))), some (.int st), some (.int m), some (.ref pa), some (.ref pc), some (.str (SX.S (chT ra rx))), y8, y9, y10, y11, y12, y13] ∧ DeckC H' d l (200 * j + 20 + 20 * i) ∧ Tabs H' T.tabs ∧ ChAt H' pc ra rx m ∧ (0 < i → ∃ z, y9 = some (.str z))) ⟨_, _, _, rfl, Dj.mono (by omega), tj, Cj, fun z => absurd z (by omega)⟩ ?_ ?_⟩
      · rintro i σ Hk hi ⟨y8', y9', y10', rfl, Dk, tk, Ck, _⟩
        refine ⟨.str _, rfl, ?_⟩
        refine ⟨.int st, rfl, st, rfl, by omega, by omega, for_range (n := (st : Int).toNat) (fun i2 σ H' => ∃ y10 z, σ = [some (.ref a), some (.ref d), some (.int (0 + (j : Int))), some (.int st), some (.int m), some (.ref pa), some (.ref pc), some (.str (SX.S (chT ra rx))), some (.int (0 + (i : Int))), some (.str z), y10, y11, y12, y13] ∧ DeckC H' d l (200 * j + 20 + 20 * i + 8 * i2) ∧ Tabs H' T.tabs ∧ ChAt H' pc ra rx m ∧ z.length ≤ Bd i2) ⟨_, _, rfl, Dk.mono (by omega), tk, Ck, lS⟩ ?_ ?_⟩
        · rintro i2 σ Hl hi2 ⟨y10'', z, rfl, Dl, tl, Cl, hz⟩
          have hi3 : i2 < st := by simpa using hi2
          have b2 : Bd i2 ≤ 1000 := by
            have : i2 = 0 ∨ i2 = 1 := by omega
            rcases this with rfl | rfl <;> decide
          refine ⟨.ref d, rfl, .str z, rfl, d, l, _, z, Bd i2, rfl, Dl, by omega, hz, b2, fun Hm y Dm fm ly => ?_⟩
          exact ⟨_, y, rfl, Dm.mono (by push_cast; omega), tl.fr Dl fm, Cl.ts (Ts.frC Dl fm), ly⟩
        · rintro σ Hl ⟨y10'', z, rfl, Dl, tl, Cl, hz⟩
          have est : (st : Int).toNat = st := by simp
          rw [est] at hz Dl
          have b2 : z.length ≤ 1000 := Nat.le_trans hz (by
            have : st = 1 ∨ st = 2 := by omega
            rcases this with rfl | rfl <;> decide)
          refine ⟨.int m, rfl, .str z, rfl, m, z, rfl, by omega, b2, tl, fun Hm gm => ⟨true, rfl, iteF ?_⟩⟩
          refine ⟨.ref d, rfl, d, l, 6, _, rfl, Dl.gr gm, by omega, by decide, by decide, fun Hn v' Dn fn v0 v1 => ⟨_, _, rfl, rfl, ?_⟩⟩
          obtain ⟨m', em', m1', m6'⟩ := one_plus v0 v1
          rw [em']
          have tn := (gm.tabs tl).fr (Dl.gr gm) fn
          have Cn := (Cl.ts (Ts.gr gm)).ts (Ts.frC (Dl.gr gm) fn)
          refine ⟨.str z, rfl, m', z, rfl, by omega, b2, tn, fun Ho go => ⟨true, rfl, iteF ?_⟩⟩
          have to_ := go.tabs tn
          have Co := Cn.ts (Ts.gr go)
          refine ⟨.int m, rfl, .str _, rfl, m, _, .str _, rfl, by omega, .str _, (fun z' e => by cases e; omega), to_, fun Hp gp => ?_⟩
          have Cp := Co.ts (Ts.gr gp)
          obtain ⟨shp, fip⟩ := Cp.sh
          obtain ⟨able, _, _, deep⟩ := fine_iff.mp fip
          rw [told_ch lra lrx]
          refine ⟨.ref pc, rfl, .ref pc, _, rfl, shp, able, fine_fits fip (by decide), by omega, rfl, false, ?_, iteF ?_⟩
          · rw [decide_eq_true rfl]
            rfl
          exact ⟨_, _, _, rfl, (Dn.gr (go.trans gp)).mono (by push_cast; omega), gp.tabs to_, Cp, fun _ => ⟨z, rfl⟩⟩
      · rintro σ Hk ⟨y8', y9', y10', rfl, Dk, tk, Ck, hy⟩
        obtain ⟨z, rfl⟩ := hy (by decide)
        refine ⟨.int (0 + (j : Int)), rfl, .str z, rfl, j, z, by rw [Int.zero_add]; rfl, hj, fun Hl p1 sl' h1 => ?_⟩
        refine ⟨6, rfl, by decide, by decide, fun I nI => ?_⟩
        refine lc_range (lo := 0) (n := 6) (fun i H' => Same Hl H' ∧ H' I = some (.lst ((List.range i).map fun k => V.bl (k == j)))) ⟨same_upd nI, upd_same⟩ ?_ ?_
        · rintro i Hm hi ⟨sm, hI⟩
          refine ⟨rfl, .int (0 + (i : Int)), rfl, .int (0 + (j : Int)), rfl, rfl, _, hI, ?_, ?_, ?_⟩
          · rw [List.length_map, List.length_range]
            exact Nat.lt_of_lt_of_le (show i < 64 by omega) (by decide)
          · exact fun b o e => by
              rw [upd_ne (ne_of_none e nI)]
              exact sm b o e
          · rw [upd_same, List.range_succ, List.map_append]
            have : decide (V.int (0 + (i : Int)) = V.int (0 + (j : Int))) = (i == j) := by
              by_cases h : i = j
              · subst h; simp
              · rw [decide_eq_false (fun z => h (by have := V.int.inj z; omega))]
                exact (beq_eq_false_iff_ne.mpr h).symm
            rw [this]
            rfl
        · rintro Hm ⟨sm, hI⟩
          refine ⟨sl1, fun p2 n2 => ?_⟩
          have s2 := same_upd (o := .lst [V.bl true]) n2
          refine ⟨I, p2, _, _, rfl, rfl, s2 _ _ hI, upd_same, by show 7 ≤ sizeLine; decide, fun p3 n3 => ?_⟩
          have s3 := same_upd (o := .lst ((List.range 6).map (fun k => V.bl (k == j)) ++ [V.bl true])) n3
          have eJ : (List.range 6).map (fun k => V.bl (k == j)) ++ [V.bl true] = (one6 j ++ [true]).map V.bl := by
            have : j = 0 ∨ j = 1 ∨ j = 2 ∨ j = 3 ∨ j = 4 ∨ j = 5 := by omega
            rcases this with rfl | rfl | rfl | rfl | rfl | rfl <;> rfl
          have h3 := upd_same (H := upd Hm p2 (.lst [V.bl true])) (a := p3) (o := .lst ((List.range 6).map (fun k => V.bl (k == j)) ++ [V.bl true]))
          generalize upd (upd Hm p2 (.lst [V.bl true])) p3 (.lst ((List.range 6).map (fun k => V.bl (k == j)) ++ [V.bl true])) = Hn at s3 h3 ⊢
          rw [eJ] at h3
          have h1n := s3 _ _ (s2 _ _ (sm _ _ h1))
          have sn := sl'.trans ((sm.trans s2).trans s3)
          refine ⟨.list ((one6 j ++ [true]).map .bool), .list ((one6 j ++ [true]).map .bool), .lst (SqL.of h1n) (.cons (.bl _) (.cons (.bl _) (.cons (.bl _) (.cons (.bl _) (.cons (.bl _) (.cons (.bl _) (.cons (.bl _) .nil))))))), .lst (SqL.of h3) (.cons (.bl _) (.cons (.bl _) (.cons (.bl _) (.cons (.bl _) (.cons (.bl _) (.cons (.bl _) (.cons (.bl _) .nil))))))), rfl, rfl, false, ?_, iteF ?_⟩
          · rw [SeqAt.eqv_refl] <;> rfl
          · exact ⟨_, _, _, _, _, _, _, _, _, _, _, _, rfl, (Dk.same sn).mono (by push_cast; omega), (Gr.of sn).tabs tk, fun _ => ⟨m, pc, ra, rx, rfl, rfl, rfl, Ck.ts (Ts.same sn)⟩⟩
    · rintro σ Ha ⟨y2, y3, y4, y5, y6, y7, y8, y9, y10, y11, y12, y13, rfl, Da, ta, hy⟩
      obtain ⟨m, pc, ra, rx, rfl, rfl, rfl, C⟩ := hy (by decide)
      obtain ⟨shc, fic⟩ := C.sh
      obtain ⟨pa', px', c1, c2, c3, r1, r2, lra, lrx, m1, m6⟩ := C
      have lS := chT_len (a := ra) (b := rx) lra lrx m6
      have cS : ∀ c ∈ (SX.S (chT ra rx)).cps.toList, c < 200 := fun c hc => chT_small (a := ra) (b := rx) c (by simpa [SX.S] using hc)
      have fo := odd06_fine lS cS fic
      have to_ := odd06_told (t := SX.S (chT ra rx)) (a := rowS ra) (b := rowS rx) m
      generalize SX.S (chT ra rx) = t at lS fo to_ ⊢
      generalize chP (rowS ra) (rowS rx) = ch at shc fo to_
      refine ⟨Nat.zero_le _, fun q1 n1 => ⟨Nat.zero_le _, fun q2 n2 k2 => fun q3 n3 => ⟨.str t, rfl, sl1, fun q4 n4 => ⟨.str t, rfl, sl3, fun q5 n5 k5 => ⟨.ref pc, rfl, fun q6 n6 => ⟨.str t, rfl, .str t, rfl, sl1, fun q7 n7 k7 => ?_⟩⟩⟩⟩⟩⟩
      have s1' := same_upd (o := .tup []) n1
      have s2' := same_upd (o := .lst []) n2
      have s3' := same_upd (o := .dK []) n3
      have s4' := same_upd (o := .tup [V.str t]) n4
      have s5' := same_upd (o := .lst [V.str t, .str "b", .str "a"]) n5
      have s6' := same_upd (o := .dK []) n6
      have s7' := same_upd (o := .lst [V.str t]) n7
      have g1 := upd_same (H := Ha) (a := q1) (o := .tup [])
      have g2 := upd_same (H := upd Ha q1 (.tup [])) (a := q2) (o := .lst [])
      generalize upd Ha q1 (.tup []) = Hb at *
      generalize upd Hb q2 (.lst []) = Hc at *
      have g3 := upd_same (H := Hc) (a := q3) (o := .dK [])
      generalize upd Hc q3 (.dK []) = Hd at *
      have g4 := upd_same (H := Hd) (a := q4) (o := .tup [V.str t])
      generalize upd Hd q4 (.tup [V.str t]) = He at *
      have g5 := upd_same (H := He) (a := q5) (o := .lst [V.str t, .str "b", .str "a"])
      generalize upd He q5 (.lst [V.str t, .str "b", .str "a"]) = Hf at *
      have g6 := upd_same (H := Hf) (a := q6) (o := .dK [])
      generalize upd Hf q6 (.dK []) = Hg at *
      have g7 := upd_same (H := Hg) (a := q7) (o := .lst [V.str t])
      generalize upd Hg q7 (.lst [V.str t]) = Hh at *
      have ne76 : q7 ≠ q6 := (ne_of_none g6 n7).symm
      refine ⟨s7' _ _ g6, [(Sum.inr "b", .str t), (Sum.inr "a", .ref q7)], rfl, by show 2 ≤ 15; decide, by show 10 ≤ sizeLine; decide, fun ls nls kls => ?_⟩
      have hKV : mergeK [] [((Sum.inr "b" : Key), V.str t), (Sum.inr "a", .ref q7)] = [((Sum.inr "b" : Key), V.str t), (Sum.inr "a", .ref q7)] := by rfl
      rw [hKV] at nls ⊢
      have sF : Same Hf (upd Hh q6 (.dK [((Sum.inr "b" : Key), V.str t), (Sum.inr "a", .ref q7)])) := fun b o e => by
        rw [upd_ne (ne_of_none e n6)]
        exact s7' _ _ (s6' _ _ e)
      have h6 := upd_same (H := Hh) (a := q6) (o := .dK [((Sum.inr "b" : Key), V.str t), (Sum.inr "a", .ref q7)])
      have h7 : upd Hh q6 (.dK [((Sum.inr "b" : Key), V.str t), (Sum.inr "a", .ref q7)]) q7 = some (.lst [V.str t]) := by
        rw [upd_ne ne76]
        exact g7
      generalize upd Hh q6 (.dK [((Sum.inr "b" : Key), V.str t), (Sum.inr "a", .ref q7)]) = Hi at *
      have sl' := same_upd (o := .lst [V.non, .int 7, .bl true, .ref q1, .ref q2, .ref q3, .ref q4, .ref q5, .ref pc, .ref q6]) nls
      have hls := upd_same (H := Hi) (a := ls) (o := .lst [V.non, .int 7, .bl true, .ref q1, .ref q2, .ref q3, .ref q4, .ref q5, .ref pc, .ref q6])
      generalize upd Hi ls (.lst [V.non, .int 7, .bl true, .ref q1, .ref q2, .ref q3, .ref q4, .ref q5, .ref pc, .ref q6]) = Hj at *
      have tj : Same Hf Hj := sF.trans sl'
      have te : Same He Hj := s5'.trans tj
      have td : Same Hd Hj := s4'.trans te
      have tc : Same Hc Hj := s3'.trans td
      have tb : Same Hb Hj := s2'.trans tc
      have ta' : Same Ha Hj := s1'.trans tb
      have shA : ShAll Hj [V.non, .int 7, .bl true, .ref q1, .ref q2, .ref q3, .ref q4, .ref q5, .ref pc, .ref q6] (odd06 t ch) :=
        .cons .non (.cons (.int _) (.cons (.bl _) (.cons (.tup (tb _ _ g1) .nil) (.cons (.lst (tc _ _ g2) k2 .nil) (.cons (.dic (kvs := []) (td _ _ g3) .nil) (.cons (.tup (te _ _ g4) (.cons (.str _) .nil)) (.cons (.lst (tj _ _ g5) k5 (.cons (.str _) (.cons (.str _) (.cons (.str _) .nil)))) (.cons (shc.same ta') (.cons (.dic (sl' _ _ h6) (.cons (.str _) (.cons (.lst (sl' _ _ h7) k7 (.cons (.str _) .nil)) .nil))) .nil)))))))))
      have tabsJ := (Gr.of ta').tabs ta
      generalize [V.non, .int 7, .bl true, .ref q1, .ref q2, .ref q3, .ref q4, .ref q5, .ref pc, .ref q6] = zs at hls shA
      refine ⟨ls, rfl, ⟨_, SqL.of hls⟩, for_list (K := K) (a := ls) (xs := zs) (fun i σ H' => ∃ y2 y3 y5 y8 y9 y10 y11 y12 y13, σ = [some (.ref a), some (.ref d), y2, y3, some (.int m), y5, some (.ref pc), some (.str (t)), y8, y9, y10, y11, y12, y13] ∧ Gr Hj H') ⟨_, _, _, _, _, _, _, _, _, rfl, Gr.refl⟩ (fun i σ H' _ ⟨_, _, _, _, _, _, _, _, _, _, z⟩ => SqL.of (z.lst hls)) ?_ ?_⟩
      · rintro i v σ Hk hv ⟨y2, y3, y5, y8, y9, y10, y11, y12, y13, rfl, gk⟩
        obtain ⟨e, he, sh⟩ := shA.get hv
        have hem := List.mem_of_getElem? he
        have fe := fo e hem
        obtain ⟨tv, ns_⟩ := to_ e hem
        obtain ⟨able, _, _, deep⟩ := fine_iff.mp fe
        have fits := fine_fits fe (by decide)
        refine ⟨v, rfl, v, e, rfl, sh.gr gk, able, fits, by omega, ?_⟩
        refine ⟨.int m, rfl, v, rfl, m, v, e, rfl, m6, sh.gr gk, (fun z k => absurd k (ns_ z)), gk.tabs tabsJ, fun Hl gl => ?_⟩
        rw [tv]
        have gl := gk.trans gl
        refine ⟨true, true, rfl, rfl, false, rfl, iteF ?_⟩
        refine ⟨v, rfl, v, e, rfl, sh.gr gl, able, fits, by omega, .str e.shown, rfl, rfl, false, ?_, iteF ?_⟩
        · rw [decide_eq_true rfl]
          rfl
        exact ⟨_, _, _, _, _, _, _, _, _, rfl, gl⟩
      · rintro σ Hk ⟨y2, y3, y5, y8, y9, y10, y11, y12, y13, rfl, gk⟩
        refine ⟨.int m, rfl, m, .str "", .str "", rfl, m6, .str _, (fun z k => by cases k; exact Nat.zero_le _), gk.tabs tabsJ, fun Hl gl => ?_⟩
        have e : toldV m (.str "") = .bl true := by
          unfold toldV chQ
          dsimp only
          have : chL m (TL.tl "") = none := by
            unfold chL
            rw [if_neg]
            rintro ⟨z, _⟩
            have z : 0 = 2 * m + 4 := z
            omega
          rw [this]
        rw [e]
        exact ⟨true, true, rfl, rfl, q _⟩
end
def d_is_signs : He.DefD := ⟨("is_signs", none), "is_signs", "is_signs", defArgs s_is_signs, defBody s_is_signs, defScope s_is_signs, [], []⟩
def d_show_row : He.DefD := ⟨("show_row", none), "show_row", "show_row", defArgs s_show_row, defBody s_show_row, defScope s_show_row, [], []⟩
def d_show_change : He.DefD := ⟨("show_change", none), "show_change", "show_change", defArgs s_show_change, defBody s_show_change, defScope s_show_change, [], []⟩
def d_read_change : He.DefD := ⟨("read_change", none), "read_change", "read_change", defArgs s_read_change, defBody s_read_change, defScope s_read_change, [], []⟩
def d_read_row : He.DefD := ⟨("read_row", none), "read_row", "read_row", defArgs s_read_row, defBody s_read_row, defScope s_read_row, [], []⟩
def d_deck : He.DefD := ⟨("_law_deck", none), "_law_deck", "_law_deck", defArgs s_deck, defBody s_deck, defScope s_deck, [], []⟩
def d_mixed : He.DefD := ⟨("_law_mixed", none), "_law_mixed", "_law_mixed", defArgs s_mixed, defBody s_mixed, defScope s_mixed, [], []⟩
def d_take : He.DefD := ⟨("_law_take", none), "_law_take", "_law_take", defArgs s_take, defBody s_take, defScope s_take, [], []⟩
def d_kinds : He.DefD := ⟨("_law_kinds", none), "_law_kinds", "_law_kinds", defArgs s_kinds, defBody s_kinds, defScope s_kinds, [], []⟩
def d_refused : He.DefD := ⟨("_law_refused", none), "_law_refused", "_law_refused", defArgs s_refused, defBody s_refused, defScope s_refused, [], []⟩
def d_bent : He.DefD := ⟨("_law_bent", none), "_law_bent", "_law_bent", defArgs s_bent, defBody s_bent, defScope s_bent, [], []⟩
def d_row : He.DefD := ⟨("_law_row", none), "_law_row", "_law_row", defArgs s_row, defBody s_row, defScope s_row, [], []⟩
def d_shown : He.DefD := ⟨("_law_shown", none), "_law_shown", "_law_shown", defArgs s_shown, defBody s_shown, defScope s_shown, [], []⟩
def d_read : He.DefD := ⟨("_law_read", none), "_law_read", "_law_read", defArgs s_read, defBody s_read, defScope s_read, [], []⟩
def d_told : He.DefD := ⟨("_law_told", none), "_law_told", "_law_told", defArgs s_told, defBody s_told, defScope s_told, [], []⟩
def d_right : He.DefD := ⟨("_law_right", none), "_law_right", "_law_right", defArgs s_right, defBody s_right, defScope s_right, [], []⟩
def d_raised : He.DefD := ⟨("_law_raised", none), "_law_raised", "_law_raised", defArgs s_raised, defBody s_raised, defScope s_raised, [], []⟩
def d_law : He.DefD := ⟨("law", none), "law", "law", defArgs s_law, defBody s_law, defScope s_law, [], []⟩
def fn : List He.DefD := [d_is_signs, d_show_row, d_show_change, d_read_change, d_read_row, d_deck, d_mixed, d_take, d_kinds, d_refused, d_bent, d_row, d_shown, d_read, d_told, d_right, d_raised, d_law]
def fa : List He.Fa := [.glo "is_signs", .glo "show_row", .glo "show_change", .glo "read_change", .glo "read_row", .glo "_law_deck", .glo "_law_mixed", .glo "_law_take", .glo "_law_kinds", .glo "_law_refused", .glo "_law_bent", .glo "_law_row", .glo "_law_shown", .glo "_law_read", .glo "_law_told", .glo "_law_right", .glo "_law_raised", .glo "law", .free "ValueError", .free "all", .free "int", .free "isinstance", .free "len", .free "list", .free "range", .free "repr", .free "reversed", .free "str", .free "sum", .free "tuple", .glo "NetError", .glo "NoText", .glo "TooMany", .glo "NotFormula", .glo "NoTurn", .glo "NoForms", .glo "NoRow", .exc "NoText", .exc "TooMany", .exc "NotFormula", .exc "NoTurn", .exc "NoForms", .exc "NoRow"]
def tf : List He.Defn := [("is_signs", none), ("show_row", none), ("read_change", none), ("read_row", none)]
abbrev RR : PySem.W.OpenRow := PySem.W.OpenLaw.row PySem.Challenge.rw_glitchnet_k06_changes_and_refusals
def yes : PySem.W.Frag → Bool := fun K => (GxE.excCB K (He.ga K "NoText") && (decide (PySem.W.kitOne K (.ref (He.ga K "NoText")) (.type "ValueError") = some true) && (decide (PySem.W.kitOne K (.ref (He.ga K "NoText")) (.ref (He.ga K "NetError")) = some true) && (decide (PySem.W.exmOne K (.ref (He.ga K "NoText")) (.ref (He.ga K "NetError")) = some true) && (decide (PySem.W.kitOne K (.ref (He.ga K "NoText")) (.ref (He.ga K "NoText")) = some true) && (decide (PySem.W.exmOne K (.ref (He.ga K "NoText")) (.ref (He.ga K "NoText")) = some true) && (decide (PySem.W.kitOne K (.ref (He.ga K "NoText")) (.ref (He.ga K "TooMany")) = some false) && (decide (PySem.W.exmOne K (.ref (He.ga K "NoText")) (.ref (He.ga K "TooMany")) = some false) && (decide (PySem.W.kitOne K (.ref (He.ga K "NoText")) (.ref (He.ga K "NotFormula")) = some false) && (decide (PySem.W.exmOne K (.ref (He.ga K "NoText")) (.ref (He.ga K "NotFormula")) = some false) && (decide (PySem.W.kitOne K (.ref (He.ga K "NoText")) (.ref (He.ga K "NoTurn")) = some false) && (decide (PySem.W.exmOne K (.ref (He.ga K "NoText")) (.ref (He.ga K "NoTurn")) = some false) && (decide (PySem.W.kitOne K (.ref (He.ga K "NoText")) (.ref (He.ga K "NoForms")) = some false) && (decide (PySem.W.exmOne K (.ref (He.ga K "NoText")) (.ref (He.ga K "NoForms")) = some false) && (decide (PySem.W.kitOne K (.ref (He.ga K "NoText")) (.ref (He.ga K "NoRow")) = some false) && (decide (PySem.W.exmOne K (.ref (He.ga K "NoText")) (.ref (He.ga K "NoRow")) = some false) && (GxE.excCB K (He.ga K "TooMany") && (decide (PySem.W.kitOne K (.ref (He.ga K "TooMany")) (.type "ValueError") = some true) && (decide (PySem.W.kitOne K (.ref (He.ga K "TooMany")) (.ref (He.ga K "NetError")) = some true) && (decide (PySem.W.exmOne K (.ref (He.ga K "TooMany")) (.ref (He.ga K "NetError")) = some true) && (decide (PySem.W.kitOne K (.ref (He.ga K "TooMany")) (.ref (He.ga K "NoText")) = some false) && (decide (PySem.W.exmOne K (.ref (He.ga K "TooMany")) (.ref (He.ga K "NoText")) = some false) && (decide (PySem.W.kitOne K (.ref (He.ga K "TooMany")) (.ref (He.ga K "TooMany")) = some true) && (decide (PySem.W.exmOne K (.ref (He.ga K "TooMany")) (.ref (He.ga K "TooMany")) = some true) && (decide (PySem.W.kitOne K (.ref (He.ga K "TooMany")) (.ref (He.ga K "NotFormula")) = some false) && (decide (PySem.W.exmOne K (.ref (He.ga K "TooMany")) (.ref (He.ga K "NotFormula")) = some false) && (decide (PySem.W.kitOne K (.ref (He.ga K "TooMany")) (.ref (He.ga K "NoTurn")) = some false) && (decide (PySem.W.exmOne K (.ref (He.ga K "TooMany")) (.ref (He.ga K "NoTurn")) = some false) && (decide (PySem.W.kitOne K (.ref (He.ga K "TooMany")) (.ref (He.ga K "NoForms")) = some false) && (decide (PySem.W.exmOne K (.ref (He.ga K "TooMany")) (.ref (He.ga K "NoForms")) = some false) && (decide (PySem.W.kitOne K (.ref (He.ga K "TooMany")) (.ref (He.ga K "NoRow")) = some false) && (decide (PySem.W.exmOne K (.ref (He.ga K "TooMany")) (.ref (He.ga K "NoRow")) = some false) && (GxE.excCB K (He.ga K "NotFormula") && (decide (PySem.W.kitOne K (.ref (He.ga K "NotFormula")) (.type "ValueError") = some true) && (decide (PySem.W.kitOne K (.ref (He.ga K "NotFormula")) (.ref (He.ga K "NetError")) = some true) && (decide (PySem.W.exmOne K (.ref (He.ga K "NotFormula")) (.ref (He.ga K "NetError")) = some true) && (decide (PySem.W.kitOne K (.ref (He.ga K "NotFormula")) (.ref (He.ga K "NoText")) = some false) && (decide (PySem.W.exmOne K (.ref (He.ga K "NotFormula")) (.ref (He.ga K "NoText")) = some false) && (decide (PySem.W.kitOne K (.ref (He.ga K "NotFormula")) (.ref (He.ga K "TooMany")) = some false) && (decide (PySem.W.exmOne K (.ref (He.ga K "NotFormula")) (.ref (He.ga K "TooMany")) = some false) && (decide (PySem.W.kitOne K (.ref (He.ga K "NotFormula")) (.ref (He.ga K "NotFormula")) = some true) && (decide (PySem.W.exmOne K (.ref (He.ga K "NotFormula")) (.ref (He.ga K "NotFormula")) = some true) && (decide (PySem.W.kitOne K (.ref (He.ga K "NotFormula")) (.ref (He.ga K "NoTurn")) = some false) && (decide (PySem.W.exmOne K (.ref (He.ga K "NotFormula")) (.ref (He.ga K "NoTurn")) = some false) && (decide (PySem.W.kitOne K (.ref (He.ga K "NotFormula")) (.ref (He.ga K "NoForms")) = some false) && (decide (PySem.W.exmOne K (.ref (He.ga K "NotFormula")) (.ref (He.ga K "NoForms")) = some false) && (decide (PySem.W.kitOne K (.ref (He.ga K "NotFormula")) (.ref (He.ga K "NoRow")) = some false) && (decide (PySem.W.exmOne K (.ref (He.ga K "NotFormula")) (.ref (He.ga K "NoRow")) = some false) && (GxE.excCB K (He.ga K "NoTurn") && (decide (PySem.W.kitOne K (.ref (He.ga K "NoTurn")) (.type "ValueError") = some true) && (decide (PySem.W.kitOne K (.ref (He.ga K "NoTurn")) (.ref (He.ga K "NetError")) = some true) && (decide (PySem.W.exmOne K (.ref (He.ga K "NoTurn")) (.ref (He.ga K "NetError")) = some true) && (decide (PySem.W.kitOne K (.ref (He.ga K "NoTurn")) (.ref (He.ga K "NoText")) = some false) && (decide (PySem.W.exmOne K (.ref (He.ga K "NoTurn")) (.ref (He.ga K "NoText")) = some false) && (decide (PySem.W.kitOne K (.ref (He.ga K "NoTurn")) (.ref (He.ga K "TooMany")) = some false) && (decide (PySem.W.exmOne K (.ref (He.ga K "NoTurn")) (.ref (He.ga K "TooMany")) = some false) && (decide (PySem.W.kitOne K (.ref (He.ga K "NoTurn")) (.ref (He.ga K "NotFormula")) = some false) && (decide (PySem.W.exmOne K (.ref (He.ga K "NoTurn")) (.ref (He.ga K "NotFormula")) = some false) && (decide (PySem.W.kitOne K (.ref (He.ga K "NoTurn")) (.ref (He.ga K "NoTurn")) = some true) && (decide (PySem.W.exmOne K (.ref (He.ga K "NoTurn")) (.ref (He.ga K "NoTurn")) = some true) && (decide (PySem.W.kitOne K (.ref (He.ga K "NoTurn")) (.ref (He.ga K "NoForms")) = some false) && (decide (PySem.W.exmOne K (.ref (He.ga K "NoTurn")) (.ref (He.ga K "NoForms")) = some false) && (decide (PySem.W.kitOne K (.ref (He.ga K "NoTurn")) (.ref (He.ga K "NoRow")) = some false) && (decide (PySem.W.exmOne K (.ref (He.ga K "NoTurn")) (.ref (He.ga K "NoRow")) = some false) && (GxE.excCB K (He.ga K "NoForms") && (decide (PySem.W.kitOne K (.ref (He.ga K "NoForms")) (.type "ValueError") = some true) && (decide (PySem.W.kitOne K (.ref (He.ga K "NoForms")) (.ref (He.ga K "NetError")) = some true) && (decide (PySem.W.exmOne K (.ref (He.ga K "NoForms")) (.ref (He.ga K "NetError")) = some true) && (decide (PySem.W.kitOne K (.ref (He.ga K "NoForms")) (.ref (He.ga K "NoText")) = some false) && (decide (PySem.W.exmOne K (.ref (He.ga K "NoForms")) (.ref (He.ga K "NoText")) = some false) && (decide (PySem.W.kitOne K (.ref (He.ga K "NoForms")) (.ref (He.ga K "TooMany")) = some false) && (decide (PySem.W.exmOne K (.ref (He.ga K "NoForms")) (.ref (He.ga K "TooMany")) = some false) && (decide (PySem.W.kitOne K (.ref (He.ga K "NoForms")) (.ref (He.ga K "NotFormula")) = some false) && (decide (PySem.W.exmOne K (.ref (He.ga K "NoForms")) (.ref (He.ga K "NotFormula")) = some false) && (decide (PySem.W.kitOne K (.ref (He.ga K "NoForms")) (.ref (He.ga K "NoTurn")) = some false) && (decide (PySem.W.exmOne K (.ref (He.ga K "NoForms")) (.ref (He.ga K "NoTurn")) = some false) && (decide (PySem.W.kitOne K (.ref (He.ga K "NoForms")) (.ref (He.ga K "NoForms")) = some true) && (decide (PySem.W.exmOne K (.ref (He.ga K "NoForms")) (.ref (He.ga K "NoForms")) = some true) && (decide (PySem.W.kitOne K (.ref (He.ga K "NoForms")) (.ref (He.ga K "NoRow")) = some false) && (decide (PySem.W.exmOne K (.ref (He.ga K "NoForms")) (.ref (He.ga K "NoRow")) = some false) && (GxE.excCB K (He.ga K "NoRow") && (decide (PySem.W.kitOne K (.ref (He.ga K "NoRow")) (.type "ValueError") = some true) && (decide (PySem.W.kitOne K (.ref (He.ga K "NoRow")) (.ref (He.ga K "NetError")) = some true) && (decide (PySem.W.exmOne K (.ref (He.ga K "NoRow")) (.ref (He.ga K "NetError")) = some true) && (decide (PySem.W.kitOne K (.ref (He.ga K "NoRow")) (.ref (He.ga K "NoText")) = some false) && (decide (PySem.W.exmOne K (.ref (He.ga K "NoRow")) (.ref (He.ga K "NoText")) = some false) && (decide (PySem.W.kitOne K (.ref (He.ga K "NoRow")) (.ref (He.ga K "TooMany")) = some false) && (decide (PySem.W.exmOne K (.ref (He.ga K "NoRow")) (.ref (He.ga K "TooMany")) = some false) && (decide (PySem.W.kitOne K (.ref (He.ga K "NoRow")) (.ref (He.ga K "NotFormula")) = some false) && (decide (PySem.W.exmOne K (.ref (He.ga K "NoRow")) (.ref (He.ga K "NotFormula")) = some false) && (decide (PySem.W.kitOne K (.ref (He.ga K "NoRow")) (.ref (He.ga K "NoTurn")) = some false) && (decide (PySem.W.exmOne K (.ref (He.ga K "NoRow")) (.ref (He.ga K "NoTurn")) = some false) && (decide (PySem.W.kitOne K (.ref (He.ga K "NoRow")) (.ref (He.ga K "NoForms")) = some false) && (decide (PySem.W.exmOne K (.ref (He.ga K "NoRow")) (.ref (He.ga K "NoForms")) = some false) && (decide (PySem.W.kitOne K (.ref (He.ga K "NoRow")) (.ref (He.ga K "NoRow")) = some true) && (decide (PySem.W.exmOne K (.ref (He.ga K "NoRow")) (.ref (He.ga K "NoRow")) = some true) && true))))))))))))))))))))))))))))))))))))))))))))))))))))))))))))))))))))))))))))))))))))))))))))))))
abbrev hk : PySem.W.Hook := He.hookX 4 fa fn [] tf yes
def ob (s : PySem.W.SharedT) : He.AlX := He.obsX 4 fa fn [] tf yes (HandSHeadRun.getT s)
theorem ob_eq (s : PySem.W.SharedT) : ob s = hk.obs s.abs := He.obsX_eq (HandSHeadRun.getT_eq s)
theorem run (w : World) : HandSHeadRun.RunEq RR (PySem.W.view RR.prog [28]) hk ob 3000 [("NetError" : PySem.Str), ("NoText" : PySem.Str), ("TooMany" : PySem.Str), ("NotFormula" : PySem.Str), ("NoTurn" : PySem.Str), ("NoForms" : PySem.Str), ("NoRow" : PySem.Str), ("is_signs" : PySem.Str), ("show_row" : PySem.Str), ("show_change" : PySem.Str), ("read_change" : PySem.Str), ("read_row" : PySem.Str), ("_law_deck" : PySem.Str), ("_law_mixed" : PySem.Str), ("_law_take" : PySem.Str), ("_law_kinds" : PySem.Str), ("_law_refused" : PySem.Str), ("_law_bent" : PySem.Str), ("_law_row" : PySem.Str), ("_law_shown" : PySem.Str), ("_law_read" : PySem.Str), ("_law_told" : PySem.Str), ("_law_right" : PySem.Str), ("_law_raised" : PySem.Str)] w := by
  intro os
  kernel_rfl
theorem facts {w : World} {K : PySem.W.Frag} {h : Heap} {mg : Str → Option Value} {f : Addr} (X : K.In h) (G : h.Ns mainGlobals mg) (hfa : mg ("law" : Str) = some (.ref f)) (c : He.SaysX fa fn [] tf yes w h K) : LawAtG PySem.Challenge.rw_glitchnet_k06_changes_and_refusals w K CX0 7 63 "_law_script" mg f h := by
  obtain ⟨fd0, D0⟩ := c.t.d.def_ 0 (d := d_is_signs) rfl
  have F0 : Fun K "is_signs" "is_signs" s_is_signs (He.fAd K ("is_signs", none)) fd0 := fun_of D0
  have b0 := F0.binds (ps := ["many", "thing"]) fun _ _ _ _ _ _ us hl => match us, hl with | [_, _], _ => rfl
  obtain ⟨fd1, D1⟩ := c.t.d.def_ 1 (d := d_show_row) rfl
  have F1 : Fun K "show_row" "show_row" s_show_row (He.fAd K ("show_row", none)) fd1 := fun_of D1
  have b1 := F1.binds (ps := ["row"]) fun _ _ _ _ _ _ us hl => match us, hl with | [_], _ => rfl
  obtain ⟨fd2, D2⟩ := c.t.d.def_ 2 (d := d_show_change) rfl
  have F2 : Fun K "show_change" "show_change" s_show_change (He.fAd K ("show_change", none)) fd2 := fun_of D2
  have b2 := F2.binds (ps := ["change"]) fun _ _ _ _ _ _ us hl => match us, hl with | [_], _ => rfl
  obtain ⟨fd3, D3⟩ := c.t.d.def_ 3 (d := d_read_change) rfl
  have F3 : Fun K "read_change" "read_change" s_read_change (He.fAd K ("read_change", none)) fd3 := fun_of D3
  have b3 := F3.binds (ps := ["many", "text"]) fun _ _ _ _ _ _ us hl => match us, hl with | [_, _], _ => rfl
  obtain ⟨fd4, D4⟩ := c.t.d.def_ 4 (d := d_read_row) rfl
  have F4 : Fun K "read_row" "read_row" s_read_row (He.fAd K ("read_row", none)) fd4 := fun_of D4
  have b4 := F4.binds (ps := ["signs"]) fun _ _ _ _ _ _ us hl => match us, hl with | [_], _ => rfl
  obtain ⟨fd5, D5⟩ := c.t.d.def_ 5 (d := d_deck) rfl
  have F5 : Fun K "_law_deck" "_law_deck" s_deck (He.fAd K ("_law_deck", none)) fd5 := fun_of D5
  have b5 := F5.binds (ps := ["_law_script"]) fun _ _ _ _ _ _ us hl => match us, hl with | [_], _ => rfl
  obtain ⟨fd6, D6⟩ := c.t.d.def_ 6 (d := d_mixed) rfl
  have F6 : Fun K "_law_mixed" "_law_mixed" s_mixed (He.fAd K ("_law_mixed", none)) fd6 := fun_of D6
  have b6 := F6.binds (ps := ["_law_cell", "_law_k"]) fun _ _ _ _ _ _ us hl => match us, hl with | [_, _], _ => rfl
  obtain ⟨fd7, D7⟩ := c.t.d.def_ 7 (d := d_take) rfl
  have F7 : Fun K "_law_take" "_law_take" s_take (He.fAd K ("_law_take", none)) fd7 := fun_of D7
  have b7 := F7.binds (ps := ["_law_deck_here", "_law_most"]) fun _ _ _ _ _ _ us hl => match us, hl with | [_, _], _ => rfl
  obtain ⟨fd8, D8⟩ := c.t.d.def_ 8 (d := d_kinds) rfl
  have F8 : Fun K "_law_kinds" "_law_kinds" s_kinds (He.fAd K ("_law_kinds", none)) fd8 := fun_of D8
  have b8 := F8.binds (ps := ["_law_error"]) fun _ _ _ _ _ _ us hl => match us, hl with | [_], _ => rfl
  obtain ⟨fd9, D9⟩ := c.t.d.def_ 9 (d := d_refused) rfl
  have F9 : Fun K "_law_refused" "_law_refused" s_refused (He.fAd K ("_law_refused", none)) fd9 := fun_of D9
  have b9 := F9.binds (ps := ["_law_error"]) fun _ _ _ _ _ _ us hl => match us, hl with | [_], _ => rfl
  obtain ⟨fd10, D10⟩ := c.t.d.def_ 10 (d := d_bent) rfl
  have F10 : Fun K "_law_bent" "_law_bent" s_bent (He.fAd K ("_law_bent", none)) fd10 := fun_of D10
  have b10 := F10.binds (ps := ["_law_deck_here", "_law_text"]) fun _ _ _ _ _ _ us hl => match us, hl with | [_, _], _ => rfl
  obtain ⟨fd11, D11⟩ := c.t.d.def_ 11 (d := d_row) rfl
  have F11 : Fun K "_law_row" "_law_row" s_row (He.fAd K ("_law_row", none)) fd11 := fun_of D11
  have b11 := F11.binds (ps := ["_law_deck_here", "_law_many"]) fun _ _ _ _ _ _ us hl => match us, hl with | [_, _], _ => rfl
  obtain ⟨fd12, D12⟩ := c.t.d.def_ 12 (d := d_shown) rfl
  have F12 : Fun K "_law_shown" "_law_shown" s_shown (He.fAd K ("_law_shown", none)) fd12 := fun_of D12
  have b12 := F12.binds (ps := ["_law_change"]) fun _ _ _ _ _ _ us hl => match us, hl with | [_], _ => rfl
  obtain ⟨fd13, D13⟩ := c.t.d.def_ 13 (d := d_read) rfl
  have F13 : Fun K "_law_read" "_law_read" s_read (He.fAd K ("_law_read", none)) fd13 := fun_of D13
  have b13 := F13.binds (ps := ["_law_many", "_law_text"]) fun _ _ _ _ _ _ us hl => match us, hl with | [_, _], _ => rfl
  obtain ⟨fd14, D14⟩ := c.t.d.def_ 14 (d := d_told) rfl
  have F14 : Fun K "_law_told" "_law_told" s_told (He.fAd K ("_law_told", none)) fd14 := fun_of D14
  have b14 := F14.binds (ps := ["_law_many", "_law_thing"]) fun _ _ _ _ _ _ us hl => match us, hl with | [_, _], _ => rfl
  obtain ⟨fd15, D15⟩ := c.t.d.def_ 15 (d := d_right) rfl
  have F15 : Fun K "_law_right" "_law_right" s_right (He.fAd K ("_law_right", none)) fd15 := fun_of D15
  have b15 := F15.binds (ps := ["_law_many", "_law_text"]) fun _ _ _ _ _ _ us hl => match us, hl with | [_, _], _ => rfl
  obtain ⟨fd16, D16⟩ := c.t.d.def_ 16 (d := d_raised) rfl
  have F16 : Fun K "_law_raised" "_law_raised" s_raised (He.fAd K ("_law_raised", none)) fd16 := fun_of D16
  have b16 := F16.binds (ps := ["_law_k", "_law_text"]) fun _ _ _ _ _ _ us hl => match us, hl with | [_, _], _ => rfl
  obtain ⟨fd17, D17⟩ := c.t.d.def_ 17 (d := d_law) rfl
  have F17 : Fun K "law" "law" s_law (He.fAd K ("law", none)) fd17 := fun_of D17
  have b17 := F17.binds (ps := ["_law_script"]) fun _ _ _ _ _ _ us hl => match us, hl with | [_], _ => rfl
  obtain ⟨q_NoText, kC_NoText, su_NoText, ty_NoText⟩ := He.exc_ok (c.t.d.fact 37 (f := .exc "NoText") rfl)
  obtain ⟨q_TooMany, kC_TooMany, su_TooMany, ty_TooMany⟩ := He.exc_ok (c.t.d.fact 38 (f := .exc "TooMany") rfl)
  obtain ⟨q_NotFormula, kC_NotFormula, su_NotFormula, ty_NotFormula⟩ := He.exc_ok (c.t.d.fact 39 (f := .exc "NotFormula") rfl)
  obtain ⟨q_NoTurn, kC_NoTurn, su_NoTurn, ty_NoTurn⟩ := He.exc_ok (c.t.d.fact 40 (f := .exc "NoTurn") rfl)
  obtain ⟨q_NoForms, kC_NoForms, su_NoForms, ty_NoForms⟩ := He.exc_ok (c.t.d.fact 41 (f := .exc "NoForms") rfl)
  obtain ⟨q_NoRow, kC_NoRow, su_NoRow, ty_NoRow⟩ := He.exc_ok (c.t.d.fact 42 (f := .exc "NoRow") rfl)
  have mo := c.more
  obtain ⟨y0, mo⟩ := He.ba mo
  obtain ⟨y1, mo⟩ := He.ba mo
  obtain ⟨y2, mo⟩ := He.ba mo
  obtain ⟨y3, mo⟩ := He.ba mo
  obtain ⟨y4, mo⟩ := He.ba mo
  obtain ⟨y5, mo⟩ := He.ba mo
  obtain ⟨y6, mo⟩ := He.ba mo
  obtain ⟨y7, mo⟩ := He.ba mo
  obtain ⟨y8, mo⟩ := He.ba mo
  obtain ⟨y9, mo⟩ := He.ba mo
  obtain ⟨y10, mo⟩ := He.ba mo
  obtain ⟨y11, mo⟩ := He.ba mo
  obtain ⟨y12, mo⟩ := He.ba mo
  obtain ⟨y13, mo⟩ := He.ba mo
  obtain ⟨y14, mo⟩ := He.ba mo
  obtain ⟨y15, mo⟩ := He.ba mo
  obtain ⟨y16, mo⟩ := He.ba mo
  obtain ⟨y17, mo⟩ := He.ba mo
  obtain ⟨y18, mo⟩ := He.ba mo
  obtain ⟨y19, mo⟩ := He.ba mo
  obtain ⟨y20, mo⟩ := He.ba mo
  obtain ⟨y21, mo⟩ := He.ba mo
  obtain ⟨y22, mo⟩ := He.ba mo
  obtain ⟨y23, mo⟩ := He.ba mo
  obtain ⟨y24, mo⟩ := He.ba mo
  obtain ⟨y25, mo⟩ := He.ba mo
  obtain ⟨y26, mo⟩ := He.ba mo
  obtain ⟨y27, mo⟩ := He.ba mo
  obtain ⟨y28, mo⟩ := He.ba mo
  obtain ⟨y29, mo⟩ := He.ba mo
  obtain ⟨y30, mo⟩ := He.ba mo
  obtain ⟨y31, mo⟩ := He.ba mo
  obtain ⟨y32, mo⟩ := He.ba mo
  obtain ⟨y33, mo⟩ := He.ba mo
  obtain ⟨y34, mo⟩ := He.ba mo
  obtain ⟨y35, mo⟩ := He.ba mo
  obtain ⟨y36, mo⟩ := He.ba mo
  obtain ⟨y37, mo⟩ := He.ba mo
  obtain ⟨y38, mo⟩ := He.ba mo
  obtain ⟨y39, mo⟩ := He.ba mo
  obtain ⟨y40, mo⟩ := He.ba mo
  obtain ⟨y41, mo⟩ := He.ba mo
  obtain ⟨y42, mo⟩ := He.ba mo
  obtain ⟨y43, mo⟩ := He.ba mo
  obtain ⟨y44, mo⟩ := He.ba mo
  obtain ⟨y45, mo⟩ := He.ba mo
  obtain ⟨y46, mo⟩ := He.ba mo
  obtain ⟨y47, mo⟩ := He.ba mo
  obtain ⟨y48, mo⟩ := He.ba mo
  obtain ⟨y49, mo⟩ := He.ba mo
  obtain ⟨y50, mo⟩ := He.ba mo
  obtain ⟨y51, mo⟩ := He.ba mo
  obtain ⟨y52, mo⟩ := He.ba mo
  obtain ⟨y53, mo⟩ := He.ba mo
  obtain ⟨y54, mo⟩ := He.ba mo
  obtain ⟨y55, mo⟩ := He.ba mo
  obtain ⟨y56, mo⟩ := He.ba mo
  obtain ⟨y57, mo⟩ := He.ba mo
  obtain ⟨y58, mo⟩ := He.ba mo
  obtain ⟨y59, mo⟩ := He.ba mo
  obtain ⟨y60, mo⟩ := He.ba mo
  obtain ⟨y61, mo⟩ := He.ba mo
  obtain ⟨y62, mo⟩ := He.ba mo
  obtain ⟨y63, mo⟩ := He.ba mo
  obtain ⟨y64, mo⟩ := He.ba mo
  obtain ⟨y65, mo⟩ := He.ba mo
  obtain ⟨y66, mo⟩ := He.ba mo
  obtain ⟨y67, mo⟩ := He.ba mo
  obtain ⟨y68, mo⟩ := He.ba mo
  obtain ⟨y69, mo⟩ := He.ba mo
  obtain ⟨y70, mo⟩ := He.ba mo
  obtain ⟨y71, mo⟩ := He.ba mo
  obtain ⟨y72, mo⟩ := He.ba mo
  obtain ⟨y73, mo⟩ := He.ba mo
  obtain ⟨y74, mo⟩ := He.ba mo
  obtain ⟨y75, mo⟩ := He.ba mo
  obtain ⟨y76, mo⟩ := He.ba mo
  obtain ⟨y77, mo⟩ := He.ba mo
  obtain ⟨y78, mo⟩ := He.ba mo
  obtain ⟨y79, mo⟩ := He.ba mo
  obtain ⟨y80, mo⟩ := He.ba mo
  obtain ⟨y81, mo⟩ := He.ba mo
  obtain ⟨y82, mo⟩ := He.ba mo
  obtain ⟨y83, mo⟩ := He.ba mo
  obtain ⟨y84, mo⟩ := He.ba mo
  obtain ⟨y85, mo⟩ := He.ba mo
  obtain ⟨y86, mo⟩ := He.ba mo
  obtain ⟨y87, mo⟩ := He.ba mo
  obtain ⟨y88, mo⟩ := He.ba mo
  obtain ⟨y89, mo⟩ := He.ba mo
  obtain ⟨y90, mo⟩ := He.ba mo
  obtain ⟨y91, mo⟩ := He.ba mo
  obtain ⟨y92, mo⟩ := He.ba mo
  obtain ⟨y93, mo⟩ := He.ba mo
  obtain ⟨y94, mo⟩ := He.ba mo
  obtain ⟨y95, mo⟩ := He.ba mo
  have e := hfa.symm.trans (He.glo_ok X G (c.t.d.fact 17 (f := .glo "law") rfl))
  cases e
  let T : Tx K mg := { f_is_signs := _, fd_is_signs := _, F_is_signs := F0, g_is_signs := He.glo_ok X G (c.t.d.fact 0 (f := .glo "is_signs") rfl), b_is_signs := b0, c_is_signs := (He.cT K ("is_signs", none)).1, P_is_signs := (He.cT K ("is_signs", none)).2, cd_is_signs := code_of F0, f_show_row := _, fd_show_row := _, F_show_row := F1, g_show_row := He.glo_ok X G (c.t.d.fact 1 (f := .glo "show_row") rfl), b_show_row := b1, c_show_row := (He.cT K ("show_row", none)).1, P_show_row := (He.cT K ("show_row", none)).2, cd_show_row := code_of F1, f_show_change := _, fd_show_change := _, F_show_change := F2, g_show_change := He.glo_ok X G (c.t.d.fact 2 (f := .glo "show_change") rfl), b_show_change := b2, f_read_change := _, fd_read_change := _, F_read_change := F3, g_read_change := He.glo_ok X G (c.t.d.fact 3 (f := .glo "read_change") rfl), b_read_change := b3, c_read_change := (He.cT K ("read_change", none)).1, P_read_change := (He.cT K ("read_change", none)).2, cd_read_change := code_of F3, f_read_row := _, fd_read_row := _, F_read_row := F4, g_read_row := He.glo_ok X G (c.t.d.fact 4 (f := .glo "read_row") rfl), b_read_row := b4, c_read_row := (He.cT K ("read_row", none)).1, P_read_row := (He.cT K ("read_row", none)).2, cd_read_row := code_of F4, f_deck := _, fd_deck := _, F_deck := F5, g_deck := He.glo_ok X G (c.t.d.fact 5 (f := .glo "_law_deck") rfl), b_deck := b5, f_mixed := _, fd_mixed := _, F_mixed := F6, g_mixed := He.glo_ok X G (c.t.d.fact 6 (f := .glo "_law_mixed") rfl), b_mixed := b6, f_take := _, fd_take := _, F_take := F7, g_take := He.glo_ok X G (c.t.d.fact 7 (f := .glo "_law_take") rfl), b_take := b7, f_kinds := _, fd_kinds := _, F_kinds := F8, g_kinds := He.glo_ok X G (c.t.d.fact 8 (f := .glo "_law_kinds") rfl), b_kinds := b8, f_refused := _, fd_refused := _, F_refused := F9, g_refused := He.glo_ok X G (c.t.d.fact 9 (f := .glo "_law_refused") rfl), b_refused := b9, f_bent := _, fd_bent := _, F_bent := F10, g_bent := He.glo_ok X G (c.t.d.fact 10 (f := .glo "_law_bent") rfl), b_bent := b10, f_row := _, fd_row := _, F_row := F11, g_row := He.glo_ok X G (c.t.d.fact 11 (f := .glo "_law_row") rfl), b_row := b11, f_shown := _, fd_shown := _, F_shown := F12, g_shown := He.glo_ok X G (c.t.d.fact 12 (f := .glo "_law_shown") rfl), b_shown := b12, f_read := _, fd_read := _, F_read := F13, g_read := He.glo_ok X G (c.t.d.fact 13 (f := .glo "_law_read") rfl), b_read := b13, f_told := _, fd_told := _, F_told := F14, g_told := He.glo_ok X G (c.t.d.fact 14 (f := .glo "_law_told") rfl), b_told := b14, f_right := _, fd_right := _, F_right := F15, g_right := He.glo_ok X G (c.t.d.fact 15 (f := .glo "_law_right") rfl), b_right := b15, f_raised := _, fd_raised := _, F_raised := F16, g_raised := He.glo_ok X G (c.t.d.fact 16 (f := .glo "_law_raised") rfl), b_raised := b16, f_law := _, fd_law := _, F_law := F17, g_law := He.glo_ok X G (c.t.d.fact 17 (f := .glo "law") rfl), b_law := b17, m_ValueError := He.free_ok X G (c.t.d.fact 18 (f := .free "ValueError") rfl), m_all := He.free_ok X G (c.t.d.fact 19 (f := .free "all") rfl), m_int := He.free_ok X G (c.t.d.fact 20 (f := .free "int") rfl), m_isinstance := He.free_ok X G (c.t.d.fact 21 (f := .free "isinstance") rfl), m_len := He.free_ok X G (c.t.d.fact 22 (f := .free "len") rfl), m_list := He.free_ok X G (c.t.d.fact 23 (f := .free "list") rfl), m_range := He.free_ok X G (c.t.d.fact 24 (f := .free "range") rfl), m_repr := He.free_ok X G (c.t.d.fact 25 (f := .free "repr") rfl), m_reversed := He.free_ok X G (c.t.d.fact 26 (f := .free "reversed") rfl), m_str := He.free_ok X G (c.t.d.fact 27 (f := .free "str") rfl), m_sum := He.free_ok X G (c.t.d.fact 28 (f := .free "sum") rfl), m_tuple := He.free_ok X G (c.t.d.fact 29 (f := .free "tuple") rfl), C_NetError := _, gC_NetError := He.glo_ok X G (c.t.d.fact 30 (f := .glo "NetError") rfl), C_NoText := _, gC_NoText := He.glo_ok X G (c.t.d.fact 31 (f := .glo "NoText") rfl), C_TooMany := _, gC_TooMany := He.glo_ok X G (c.t.d.fact 32 (f := .glo "TooMany") rfl), C_NotFormula := _, gC_NotFormula := He.glo_ok X G (c.t.d.fact 33 (f := .glo "NotFormula") rfl), C_NoTurn := _, gC_NoTurn := He.glo_ok X G (c.t.d.fact 34 (f := .glo "NoTurn") rfl), C_NoForms := _, gC_NoForms := He.glo_ok X G (c.t.d.fact 35 (f := .glo "NoForms") rfl), C_NoRow := _, gC_NoRow := He.glo_ok X G (c.t.d.fact 36 (f := .glo "NoRow") rfl), q_NoText := q_NoText, kC_NoText := kC_NoText, su_NoText := su_NoText, ty_NoText := ty_NoText, q_TooMany := q_TooMany, kC_TooMany := kC_TooMany, su_TooMany := su_TooMany, ty_TooMany := ty_TooMany, q_NotFormula := q_NotFormula, kC_NotFormula := kC_NotFormula, su_NotFormula := su_NotFormula, ty_NotFormula := ty_NotFormula, q_NoTurn := q_NoTurn, kC_NoTurn := kC_NoTurn, su_NoTurn := su_NoTurn, ty_NoTurn := ty_NoTurn, q_NoForms := q_NoForms, kC_NoForms := kC_NoForms, su_NoForms := su_NoForms, ty_NoForms := ty_NoForms, q_NoRow := q_NoRow, kC_NoRow := kC_NoRow, su_NoRow := su_NoRow, ty_NoRow := ty_NoRow, X_NoText := GxE.excC_ok y0, v_NoText := of_decide_eq_true y1, t_NoText_NetError := of_decide_eq_true y2, x_NoText_NetError := of_decide_eq_true y3, t_NoText_NoText := of_decide_eq_true y4, x_NoText_NoText := of_decide_eq_true y5, t_NoText_TooMany := of_decide_eq_true y6, x_NoText_TooMany := of_decide_eq_true y7, t_NoText_NotFormula := of_decide_eq_true y8, x_NoText_NotFormula := of_decide_eq_true y9, t_NoText_NoTurn := of_decide_eq_true y10, x_NoText_NoTurn := of_decide_eq_true y11, t_NoText_NoForms := of_decide_eq_true y12, x_NoText_NoForms := of_decide_eq_true y13, t_NoText_NoRow := of_decide_eq_true y14, x_NoText_NoRow := of_decide_eq_true y15, X_TooMany := GxE.excC_ok y16, v_TooMany := of_decide_eq_true y17, t_TooMany_NetError := of_decide_eq_true y18, x_TooMany_NetError := of_decide_eq_true y19, t_TooMany_NoText := of_decide_eq_true y20, x_TooMany_NoText := of_decide_eq_true y21, t_TooMany_TooMany := of_decide_eq_true y22, x_TooMany_TooMany := of_decide_eq_true y23, t_TooMany_NotFormula := of_decide_eq_true y24, x_TooMany_NotFormula := of_decide_eq_true y25, t_TooMany_NoTurn := of_decide_eq_true y26, x_TooMany_NoTurn := of_decide_eq_true y27, t_TooMany_NoForms := of_decide_eq_true y28, x_TooMany_NoForms := of_decide_eq_true y29, t_TooMany_NoRow := of_decide_eq_true y30, x_TooMany_NoRow := of_decide_eq_true y31, X_NotFormula := GxE.excC_ok y32, v_NotFormula := of_decide_eq_true y33, t_NotFormula_NetError := of_decide_eq_true y34, x_NotFormula_NetError := of_decide_eq_true y35, t_NotFormula_NoText := of_decide_eq_true y36, x_NotFormula_NoText := of_decide_eq_true y37, t_NotFormula_TooMany := of_decide_eq_true y38, x_NotFormula_TooMany := of_decide_eq_true y39, t_NotFormula_NotFormula := of_decide_eq_true y40, x_NotFormula_NotFormula := of_decide_eq_true y41, t_NotFormula_NoTurn := of_decide_eq_true y42, x_NotFormula_NoTurn := of_decide_eq_true y43, t_NotFormula_NoForms := of_decide_eq_true y44, x_NotFormula_NoForms := of_decide_eq_true y45, t_NotFormula_NoRow := of_decide_eq_true y46, x_NotFormula_NoRow := of_decide_eq_true y47, X_NoTurn := GxE.excC_ok y48, v_NoTurn := of_decide_eq_true y49, t_NoTurn_NetError := of_decide_eq_true y50, x_NoTurn_NetError := of_decide_eq_true y51, t_NoTurn_NoText := of_decide_eq_true y52, x_NoTurn_NoText := of_decide_eq_true y53, t_NoTurn_TooMany := of_decide_eq_true y54, x_NoTurn_TooMany := of_decide_eq_true y55, t_NoTurn_NotFormula := of_decide_eq_true y56, x_NoTurn_NotFormula := of_decide_eq_true y57, t_NoTurn_NoTurn := of_decide_eq_true y58, x_NoTurn_NoTurn := of_decide_eq_true y59, t_NoTurn_NoForms := of_decide_eq_true y60, x_NoTurn_NoForms := of_decide_eq_true y61, t_NoTurn_NoRow := of_decide_eq_true y62, x_NoTurn_NoRow := of_decide_eq_true y63, X_NoForms := GxE.excC_ok y64, v_NoForms := of_decide_eq_true y65, t_NoForms_NetError := of_decide_eq_true y66, x_NoForms_NetError := of_decide_eq_true y67, t_NoForms_NoText := of_decide_eq_true y68, x_NoForms_NoText := of_decide_eq_true y69, t_NoForms_TooMany := of_decide_eq_true y70, x_NoForms_TooMany := of_decide_eq_true y71, t_NoForms_NotFormula := of_decide_eq_true y72, x_NoForms_NotFormula := of_decide_eq_true y73, t_NoForms_NoTurn := of_decide_eq_true y74, x_NoForms_NoTurn := of_decide_eq_true y75, t_NoForms_NoForms := of_decide_eq_true y76, x_NoForms_NoForms := of_decide_eq_true y77, t_NoForms_NoRow := of_decide_eq_true y78, x_NoForms_NoRow := of_decide_eq_true y79, X_NoRow := GxE.excC_ok y80, v_NoRow := of_decide_eq_true y81, t_NoRow_NetError := of_decide_eq_true y82, x_NoRow_NetError := of_decide_eq_true y83, t_NoRow_NoText := of_decide_eq_true y84, x_NoRow_NoText := of_decide_eq_true y85, t_NoRow_TooMany := of_decide_eq_true y86, x_NoRow_TooMany := of_decide_eq_true y87, t_NoRow_NotFormula := of_decide_eq_true y88, x_NoRow_NotFormula := of_decide_eq_true y89, t_NoRow_NoTurn := of_decide_eq_true y90, x_NoRow_NoTurn := of_decide_eq_true y91, t_NoRow_NoForms := of_decide_eq_true y92, x_NoRow_NoForms := of_decide_eq_true y93, t_NoRow_NoRow := of_decide_eq_true y94, x_NoRow_NoRow := of_decide_eq_true y95 }
  refine ⟨fd17, tf.map (He.cT K), sp_law K T.tabs, ?_, ?_, ?_, ?_, ?_, ?_⟩
  · rintro p hp
    obtain ⟨d, hd, rfl⟩ := List.mem_map.mp hp
    exact c.empty d hd
  · rintro p hp
    obtain ⟨d, hd, rfl⟩ := List.mem_map.mp hp
    exact c.out d hd
  · rintro p hp
    obtain ⟨d, hd, rfl⟩ := List.mem_map.mp hp
    exact PySem.W.codeHd_of_K X (c.hd d hd)
  · obtain ⟨oc, od, kV, doc, pm, an, cdv, ct, osl, rfl, lk, hcd⟩ := F17.ex
    exact fun s v => .of_eq rfl
  · intro H a ns hl hbits hT hS
    refine ⟨a, ns, rfl, hS, hl, fun P hP => ?_, fun _ => rfl⟩
    have hP : P ∈ (tf.map (He.cT K)).map (·.2) := hP
    obtain ⟨p, hp, rfl⟩ := List.mem_map.mp hP
    exact ⟨#[], hT p hp, by trivial⟩
  · intro base KB GB hTB
    have B : Tb base T := ⟨tab_of (hTB (He.cT K ("is_signs", none)) (List.mem_map.mpr ⟨_, (show (("is_signs", none) : He.Defn) ∈ tf by decide), rfl⟩)), tab_of (hTB (He.cT K ("show_row", none)) (List.mem_map.mpr ⟨_, (show (("show_row", none) : He.Defn) ∈ tf by decide), rfl⟩)), tab_of (hTB (He.cT K ("read_change", none)) (List.mem_map.mpr ⟨_, (show (("read_change", none) : He.Defn) ∈ tf by decide), rfl⟩)), tab_of (hTB (He.cT K ("read_row", none)) (List.mem_map.mpr ⟨_, (show (("read_row", none) : He.Defn) ∈ tf by decide), rfl⟩))⟩
    exact ok_law T B
end Gk
open PySem PySem.W PyProof.Rows
set_option maxRecDepth 100000 in
set_option maxHeartbeats 0 in
theorem PySem.Challenge.cw_glitchnet_k06_changes_and_refusals_holds : PySem.Challenge.rw_glitchnet_k06_changes_and_refusals.Holds := by
  w_on; o_law
  refine HandSHeadRun.head_any (r := OpenLaw.row PySem.Challenge.rw_glitchnet_k06_changes_and_refusals) (q := view (OpenLaw.row PySem.Challenge.rw_glitchnet_k06_changes_and_refusals).prog [28]) (H := Gk.hk) (ob := Gk.ob) (M := 3000) (loose := [("NetError" : PySem.Str), ("NoText" : PySem.Str), ("TooMany" : PySem.Str), ("NotFormula" : PySem.Str), ("NoTurn" : PySem.Str), ("NoForms" : PySem.Str), ("NoRow" : PySem.Str), ("is_signs" : PySem.Str), ("show_row" : PySem.Str), ("show_change" : PySem.Str), ("read_change" : PySem.Str), ("read_row" : PySem.Str), ("_law_deck" : PySem.Str), ("_law_mixed" : PySem.Str), ("_law_take" : PySem.Str), ("_law_kinds" : PySem.Str), ("_law_refused" : PySem.Str), ("_law_bent" : PySem.Str), ("_law_row" : PySem.Str), ("_law_shown" : PySem.Str), ("_law_read" : PySem.Str), ("_law_told" : PySem.Str), ("_law_right" : PySem.Str), ("_law_raised" : PySem.Str)]) (d := HandSHeadRun.topDef (OpenLaw.row PySem.Challenge.rw_glitchnet_k06_changes_and_refusals).prog 28) (kwd := []) Gk.ob_eq
    (by kernel_rfl) (fun s => by kernel_rfl) Gk.run (by kernel_rfl) (by kernel_rfl) (by kernel_rfl) (by rfl) (by first | assumption | decide +kernel) (by decide +kernel) ⟨rfl, rfl, rfl, rfl, rfl, by decide +kernel⟩ ?hw ?hc
  case hw => w_witness2
  case hc =>
    refine Gk.walk_GT (l := PySem.Challenge.rw_glitchnet_k06_changes_and_refusals) (n := 63) (k := 7) (x := "_law_script") (CX := fun _ => L2.CX0) rfl (by decide) (by kernel_rfl) ⟨rfl, by decide, by decide⟩ ?F (fun _ _ _ _ _ z => z)
    intro w mg fa h Y G hmg0
    obtain ⟨K, KX, c⟩ := Y
    have hmg : mg ("law" : PySem.Str) = some (.ref fa) := by
      have e : (HandSHeadRun.topDef (OpenLaw.row PySem.Challenge.rw_glitchnet_k06_changes_and_refusals).prog 28).name = ("law" : PySem.Str) := by kernel_rfl
      rw [← e]
      exact hmg0
    exact ⟨K, KX, Gk.facts KX G hmg c⟩
