import PyProof.Rows.All
import Wide.All
import OpenK.AllK
import Wide.FinOn
import HandS.ForMost
import HandS.ForExc
import HandS.IsInst
import HandS.ExcIs
import HandS.ExcValue
import HandS.ExcCtx
import HandS.HotCalls
import HandS.ExcInitHot
import HandS.Head0
import HandS.Head1
import HandS.Head2
import HandS.HeadEnd
import HandS.HeadHook1
import HandS.HeadHook2
import HandS.HeadHook3
import HandS.HeadHook4
import HandS.HeadWalk
import HandS.Defaults
import HandS.ReplaceLit
import HandS.TupLe
import HandS.TupAny
import HandS.TupMul
import HandS.More
import HandS.Codes
import HandS.Conv
import HandS.Deep
import HandS.TupSets
import HandS.Style
import HandS.Strs
import HandS.AnyAll
import HandS.GenList
import HandS.JoinGen
import HandS.Zip
import HandS.Rev
import HandS.RevTup
import KE.KUnpackStar
import PyProof.ReprLen
import PyProof.ReprRoads
import HandS.Text
import PySem.Challenge.RW_glitchnet_k16_words_written_and_read
set_option Elab.async false
set_option linter.all false
set_option maxRecDepth 100000
set_option maxHeartbeats 1000000
namespace Gk
open PySem PySem.Spec PyProof.Rows L2
/-! ### an exception handed on to a def -/
namespace GxE
open PySem PySem.Spec PyProof.Rows L2
/-- a caught exception, as it stands -/
def ExP (a : Addr) (oe : Obj) : HO := .ext fun h => h.get? a = some oe
theorem exP_ok {P : Program} {w : World} {H : Hp} {h : Heap} {a : Addr} {oe : Obj} (e : h.get? a = some oe) : ObjOk P w H h a (ExP a oe) := ⟨e, ⟨oe, e⟩, fun _ _ q k => k _ q⟩
/-- it is seen: told of, or there since the law began -/
def Seen (base : Heap) (H : Hp) (a : Addr) (oe : Obj) : Prop := H a = some (ExP a oe) ∨ base.get? a = some oe
theorem Seen.same {base : Heap} {H H' : Hp} {a : Addr} {oe : Obj} (h : Seen base H a oe) (s : Same H H') : Seen base H' a oe := h.imp (fun e => s _ _ e) id
section
variable {X : Cx} {pins : List (Addr × Obj)} {σ : L2.St} {H : Hp} {s : Shared}
theorem seen_at {a : Addr} {oe : Obj} (I : Inv X pins σ H s) (h : Seen X.base H a oe) : s.heap.get? a = some oe := by
  rcases h with h | h
  · exact (I.hok a _ h).1
  · exact (I.bs a oe h).1
theorem inst_of {h : Heap} {a D : Addr} {oe : Obj} (e : h.get? a = some oe) (hz : Zc (.ref D) none oe) (hf : ∃ vs, oe.data = .fields vs) : PySem.W.InstAt h a oe D none := by
  obtain ⟨vs, hv⟩ := hf
  obtain ⟨oc, od, oda, osl⟩ := oe
  obtain ⟨h1, h2⟩ := hz
  dsimp only at h1 h2 hv
  subst h1 h2 hv
  exact ⟨e, rfl, rfl, trivial⟩
/-- isinstance(e, c) -/
def rIsX (K : PySem.W.Frag) (base : Heap) : List V → Hp → VK → Prop := fun xs H Q => ∃ (a D : Addr) (oe : Obj) (c : V) (cv : Value) (b : Bool), xs = [.ref a, c] ∧ Seen base H a oe ∧ Zc (.ref D) none oe ∧ (∃ vs, oe.data = .fields vs) ∧ ExcC K D ∧ ClsV c cv ∧ PySem.W.kitOne K (.ref D) cv = some b ∧ Q (.bl b) H
theorem call_isX : CallR X (.builtin "isinstance") (rIsX X.K X.base) := by
  intro pins s σ H xs us Q I r h
  obtain ⟨a, D, oe, c, cv, b, rfl, seen, hz, hf, C, k, e, q⟩ := h
  obtain ⟨u1, u2, rfl, r1, r2⟩ := vals2 r
  have e2 := k.eq r2
  subst e2
  cases (show u1 = Value.ref a from r1)
  exact PySem.W.kia_one (PySem.W.handS_kitx_exc C.hg C.hk C.hs C.hd C.ha C.hn C.ht C.hm) I.kIn (inst_of (seen_at I seen) hz hf) e (fun z => nomatch z) fun tk => ⟨.bl b, H, I.tok tk, rfl, q⟩
/-- isinstance(e, (c1, c2, ..)) -/
def rIsXT (K : PySem.W.Frag) (base : Heap) : List V → Hp → VK → Prop := fun xs H Q => ∃ (a D : Addr) (oe : Obj) (tp : Addr) (cs : List V) (us : List Value) (b : Bool), xs = [.ref a, .ref tp] ∧ Seen base H a oe ∧ Zc (.ref D) none oe ∧ (∃ vs, oe.data = .fields vs) ∧ ExcC K D ∧ H tp = some (.tup cs) ∧ Paired ClsV cs us ∧ PySem.W.kitAny K (.ref D) us = some b ∧ Q (.bl b) H
theorem call_isXT : CallR X (.builtin "isinstance") (rIsXT X.K X.base) := by
  intro pins s σ H xs us Q I r h
  obtain ⟨a, D, oe, tp, cs, ws, b, rfl, seen, hz, hf, C, hT, k, e, q⟩ := h
  obtain ⟨u1, u2, rfl, r1, r2⟩ := vals2 r
  cases (show u1 = Value.ref a from r1)
  cases (show u2 = Value.ref tp from r2)
  obtain ⟨_, its, rv, o, h1, h2, n, h3⟩ := (show ObjOk X.prog X.w H s.heap tp (.tup cs) from I.hok tp _ hT)
  have e3 := ClsV.all k rv
  subst e3
  obtain ⟨oc, od, dt, sl⟩ := o
  simp only at h2 h3
  subst h2 h3
  exact PySem.W.kia_tup (PySem.W.handS_kitx_exc C.hg C.hk C.hs C.hd C.ha C.hn C.ht C.hm) I.kIn (inst_of (seen_at I seen) hz hf) h1 e (fun z => nomatch z) fun tk => ⟨.bl b, H, I.tok tk, rfl, q⟩
end
section
variable {P : Program} {w : World} {H H' : Hp} {h h' : Heap} {a : Addr} {oe : Obj}
theorem hok_add (x : HOk P w H h) (n : H a = none) (e : h.get? a = some oe) : HOk P w (upd H a (ExP a oe)) h := HOk.laidN x (fun _ _ z => z) n (exP_ok e)
theorem paired_imp {α β : Type} {R S : α → β → Prop} (f : ∀ a b, R a b → S a b) : ∀ {xs : List α} {ys : List β}, Paired R xs ys → Paired S xs ys
  | _, _, .nil => .nil
  | _, _, .cons r t => .cons (f _ _ r) (paired_imp f t)
/-- without what is only told of -/
theorem objOk_del {φ : Heap → Prop} (ha : H a = some (.ext φ)) : ∀ (u : HO) (b : Addr), ObjOk P w H h b u → ObjOk P w (delH H a) h b u := by
  have tup : ∀ {b xs}, H b = some (.tup xs) → delH H a b = some (.tup xs) := fun {b xs} e => by
    rw [delH_ne (fun z => by rw [z, ha] at e; cases e)]
    exact e
  have own : ∀ {b c}, H b = some (.own c) → delH H a b = some (.own c) := fun {b c} e => by
    rw [delH_ne (fun z => by rw [z, ha] at e; cases e)]
    exact e
  intro u
  induction u with
  | dT kvs =>
    rintro b ⟨h1, h2, xs, p, r⟩
    refine ⟨h1, h2, xs, ?_, r⟩
    exact paired_imp (fun _ _ ⟨q1, q2, q3⟩ => ⟨q1, tup q2, q3⟩) p
  | ins C dx fs =>
    rintro b ⟨h1, r⟩
    exact ⟨own h1, r⟩
  | frz o u ih =>
    rintro b ⟨h1, h2⟩
    exact ⟨h1, ih b h2⟩
  | _ => exact fun b x => x
theorem hok_del {φ : Heap → Prop} (x : HOk P w H h) (ha : H a = some (.ext φ)) : HOk P w (delH H a) h := fun b u e => by
  by_cases hb : b = a
  · rw [hb, delH_same] at e
    cases e
  · rw [delH_ne hb] at e
    exact objOk_del ha u b (x b u e)
end
section
variable {fs : List Addr} {H H2 : Hp} {h h' : Heap} {a : Addr} {oe : Obj}
theorem un_del (u : Un fs [] (upd H a (ExP a oe)) H2 h h') (n : H a = none) (e : h.get? a = some oe) (e' : h'.get? a = some oe) : Un fs [] H (delH H2 a) h h' := by
  have ne : ∀ {b : Addr} {o : HO}, H b = some o → b ≠ a := fun {b o} q z => by rw [z, n] at q; cases q
  refine ⟨fun b o q nb hb hx => ?_, fun b o q nb hb hx => ?_, fun b o q nb hx => ?_, fun b o q hx => u.there b o q hx, fun b xs q => ?_, fun b o v q => ?_, fun b ps q => ?_⟩
  · by_cases hz : b = a
    · rw [hz] at q ⊢
      rw [e] at q
      rw [e', ← q]
    · exact u.keep b o q (by rw [upd_ne hz]; exact nb) hb hx
  · by_cases hz : b = a
    · rw [hz] at q ⊢
      rw [e] at q
      cases q
      exact ⟨oe.slots, e'⟩
    · exact u.slot b o q (by rw [upd_ne hz]; exact nb) hb hx
  · by_cases hz : b = a
    · rw [hz]; exact delH_same
    · rw [delH_ne hz]
      exact u.free b o q (by rw [upd_ne hz]; exact nb) hx
  · rw [delH_ne (ne q)]
    exact u.tups b xs (by rw [upd_ne (ne q)]; exact q)
  · rw [delH_ne (ne q)]
    exact u.frzs b o v (by rw [upd_ne (ne q)]; exact q)
  · rw [delH_ne (ne q)]
    exact u.tbls b ps (by rw [upd_ne (ne q)]; exact q)
end
/-! ### a def that runs also where an exception is handled -/
structure FnR (P : Program) (w : World) (K : PySem.W.Frag) (mg : PySem.Str → Option Value) (base : Heap) (k : Nat) (f : Addr) (fd : FuncData) (ps : List PySem.Str) (sp : Sp) : Prop where
  len : ∀ vs H Q E, sp vs H Q E → vs.length = ps.length
  run : ∀ (A : Around) (outer : List Env) (s : Shared) (H : Hp) (args : Args) (us : List Value) (vs : List V) (Q : VK), L2H.RoomH k A → Env0 P w K mg base A outer s H → BindsTo s fd args (ps.zip us) → Vals vs us → sp vs H Q E0 →
    codeAny (model P w) A (.call (.ref f) args) (CR CX0 outer P w H s Q E0) s
theorem okR {P : Program} {w : World} {K : PySem.W.Frag} {mg : PySem.Str → Option Value} {base : Heap} {x qual : PySem.Str} {st : Stmt} {f : Addr} {fd : FuncData} {N ps : List PySem.Str} {k : Nat} {sp : Sp} (F : Fun K x qual st f fd) (S : FnScope N ps (defScope st)) (len : ∀ vs H Q E, sp vs H Q E → vs.length = ps.length)
    (body : ∀ (cdv : Value) (A : Around) (outer : List Env) (s : Shared) (H : Hp) (vs : List V) (Q : VK) (p : Addr × Obj), L2H.RoomH k (A.deeper (envOfC qual (defScope st) s.heap.objs.size f cdv)) → sp vs H Q E0 →
      ∃ t, PSs (L2H.cxH CX0 P w K mg base N qual (defScope st) f cdv A outer s H E0 p) (defBody st) t ∧ t { nx := fun _ H' => Q .non H', rt := Q } (L2.start N vs) H) : FnR P w K mg base (k + 1) f fd ps sp := by
  obtain ⟨oc, od, kV, doc, pm, an, cdv, ct, osl, rfl, lk, hcd⟩ := F.ex
  refine ⟨len, fun A outer s H args us vs Q hr e0 hb r hsp => ?_⟩
  have kin : K.In s.heap := e0.mod.kin.keeps fun b o e => (e0.bs b o e).1
  have nol : s.heap.NoLimit := e0.mod.nolimit.keeps fun b o e => (e0.bs b o e).1
  obtain ⟨go, ges, gep, hgo, hgx⟩ := id e0.mod.glob
  have pin : L2H.PinOk outer H s (mainGlobals, go) := by
    refine ⟨(e0.bs _ _ hgo).1, (e0.bs _ _ hgo).2, fun hm => ?_, fun v z => ?_⟩
    · have z := (e0.funs.mem hm).1
      rw [hgo] at z
      cases z
    · have z : go.data = .cell v := z
      rw [hgx.1] at z
      cases z
  have places : ∀ y ∈ ps.zip us, (defScope st).names.lookup y.1 = some .local ∨ ((defScope st).names.lookup y.1 = some .cell ∧ ((cellsFrom (s.heap.objs.size + 1) (defScope st).names []).lookup y.1).isSome = true) := fun ⟨n, v⟩ hy => by
    rcases S.par n (List.of_mem_zip hy).1 with q | q
    · exact .inl q
    · exact .inr ⟨q, PySem.W.cellsFrom_some _ _ _ (.inl q)⟩
  refine codeAny_call_function hr.depth (kin _ _ lk) rfl S.co S.gen rfl (PySem.W.codeRec_of kin hcd) (hb _ _ _ _ ?_)
  refine wpAny_newFunctionEnv_cells S.kind places fun env he s1 x => ?_
  subst he
  refine ⟨nol.keeps x.toInCall.keep, codeAny_func ?_⟩
  obtain ⟨t, ht, hq⟩ := body cdv A outer s H vs Q (mainGlobals, go) (hr.deeper _) hsp
  have I := L2H.inv_startH (CX := CX0) (E := E0) (f := f) (cd := cdv) (qual := qual) S pin e0 (len _ _ _ _ hsp) r x
  refine wpAny_mono (ht.run [] s1 (L2.start N vs) H _ I hq) (fun fl s' hs => ?_) fun e s' hs => hs
  cases fl with
  | ret u =>
    obtain ⟨v, σ', H', J, rv, q⟩ := hs
    exact ⟨v, H', J.os, J.bare, J.base, J.hok, rv, q⟩
  | next =>
    obtain ⟨σ', H', J, q⟩ := hs
    exact ⟨.non, H', J.os, J.bare, J.base, J.hok, rfl, q⟩
  | brk =>
    obtain ⟨_, _, _, q⟩ := hs
    exact False.elim q
  | cont =>
    obtain ⟨_, _, _, q⟩ := hs
    exact False.elim q
section
variable {X : Cx} {k : Nat} {f : Addr} {fd : FuncData} {ps : List PySem.Str} {sp : Sp} {x : PySem.Str} {p pos : Pos} {e : Expr} {es : List Expr} {t : TA} {a : Addr} {oe : Obj} {pn : List (Addr × Obj)} {cls : Value} {d : Option Addr}
/-- f(.., e, ..) in an except suite, e the exception -/
def tCallX (base : Heap) (a : Addr) (cls : Value) (d : Option Addr) (sp : Sp) (t : TA) : TE := fun σ H Q => t σ H fun vs H1 => ∀ oe : Obj, Zc cls d oe → (∃ vs, oe.data = .fields vs) →
  (H1 a = none → sp vs (upd H1 a (ExP a oe)) (fun v H2 => H2 a = some (ExP a oe) ∧ Q v (delH H2 a)) E0) ∧ (base.get? a = some oe → sp vs H1 Q E0)
theorem pe_callX (hz : Zc cls d oe) (hf : ∃ vs, oe.data = .fields vs) (F : FnR X.prog X.w X.K X.mg X.base k f fd ps sp) (hr : L2H.RoomH k (X.suite a ((a, oe) :: pn)).A) (hg : Gl X x) (hm : X.mg x = some (.ref f)) (hk : PySem.W.keepIn X.K (.ref f) = true) (hb : Binds X.K fd ps [])
    (ha : PA (X.suite a ((a, oe) :: pn)) (e :: es) t) (hdb : (x == ("__debug__" : PySem.Str)) = false := by decide) (he : starEach (e :: es) X.env = (false, eval e X.env) :: starEach es X.env := by rfl) (hpl : (backTo pos (starEach es X.env)).any (·.1) = false := by rfl) :
    PE (X.suite a ((a, oe) :: pn)) (.Call (.Name x p) (e :: es) [] pos) (tCallX X.base a cls d sp t) := by
  refine ⟨fun pins s σ H Q I h => ?_⟩
  refine wpAny_Call_Name_kw (ld_glob (X := X.suite a ((a, oe) :: pn)) I hg hm ?_ hdb)
  refine PySem.W.callWith_K (h₀ := X.base) I.ok.mod.kin hk (thn (ha.run pos pins s σ H _ I h) fun us s1 ⟨vs, H1, I1, r, q0⟩ => ⟨I1.kIn, ?_⟩) he hpl
  have q := q0 oe hz hf
  have pin := I1.pin (a, oe) (List.mem_append.mpr (.inl List.mem_cons_self))
  have e0 := I1.env0
  have na : H1 a = none := pin.2.1
  have bind : ∀ {H2 : Hp} {Q2 : VK}, sp vs H2 Q2 E0 → BindsTo s1 fd ⟨us, []⟩ (ps.zip us) := fun {H2 Q2} z => by
    have hl : (us ++ ([] : List Value)).length = ps.length := by rw [List.append_nil, ← r.length]; exact F.len _ _ _ _ z
    have y := hb s1 us I1.kIn hl
    rw [List.append_nil] at y
    exact y
  cases hbase : X.base.get? a with
  | some o =>
    have := (e0.bs a o hbase).1
    rw [pin.1] at this
    cases Option.some.inj this
    have h2 := q.2 hbase
    refine wpAny_call (codeAny_mono (F.run _ _ s1 _ ⟨us, []⟩ us vs _ hr e0 (bind h2) r h2) fun r' s' hq => ?_)
    cases r' with
    | error e' => exact False.elim hq
    | ok fl =>
      cases fl with
      | ret u => exact I1.after hq
      | next => exact False.elim hq
      | brk => exact False.elim hq
      | cont => exact False.elim hq
  | none =>
    have h2 := q.1 na
    have E1 : Env0 X.prog X.w X.K X.mg X.base (X.suite a ((a, oe) :: pn)).A (X.suite a ((a, oe) :: pn)).stack s1 (upd H1 a (ExP a oe)) :=
      ⟨e0.frames, e0.mod, fun b o z => ⟨(e0.bs b o z).1, by rw [upd_ne (fun y => by rw [y, hbase] at z; cases z)]; exact (e0.bs b o z).2⟩, e0.bsz, e0.funs, fun b hb' => by
        by_cases y : b = a
        · exfalso
          obtain ⟨_, o, ho, hnf⟩ := e0.funs.mem (show b ∈ frs _ from hb')
          rw [y, pin.1] at ho
          cases ho
          obtain ⟨vs', hv⟩ := hf
          exact hnf vs' hv
        · rw [upd_ne y]; exact e0.frf b hb', hok_add e0.hok na pin.1, e0.bare⟩
    refine wpAny_call (codeAny_mono (F.run _ _ s1 _ ⟨us, []⟩ us vs _ hr E1 (bind h2) r h2) fun r' s' hq => ?_)
    cases r' with
    | error e' => exact False.elim hq
    | ok fl =>
      cases fl with
      | ret u =>
        obtain ⟨v, H', os, bare, un, hok, rv, q1, q2⟩ := hq
        have e' : s'.heap.get? a = some oe := (hok a _ q1).1
        exact I1.after ⟨v, delH H' a, os, bare, un_del un na pin.1 e', hok_del hok q1, rv, q2⟩
      | next => exact False.elim hq
      | brk => exact False.elim hq
      | cont => exact False.elim hq
end
/-! ### defs that raise -/
theorem okN {P : Program} {w : World} {K : PySem.W.Frag} {mg : PySem.Str → Option Value} {base : Heap} {x qual : PySem.Str} {st : Stmt} {f : Addr} {fd : FuncData} {N ps : List PySem.Str} {k : Nat} {sp : Sp} (F : Fun K x qual st f fd) (S : FnScope N ps (defScope st)) (len : ∀ vs H Q E, sp vs H Q E → vs.length = ps.length)
    (body : ∀ (cdv : Value) (A : Around) (outer : List Env) (s : Shared) (H : Hp) (vs : List V) (Q : VK) (E : XK), Room k (A.deeper (envOfC qual (defScope st) s.heap.objs.size f cdv)) → sp vs H Q E →
      ∃ t, PSs (cxOf (L2N.CX P w) P w K mg base N qual (defScope st) f cdv A outer s H E) (defBody st) t ∧ t { nx := fun _ H' => Q .non H', rt := Q } (L2.start N vs) H) : FnOk P w K mg base (L2N.CX P w) (k + 1) f fd ps sp := by
  obtain ⟨oc, od, kV, doc, pm, an, cdv, ct, osl, rfl, lk, hcd⟩ := F.ex
  exact fn_of lk hcd S len fun A outer s H vs Q E hr hsp => body cdv A outer s H vs Q E hr hsp
theorem takesE {P : Program} {w : World} {K : PySem.W.Frag} {mg : PySem.Str → Option Value} {base : Heap} {N : List PySem.Str} {qual : PySem.Str} {sc : Scope} {f : Addr} {cd : Value} {A : Around} {outer : List Env} {s : Shared} {H : Hp} {E : XK} :
    L2N.Takes (cxOf (L2N.CX P w) P w K mg base N qual sc f cd A outer s H E) (fun cls d _ H => E cls d H) := L2N.takes_of rfl rfl rfl rfl
theorem takesN {X : Cx} : L2N.Takes X (fun _ _ _ _ => False) := fun _ _ x => by
  obtain ⟨_, _, _, _, _, _, _, _, _, _, _, _, _, _, _, _, z⟩ := x
  exact z.elim
end GxE
/-! ### what the top says of classes and of tuples of texts -/
namespace GxE
open PySem PySem.Spec PyProof.Rows L2
def excCB (K : PySem.W.Frag) (D : Addr) : Bool :=
  decide (PySem.W.findIn K (.ref D) "__getattribute__" = some (some (.builtin "BaseException.__getattribute__"))) && (decide (PySem.W.findIn K (.ref D) "__getattr__" = some none) &&
  (decide (PySem.W.subIn K (.ref D) (.type "BaseException") = some true) && (PySem.W.hasDictIn K D && (decide (PySem.W.findIn K (.ref D) "__class__" = some (some (.builtin "object.__class__"))) &&
  (decide (PySem.W.specialIn K (.builtin "object.__class__") "__get__" = some (some (.builtin "getset_descriptor.__get__"))) && (decide (PySem.W.takesIn K (.builtin "object.__class__") = some true) && decide (PySem.W.mroIn K D (.type "object") = some true)))))))
theorem excC_ok {K : PySem.W.Frag} {D : Addr} (h : excCB K D = true) : ExcC K D := by
  obtain ⟨h1, h⟩ := He.ba h
  obtain ⟨h2, h⟩ := He.ba h
  obtain ⟨h3, h⟩ := He.ba h
  obtain ⟨h4, h⟩ := He.ba h
  obtain ⟨h5, h⟩ := He.ba h
  obtain ⟨h6, h⟩ := He.ba h
  obtain ⟨h7, h8⟩ := He.ba h
  exact ⟨of_decide_eq_true h1, of_decide_eq_true h2, of_decide_eq_true h3, h4, of_decide_eq_true h5, of_decide_eq_true h6, of_decide_eq_true h7, of_decide_eq_true h8⟩
def strsB : List PySem.Str → List Value → Bool
  | [], [] => true
  | x :: r, .str y _ :: t => decide (y = x) && strsB r t
  | _, _ => false
theorem strsB_ok : ∀ {xs : List PySem.Str} {us : List Value}, strsB xs us = true → Vals (xs.map V.str) us
  | [], [], _ => .nil
  | x :: r, u :: t, h => by
    cases u with
    | str y k =>
      obtain ⟨h1, h2⟩ := He.ba h
      cases of_decide_eq_true h1
      exact .cons ⟨k, rfl⟩ (strsB_ok h2)
    | _ => cases h
  | [], _ :: _, h => by cases h
  | _ :: _, [], h => by cases h
def tupB (K : PySem.W.Frag) (x : PySem.Str) (xs : List PySem.Str) : Bool := match K.lookup (He.ga K x) with
  | some ⟨.type "tuple", none, .seq its _, _⟩ => strsB xs its.toList && decide (its.size ≤ 1000)
  | _ => false
theorem tupB_ok {K : PySem.W.Frag} {x : PySem.Str} {xs : List PySem.Str} (h : tupB K x xs = true) (H : Hp) : SqT K H (He.ga K x) (xs.map V.str) := by
  unfold tupB at h
  split at h
  · rename_i its n sl e
    obtain ⟨h1, h2⟩ := He.ba h
    exact .inr ⟨_, its, n, e, rfl, rfl, Nat.le_trans (of_decide_eq_true h2) (by decide), strsB_ok h1⟩
  · cases h
theorem tupB_ty {K : PySem.W.Frag} {x : PySem.Str} {xs : List PySem.Str} (h : tupB K x xs = true) : ∃ o, K.lookup (He.ga K x) = some o ∧ o.cls = .type "tuple" ∧ o.dict = none := by
  unfold tupB at h
  split at h
  · rename_i its n sl e
    exact ⟨_, e, rfl, rfl⟩
  · cases h
end GxE

end Gk

set_option Elab.async false
set_option linter.all false
set_option maxRecDepth 100000
set_option maxHeartbeats 1000000
namespace Gk
open PySem PySem.Spec PyProof.Rows L2
/-! ### the text -/
def topS (i : Nat) : Stmt := PySem.Challenge.pw_glitchnet_k16_words_written_and_read.main.body.getD i (.Pass ⟨0, 0, 0, 0⟩)
abbrev s_show_word : Stmt := topS 10
abbrev s_read_word : Stmt := topS 11
abbrev s_deck : Stmt := topS 13
abbrev s_draw : Stmt := topS 14
abbrev s_texts : Stmt := topS 15
abbrev s_sign : Stmt := topS 16
abbrev s_bent : Stmt := topS 17
abbrev s_alone : Stmt := topS 18
abbrev s_read : Stmt := topS 19
abbrev s_right : Stmt := topS 20
abbrev s_law : Stmt := topS 21
theorem sc_show_word : FnScope ["word", "first", "last", "fro", "name"] ["word"] (defScope s_show_word) := ⟨rfl, rfl, rfl, by decide +kernel, rfl, by decide +kernel, by decide +kernel⟩
theorem sc_read_word : FnScope ["text", "fro", "name", "number"] ["text"] (defScope s_read_word) := ⟨rfl, rfl, rfl, by decide +kernel, rfl, by decide +kernel, by decide +kernel⟩
theorem sc_deck : FnScope ["_law_script", "_law_last"] ["_law_script"] (defScope s_deck) := ⟨rfl, rfl, rfl, by decide +kernel, rfl, by decide +kernel, by decide +kernel⟩
theorem sc_draw : FnScope ["_law_deck_here", "_law_most", "_law_cell", "_law_number"] ["_law_deck_here", "_law_most"] (defScope s_draw) := ⟨rfl, rfl, rfl, by decide +kernel, rfl, by decide +kernel, by decide +kernel⟩
theorem sc_texts : FnScope ["_law_names", "_law_ends", "_law_found", "_law_k"] [] (defScope s_texts) := ⟨rfl, rfl, rfl, by decide +kernel, rfl, by decide +kernel, by decide +kernel⟩
theorem sc_sign : FnScope ["_law_deck_here", "_law_signs"] ["_law_deck_here"] (defScope s_sign) := ⟨rfl, rfl, rfl, by decide +kernel, rfl, by decide +kernel, by decide +kernel⟩
theorem sc_bent : FnScope ["_law_deck_here", "_law_text", "_law_way", "_law_at", "_law_k"] ["_law_deck_here", "_law_text"] (defScope s_bent) := ⟨rfl, rfl, rfl, by decide +kernel, rfl, by decide +kernel, by decide +kernel⟩
theorem sc_alone : FnScope ["_law_e", "_law_others"] ["_law_e"] (defScope s_alone) := ⟨rfl, rfl, rfl, by decide +kernel, rfl, by decide +kernel, by decide +kernel⟩
theorem sc_read : FnScope ["_law_thing", "_law_found", "_law_e"] ["_law_thing"] (defScope s_read) := ⟨rfl, rfl, rfl, by decide +kernel, rfl, by decide +kernel, by decide +kernel⟩
theorem sc_right : FnScope ["_law_thing", "_law_known", "_law_turn", "_law_found", "_law_text", "_law_word"] ["_law_thing"] (defScope s_right) := ⟨rfl, rfl, rfl, by decide +kernel, rfl, by decide +kernel, by decide +kernel⟩
theorem sc_law : FnScope ["_law_script", "_law_deck_here", "_law_text", "_law_word", "_law_told", "_law_things", "_law_turn", "_law_way", "_law_bent_here", "_law_thing", "_law_kept"] ["_law_script"] (defScope s_law) := ⟨rfl, rfl, rfl, by decide +kernel, rfl, by decide +kernel, by decide +kernel⟩
structure Tx (K : PySem.W.Frag) (mg : Str → Option Value) where
  f_show_word : Addr
  fd_show_word : FuncData
  F_show_word : Fun K "show_word" "show_word" s_show_word f_show_word fd_show_word
  g_show_word : mg "show_word" = some (.ref f_show_word)
  b_show_word : Binds K fd_show_word ["word"] []
  f_read_word : Addr
  fd_read_word : FuncData
  F_read_word : Fun K "read_word" "read_word" s_read_word f_read_word fd_read_word
  g_read_word : mg "read_word" = some (.ref f_read_word)
  b_read_word : Binds K fd_read_word ["text"] []
  f_deck : Addr
  fd_deck : FuncData
  F_deck : Fun K "_law_deck" "_law_deck" s_deck f_deck fd_deck
  g_deck : mg "_law_deck" = some (.ref f_deck)
  b_deck : Binds K fd_deck ["_law_script"] []
  f_draw : Addr
  fd_draw : FuncData
  F_draw : Fun K "_law_draw" "_law_draw" s_draw f_draw fd_draw
  g_draw : mg "_law_draw" = some (.ref f_draw)
  b_draw : Binds K fd_draw ["_law_deck_here", "_law_most"] []
  f_texts : Addr
  fd_texts : FuncData
  F_texts : Fun K "_law_texts" "_law_texts" s_texts f_texts fd_texts
  g_texts : mg "_law_texts" = some (.ref f_texts)
  b_texts : Binds K fd_texts [] []
  f_sign : Addr
  fd_sign : FuncData
  F_sign : Fun K "_law_sign" "_law_sign" s_sign f_sign fd_sign
  g_sign : mg "_law_sign" = some (.ref f_sign)
  b_sign : Binds K fd_sign ["_law_deck_here"] []
  f_bent : Addr
  fd_bent : FuncData
  F_bent : Fun K "_law_bent" "_law_bent" s_bent f_bent fd_bent
  g_bent : mg "_law_bent" = some (.ref f_bent)
  b_bent : Binds K fd_bent ["_law_deck_here", "_law_text"] []
  f_alone : Addr
  fd_alone : FuncData
  F_alone : Fun K "_law_alone" "_law_alone" s_alone f_alone fd_alone
  g_alone : mg "_law_alone" = some (.ref f_alone)
  b_alone : Binds K fd_alone ["_law_e"] []
  f_read : Addr
  fd_read : FuncData
  F_read : Fun K "_law_read" "_law_read" s_read f_read fd_read
  g_read : mg "_law_read" = some (.ref f_read)
  b_read : Binds K fd_read ["_law_thing"] []
  f_right : Addr
  fd_right : FuncData
  F_right : Fun K "_law_right" "_law_right" s_right f_right fd_right
  g_right : mg "_law_right" = some (.ref f_right)
  b_right : Binds K fd_right ["_law_thing"] []
  f_law : Addr
  fd_law : FuncData
  F_law : Fun K "law" "law" s_law f_law fd_law
  g_law : mg "law" = some (.ref f_law)
  b_law : Binds K fd_law ["_law_script"] []
  m_ValueError : mg "ValueError" = none
  m_isinstance : mg "isinstance" = none
  m_len : mg "len" = none
  m_list : mg "list" = none
  m_range : mg "range" = none
  m_repr : mg "repr" = none
  m_str : mg "str" = none
  m_sum : mg "sum" = none
  C_NetError : Addr
  gC_NetError : mg "NetError" = some (.ref C_NetError)
  C_NoText : Addr
  gC_NoText : mg "NoText" = some (.ref C_NoText)
  C_TooMany : Addr
  gC_TooMany : mg "TooMany" = some (.ref C_TooMany)
  C_NotFormula : Addr
  gC_NotFormula : mg "NotFormula" = some (.ref C_NotFormula)
  C_NoTurn : Addr
  gC_NoTurn : mg "NoTurn" = some (.ref C_NoTurn)
  C_NoForms : Addr
  gC_NoForms : mg "NoForms" = some (.ref C_NoForms)
  C_NoRow : Addr
  gC_NoRow : mg "NoRow" = some (.ref C_NoRow)
  q_NoText : PySem.W.excIn K C_NoText He.veBase "ValueError.__new__" = true
  kC_NoText : PySem.W.keepIn K (.ref C_NoText) = true
  su_NoText : PySem.W.subIn K (.ref C_NoText) (.type "BaseException") = some true
  ty_NoText : PySem.W.typeIn K (.ref C_NoText) = some (.type "type")
  X_NoText : ExcC K C_NoText
  v_NoText : PySem.W.kitOne K (.ref C_NoText) (.type "ValueError") = some true
  t_NoText_NetError : PySem.W.kitOne K (.ref C_NoText) (.ref C_NetError) = some true
  x_NoText_NetError : PySem.W.exmOne K (.ref C_NoText) (.ref C_NetError) = some true
  t_NoText_NoText : PySem.W.kitOne K (.ref C_NoText) (.ref C_NoText) = some true
  x_NoText_NoText : PySem.W.exmOne K (.ref C_NoText) (.ref C_NoText) = some true
  t_NoText_TooMany : PySem.W.kitOne K (.ref C_NoText) (.ref C_TooMany) = some false
  x_NoText_TooMany : PySem.W.exmOne K (.ref C_NoText) (.ref C_TooMany) = some false
  t_NoText_NotFormula : PySem.W.kitOne K (.ref C_NoText) (.ref C_NotFormula) = some false
  x_NoText_NotFormula : PySem.W.exmOne K (.ref C_NoText) (.ref C_NotFormula) = some false
  t_NoText_NoTurn : PySem.W.kitOne K (.ref C_NoText) (.ref C_NoTurn) = some false
  x_NoText_NoTurn : PySem.W.exmOne K (.ref C_NoText) (.ref C_NoTurn) = some false
  t_NoText_NoForms : PySem.W.kitOne K (.ref C_NoText) (.ref C_NoForms) = some false
  x_NoText_NoForms : PySem.W.exmOne K (.ref C_NoText) (.ref C_NoForms) = some false
  t_NoText_NoRow : PySem.W.kitOne K (.ref C_NoText) (.ref C_NoRow) = some false
  x_NoText_NoRow : PySem.W.exmOne K (.ref C_NoText) (.ref C_NoRow) = some false
  A_NAMES : Addr
  gA_NAMES : mg "NAMES" = some (.ref A_NAMES)
  sq_NAMES : ∀ H : Hp, SqT K H A_NAMES (([Str.ofString "0", Str.ofString "up", Str.ofString "down", Str.ofString "1"] : List Str).map V.str)
  tt_NAMES : ∃ o, K.lookup A_NAMES = some o ∧ o.cls = .type "tuple" ∧ o.dict = none
structure Tb (base : Heap) {K : PySem.W.Frag} {mg : Str → Option Value} (T : Tx K mg) : Prop where
def Tx.tabs {K : PySem.W.Frag} {mg : Str → Option Value} (T : Tx K mg) : List Addr := []
/-! ### generator expressions whose elements may call -/
theorem inv_moved {X : Cx} {cp : List (Addr × Obj)} {σ : L2.St} {H : Hp} {s s' : Shared} (I : Inv X cp σ H s) (os : s'.os = s.os) (bare : AllBare s'.gens) (k : ∀ b o, s.heap.get? b = some o → s'.heap.get? b = some o) : Inv X cp σ H s' :=
  I.call' (ch := []) os (Un.kept k) (I.hok.kept k) bare fun b hb => absurd hb (by simp)
/-- the context of a generator expression's frame: C its frame, s, H the entry, fp its iterator's objects -/
abbrev gblk (X : Cx) (A : Around) (s : Shared) (H : Hp) (cenv : Env) (fp : List Addr) : Cx :=
  { X with A := A, s_0 := s, H_0 := H, env := cenv, outer := X.stack, stack := cenv :: X.stack, ex := fp, fn := fun _ => false, pn := [], xe := fun _ _ => False }
section
variable {X : Cx} {pins : List (Addr × Obj)} {σ : L2.St} {H : Hp} {s : Shared}
theorem gen_start {scope : Scope} {own : List (Str × Nat)} {fp : List Addr} {A : Around} {code it : Value} {s5 : Shared} {cp : List (Addr × Obj)}
    (I : Inv X pins σ H s) (ok : BlkOk X.N X.env.scope scope own) (nocell : ∀ y ∈ scope.names, y.2 ≠ .cell) (hN : X.N.Nodup) (hfp : ∀ b ∈ fp, FpOk X pins H b ∧ b < s.heap.objs.size)
    (hh : A.handled = none) (hfr : A.frames = some (genEnv scope (cloFrom X.env.cells scope.names []) s.heap.objs.size code builtinsNs X.env :: X.stack))
    (os : s5.os = s.os) (bare : AllBare s5.gens) (kp : ∀ b o, s.heap.get? b = some o → s5.heap.get? b = some o)
    (hns : s5.heap.Ns s.heap.objs.size fun y => if y = ".0" then some it else none)
    (hcp : ∀ p ∈ cp, s.heap.objs.size < p.1 ∧ s5.heap.get? p.1 = some p.2 ∧ ∀ v, p.2.data ≠ .cell v) :
    Inv (gblk X A s H (genEnv scope (cloFrom X.env.cells scope.names []) s.heap.objs.size code builtinsNs X.env) fp) cp (wipe σ (own.map (·.2))) H s5 := by
  have hfree : ∀ y ∈ scope.names, y.2 = .free → ∃ c, X.env.cells.lookup y.1 = some c := fun y hy e => by
    rcases ok.free y hy e with k | k
    · exact I.ok.has _ (.inl k)
    · exact I.ok.has _ (.inr k)
  generalize hcenv : genEnv scope (cloFrom X.env.cells scope.names []) s.heap.objs.size code builtinsNs X.env = cenv at hfr ⊢
  have hL : cenv.locals = s.heap.objs.size := by rw [← hcenv]; rfl
  have hcl : cenv.cells = cloFrom X.env.cells scope.names [] := by rw [← hcenv]; rfl
  have hsc : cenv.scope = scope := by rw [← hcenv]; rfl
  have cm : ∀ {y c}, (y, c) ∈ cloFrom X.env.cells scope.names [] → X.env.cells.lookup y = some c ∧ c < s.heap.objs.size := fun {y c} hm => by
    rcases cloFrom_mem hm with hm | ⟨h1, rfl⟩
    · cases hm
    · obtain ⟨c, hc⟩ := hfree _ h1 rfl
      rw [hc]
      obtain ⟨w, z⟩ := I.cell _ _ hc
      exact ⟨rfl, z.lt⟩
  have mem : ∀ {y c}, cenv.cells.lookup y = some c → X.env.cells.lookup y = some c ∧ c < s.heap.objs.size := fun {y c} e => by
    rw [hcl] at e
    exact cm (PySem.mem_of_lookup e)
  have look : ∀ {y}, scope.names.lookup y = some .free → ∃ c, cenv.cells.lookup y = some c ∧ X.env.cells.lookup y = some c := fun {y} hl => by
    have hy : (y, NameKind.free) ∈ scope.names := PySem.mem_of_lookup hl
    obtain ⟨c', e'⟩ := mem_lookup (cloFrom_has (cells := X.env.cells) (acc := []) hy)
    rw [← hcl] at e'
    exact ⟨c', e', (mem e').1⟩
  have okB : (gblk X A s H cenv fp).Ok := by
    refine ⟨I.ok.mod, by show cenv.scope.kind = _; rw [hsc]; exact ok.kind, by show cenv.globals = _; rw [← hcenv]; exact I.ok.glob, by show cenv.builtins = _; rw [← hcenv]; rfl, by show s.heap.objs.size ≤ cenv.locals; rw [hL]; exact Nat.le_refl _,
      fun y z c e1 e2 => I.ok.inj y z c (mem e1).1 (mem e2).1, fun y hy => ?_, fun y c z e => (by cases z), fun _ => hh, hfr, .inr ⟨rfl, by show cenv.frame = some cenv.locals; rw [← hcenv]; rfl⟩, fun b hb => ⟨?_, fun y c e z => ?_⟩, I.bs, Nat.le_trans I.ok.bsz I.sz, fun b o e hb => ?_, fun b hb z => ?_, I.stack, I.stkFree⟩
    · have hy' : scope.names.lookup y = some .cell ∨ scope.names.lookup y = some .free := by
        rw [← hsc]
        exact hy
      rcases hy' with e | e
      · exact absurd rfl (nocell _ (PySem.mem_of_lookup e))
      · obtain ⟨c, h1, _⟩ := look e
        exact ⟨c, h1⟩
    · show b ≠ cenv.locals
      rw [hL]; exact Nat.ne_of_lt (hfp b hb).2
    · exact (hfp b hb).1.2.2.2.2.1 y c (mem e).1 z
    · rcases (hfp b hb).1.2.2.2.1 with z | z
      · exact I.ok.noex b o e z
      · exact absurd (Nat.lt_of_lt_of_le (Heap.lt_size e) (Nat.le_trans I.ok.bsz z)) (Nat.lt_irrefl _)
    · rcases List.mem_cons.mp (I.stkSub b z) with z | z
      · exact (hfp b hb).1.2.1 z
      · exact (hfp b hb).1.2.2.1 z
  refine ⟨okB, os, bare, Un.kept kp, ⟨_, (by show s5.heap.Ns cenv.locals _; rw [hL]; exact hns), fun i y av e1 e2 e3 => ?_⟩, fun y c e => ?_, ?_, fun y c e => I.freeC y c (mem e).1, fun p hp => ?_, I.hok.kept kp, by rw [wipe_length]; exact I.len⟩
  · obtain ⟨e2, hne⟩ := wipe_some e2
    have e3 : Vis scope y := by rw [← hsc]; exact e3
    have no : ∀ k, scope.names.lookup y = some k → ¬ (k = .local ∨ k = .cell) := fun k e hh => by
      rcases ok.own _ (PySem.mem_of_lookup e) hh with e' | e'
      · obtain ⟨p, hp, hpy⟩ := List.mem_map.mp e'
        have e3 := ok.ix p hp
        have : p.1 = y := hpy
        rw [this] at e3
        exact hne (List.mem_map.mpr ⟨p, hp, nodup_ix hN e3 e1⟩)
      · exact e' (List.mem_of_getElem? e1)
    have hfr2 : scope.names.lookup y = some .free := by
      rcases e3 with e | e | e
      · exact absurd (.inl rfl) (no _ e)
      · exact absurd (.inr rfl) (no _ e)
      · exact e
    obtain ⟨m, hn, hl⟩ := I.loc
    have hvis : Vis X.env.scope y := (ok.free _ (PySem.mem_of_lookup hfr2) rfl).elim (fun k => .inr (.inl k)) (fun k => .inr (.inr k))
    obtain ⟨w, r, q⟩ := hl i y av e1 e2 hvis
    refine ⟨w, r, .inr ⟨.inr (by show cenv.scope.names.lookup y = some .free; rw [hsc]; exact hfr2), ?_⟩⟩
    obtain ⟨c, h1, h2⟩ := look hfr2
    rcases q with ⟨k, _⟩ | ⟨_, c', e', z⟩
    · have k : X.env.scope.names.lookup y = some .local := k
      rcases ok.free _ (PySem.mem_of_lookup hfr2) rfl with k' | k' <;> rw [show X.env.scope.names.lookup y = _ from k'] at k <;> cases k
    · rw [h2] at e'; cases e'
      exact ⟨c, h1, z.keeps kp⟩
  · obtain ⟨w, z⟩ := I.cell y c (mem e).1
    exact ⟨w, z.keeps kp⟩
  · show H cenv.locals = none
    rw [hL]; exact I.hok.fresh (Nat.le_refl _)
  · have hp : p ∈ cp := by simpa using hp
    obtain ⟨h1, h2, h3⟩ := hcp p hp
    refine ⟨h2, I.hok.fresh (Nat.le_of_lt h1), by show p.1 ≠ cenv.locals; rw [hL]; exact Nat.ne_of_gt h1, fun z => ?_, h3⟩
    rcases List.mem_cons.mp (I.stkSub _ z) with z | z
    · exact absurd (Nat.lt_trans I.lt h1) (by rw [z]; exact Nat.lt_irrefl _)
    · exact I.nofs (Nat.le_of_lt h1) z
end
/-! ### the talk of a generator and who asks it -/
section
variable {α : Type}
/-- handed out: x; the asker's state a (laid down in the pins cp) goes to one with Nx -/
def YG (Xg : Cx) (fp : List Addr) (tn : Nat → Heap → Prop) (AC : α → List (Addr × Obj) → Prop) (Yd : α → V → Hp → (α → Hp → Prop) → Prop) : Protocol := fun _ _ v s kap =>
  ∃ (a : α) (x : V) (σ : L2.St) (H : Hp) (i : Nat) (cp : List (Addr × Obj)) (Nx : α → Hp → Prop), RelV x v ∧ AC a cp ∧ Inv Xg cp σ H s ∧ tn i s.heap ∧ (∀ b ∈ fp, H b = none) ∧ Yd a x H Nx ∧
    ∀ a' cp' s', Nx a' H → AC a' cp' → Inv Xg cp' σ H s' → tn i s'.heap → kap (.send .none) s'
def RG (Xg : Cx) (AC : α → List (Addr × Obj) → Prop) (End : α → Hp → Prop) : GenEnd := fun _ _ r s =>
  ((r = .ok (.ret .none) ∨ r = .ok .next) ∧ ∃ (a : α) (σ : L2.St) (H : Hp) (cp : List (Addr × Obj)), AC a cp ∧ Inv Xg cp σ H s ∧ End a H) ∨ ∃ e, r = .error e ∧ False
/-- a generator's turns -/
def tGx (J : It) (g : TG) (tt : TT) (te : TE) (σ0 : L2.St) (vs : List Nat) (End : α → Hp → Prop) (Yd : α → V → Hp → (α → Hp → Prop) → Prop) (W : Nat → Nat → α → Hp → Prop) : Prop :=
  ∀ i m a H, W i m a H → (J.stop i H ∧ End a H) ∨ (J.go i H ∧ ∃ Nx : α → Hp → Prop, (∀ a' H', Nx a' H' → ∃ m', m' < m ∧ W (i + 1) m' a' H') ∧
    ∀ x H', J.yld i H x H' → g x σ0 H' fun σ2 H2 => wipe σ2 vs = σ0 ∧ tt σ2 H2 fun b H3 => if b = true then te σ2 H3 fun y H4 => Yd a y H4 Nx else Nx a H3)
theorem wipe_wipe_some {σ σ2 : L2.St} {vs : List Nat} (h : wipe σ2 vs = σ) : ∀ (j : Nat) v, σ[j]? = some (some v) → σ2[j]? = some (some v) := fun j v e => by
  rw [← h] at e
  exact (wipe_some e).1
theorem seg_gx {X : Cx} {A A' : Around} {s_0 : Shared} {H_0 : Hp} {elt tg iter : Expr} {ifs : List Expr} {scope : Scope} {pos : Pos} {it : Addr} {fp : List Addr} {tn : Nat → Heap → Prop} {J : It} {cenv : Env} {g : TG} {tt : TT} {te : TE} {σ0 : L2.St} {vs : List Nat}
    {AC : α → List (Addr × Obj) → Prop} {End : α → Hp → Prop} {Yd : α → V → Hp → (α → Hp → Prop) → Prop} {W : Nat → Nat → α → Hp → Prop}
    (hA : A.over (.compLoop (.GeneratorExp elt [⟨tg, iter, ifs, 0⟩] scope pos) 0 (.ref it) .none cenv) [] = A') (hc : X.calm = true) (hco : cenv.scope.isCoroutine = false)
    (T : Turn X.prog X.w X.K tg J fp it tn) (pg : PG (gblk X A' s_0 H_0 cenv fp) tg g) (pt : PTs (gblk X A' s_0 H_0 cenv fp) ifs tt) (pe : PE (gblk X A' s_0 H_0 cenv fp) elt te)
    (hAC : ∀ a cp, AC a cp → ∀ p ∈ cp, ∀ b ∈ fp, p.1 ≠ b) (turn : tGx J g tt te σ0 vs End Yd W) :
    ∀ (m n i : Nat) (a : α) (H : Hp) (s₀ s : Shared) (cp : List (Addr × Obj)), m < n → W i m a H → AC a cp → Inv (gblk X A' s_0 H_0 cenv fp) cp σ0 H s → tn i s.heap → (∀ b ∈ fp, H b = none) →
      Seg (model X.prog X.w) A (RG (gblk X A' s_0 H_0 cenv fp) AC End) (YG (gblk X A' s_0 H_0 cenv fp) fp tn AC Yd) n s₀
        (.compLoop (.GeneratorExp elt [⟨tg, iter, ifs, 0⟩] scope pos) 0 (.ref it) .none cenv)
        ((model X.prog X.w).den (.compLoop (.GeneratorExp elt [⟨tg, iter, ifs, 0⟩] scope pos) 0 (.ref it) .none cenv)) [] s := by
  have stat : ∀ {a : α} {cp : List (Addr × Obj)} {σ' : L2.St} {H' : Hp} {s' : Shared}, AC a cp → Inv (gblk X A' s_0 H_0 cenv fp) cp σ' H' s' → (∀ b ∈ fp, H' b = none) → ∀ b ∈ fp, FpOk (gblk X A' s_0 H_0 cenv fp) cp H' b := fun {a cp σ' H' s'} hac I' hn b hb =>
    ⟨hn b hb, (I'.ok.exf b hb).1, I'.ok.exfs b hb, .inl hb, fun x c e => (I'.ok.exf b hb).2 x c e, fun p hp => hAC a cp hac p (by simpa using hp) b hb⟩
  intro m
  induction m using Nat.strongRecOn with
  | ind m ih =>
    intro n i a H s₀ s cp hmn w hac I st nf
    show Seg _ A _ _ _ s₀ _ ((compTurn (.GeneratorExp elt [⟨tg, iter, ifs, 0⟩] scope pos) 0 (.ref it) .none cenv).onRaise (leaving cenv)) [] s
    rw [compTurn_gen, Sem.onRaise_eq_wrap]
    refine seg_bind_wrap (wpAny_standAt ?_)
    rcases turn i m a H w with ⟨stop, hend⟩ | ⟨go, Nx, hNx, step⟩
    · refine seg_bind_wrap ?_
      rw [hA]
      refine thnF (T.done (gblk X A' s_0 H_0 cenv fp) rfl rfl rfl hc i cp s σ0 H (fun _ _ => False) I (stat hac I nf) st stop) fun r s1 ⟨hr, I1⟩ => ?_
      subst hr
      exact seg_end (.ok .next) (.inl ⟨.inr rfl, a, _, H, cp, hac, I1, hend⟩)
    · refine seg_bind_wrap ?_
      rw [hA]
      refine thnF (T.item (gblk X A' s_0 H_0 cenv fp) rfl rfl rfl hc i cp s σ0 H (fun _ _ => False) I (stat hac I nf) st go) fun r s1 ⟨u, hr, h1⟩ => ?_
      subst hr
      refine seg_bind_wrap ?_
      rw [hA]
      refine thnF h1 fun _ s2 ⟨x, H2, I2, r2, y2, st2, n2⟩ => ?_
      have I2' := I2.pinned (stat hac I2 n2) (T.obj _ _ st2)
      refine seg_bind_wrap ?_
      rw [hA]
      refine thnF (pg.run _ s2 _ H2 x u _ I2' r2 (step x H2 y2)) fun _ s3 ⟨σ3, H3, I3, hw3, q3⟩ => ?_
      refine seg_bind_wrap ?_
      rw [hA]
      refine thnF (pt.run _ s3 σ3 H3 _ I3 q3) fun b s4 ⟨H4, I4, q4⟩ => ?_
      have hl : σ0.length = σ3.length := by rw [← hw3, wipe_length]
      have fin : ∀ {s' : Shared} {H' : Hp}, Inv (gblk X A' s_0 H_0 cenv fp) (cp ++ pinsAt fp s2.heap) σ3 H' s' → Inv (gblk X A' s_0 H_0 cenv fp) cp σ0 H' s' ∧ tn (i + 1) s'.heap ∧ ∀ b ∈ fp, H' b = none := fun {s' H'} I' => by
        have pin' : ∀ b ∈ fp, ∀ o, s2.heap.get? b = some o → s'.heap.get? b = some o ∧ H' b = none := fun b hb o e =>
          let z := I'.pin (b, o) (List.mem_append_right _ (List.mem_append_right _ (mem_pinsAt hb e)))
          ⟨z.1, z.2.1⟩
        refine ⟨(I'.unpinned (pins := cp)).weak hl (wipe_wipe_some hw3), T.keep _ _ _ st2 fun b hb o e => (pin' b hb o e).1, fun b hb => ?_⟩
        obtain ⟨o, e, _⟩ := T.obj _ _ st2 b hb
        exact (pin' b hb o e).2
      cases b with
      | false =>
        simp only [Bool.false_eq_true, if_false] at q4 ⊢
        obtain ⟨m', hm, w'⟩ := hNx a H4 q4
        obtain ⟨J1, J2, J3⟩ := fin I4
        exact seg_again rfl (ih m' hm n (i + 1) a H4 s₀ s4 cp (by omega) w' hac J1 J2 J3)
      | true =>
        simp only [if_true] at q4 ⊢
        have hy : ∀ v, yieldOut cenv v = yieldValue v := fun v => by simp only [yieldOut, hco, Bool.false_eq_true, if_false]
        simp only [hy]
        rw [Sem.bind_eq_wrap', Sem.bind_eq_wrap', Sem.wrap_wrap, Sem.wrap_wrap]
        refine seg_wrap ?_
        rw [hA]
        refine thnF (pe.run _ s4 σ3 H4 _ I4 q4) fun yv s5 ⟨y, H5, I5, r5, q5⟩ => ?_
        obtain ⟨J1, J2, J3⟩ := fin I5
        -- at least one more
        cases n with
        | zero => exact absurd hmn (Nat.not_lt_zero _)
        | succ n =>
          refine seg_at (seg_yield rfl rfl rfl ⟨a, y, σ0, H5, i + 1, cp, Nx, r5, hac, J1, J2, J3, q5, fun a' cp' s' nx hac' I' st' => ?_⟩)
          obtain ⟨m', hm, w'⟩ := hNx a' H5 nx
          exact seg_again rfl (ih m' hm n (i + 1) a' H5 s' s' cp' (by omega) w' hac' I' st' J3)
end
/-! ### a generator that is made -/
section
variable {X : Cx} {pins : List (Addr × Obj)} {σ : L2.St} {H : Hp} {s : Shared}
def GenObj (o : Obj) (g : Nat) : Prop := ∃ nm qn, o.cls = .type "generator" ∧ o.data = .fields #[.int g 0, nm, qn] ∧ o.slots = #[]
theorem GenObj.isGen {o : Obj} {g : Nat} (h : GenObj o g) {a : Addr} {hp : Heap} (e : hp.get? a = some o) : hp.IsGen a g := by
  obtain ⟨nm, qn, h1, h2, h3⟩ := h
  exact ⟨o, nm, qn, e, h1, h2, h3⟩
/-- the generator u, made and not begun, in the state s5 -/
def Gx (X : Cx) (pins : List (Addr × Obj)) (σ : L2.St) (A : Around) (J : It) (g : TG) (tt : TT) (te : TE) (vs : List Nat) (H4 : Hp) (u : Value) (s5 : Shared) : Prop :=
  ∃ (A' : Around) (s_0 : Shared) (H_0 : Hp) (cenv : Env) (fp : List Addr) (ga : Addr) (gn : Nat) (go : Obj) (tn : Nat → Heap → Prop) (gs : GenState),
    u = .ref ga ∧ GenObj go gn ∧ s5.gens[gn]? = some gs ∧ gs.bare = true ∧ Inv (gblk X A' s_0 H_0 cenv fp) [(ga, go)] (wipe σ vs) H4 s5 ∧ tn 0 s5.heap ∧ (∀ b ∈ fp, H4 b = none) ∧ (∀ b ∈ fp, b < ga) ∧
    (∀ i h h', tn i h → (∀ b ∈ fp, ∀ o, h.get? b = some o → h'.get? b = some o) → tn i h') ∧ (∀ cp σ' H' s', Inv (gblk X A' s_0 H_0 cenv fp) cp σ' H' s' → Inv X pins σ H' s') ∧
    ∀ (α : Type) (AC : α → List (Addr × Obj) → Prop) (End : α → Hp → Prop) (Yd : α → V → Hp → (α → Hp → Prop) → Prop) (W : Nat → Nat → α → Hp → Prop) (m n : Nat) (a : α) (cp : List (Addr × Obj)) (s' : Shared),
      tGx J g tt te (wipe σ vs) vs End Yd W → W 0 m a H4 → m < n → (∀ a cp, AC a cp → ∀ p ∈ cp, ∀ b ∈ fp, p.1 ≠ b) → AC a cp → Inv (gblk X A' s_0 H_0 cenv fp) cp (wipe σ vs) H4 s' → tn 0 s'.heap →
      gs.Goes (model X.prog X.w) A (RG (gblk X A' s_0 H_0 cenv fp) AC End) (YG (gblk X A' s_0 H_0 cenv fp) fp tn AC Yd) n (.send .none) s'
/-- what stands about an asker -/
structure Near (A B : Around) : Prop where
  hd : B.handled = A.handled
  fr : B.frames = A.frames
  gd : B.guards = A.guards
  dp : B.depth = A.depth
  un : B.units ≤ A.units + 8
theorem gx_make {c P : Addr} {elt tg iter : Expr} {ifs : List Expr} {gpos : Pos} {scope : Scope} {own : List (Str × Nat)} {wi : TI} {g : TG} {tt : TT} {te : TE} {k : Nat} {Q' : Value → Shared → Prop} {R : It → Hp → Prop} {A : Around}
    (hr : Room (k + 1) X.A) (near : Near X.A A) (hc : X.calm = true) (hN : X.N.Nodup) (TB : GxR.TabB X.base X.mg c P) (hcode : X.env.code = .ref c) (hco : scope.isCoroutine = false) (hdot : scope.names.lookup (".0" : Str) = some NameKind.local)
    (nocell : ∀ y ∈ scope.names, y.2 ≠ .cell) (ok : BlkOk X.N X.env.scope scope own) (hi : PI X tg iter wi)
    (hg : ∀ (A' : Around) (s : Shared) (H : Hp) (C : Addr) (cl : List (Str × Addr)) (code : Value) (fp : List Addr), Room k A' → A'.guards = X.A.guards → PG (gblk X A' s H (genEnv scope cl C code builtinsNs X.env) fp) tg g)
    (ht : ∀ (A' : Around) (s : Shared) (H : Hp) (C : Addr) (cl : List (Str × Addr)) (code : Value) (fp : List Addr), Room k A' → A'.guards = X.A.guards → PTs (gblk X A' s H (genEnv scope cl C code builtinsNs X.env) fp) ifs tt)
    (he : ∀ (A' : Around) (s : Shared) (H : Hp) (C : Addr) (cl : List (Str × Addr)) (code : Value) (fp : List Addr), Room k A' → A'.guards = X.A.guards → PE (gblk X A' s H (genEnv scope cl C code builtinsNs X.env) fp) elt te)
    (hs : ∀ v, genFold iter X.env v = pure v) (I : Inv X pins σ H s) (h : wi σ H fun J H1 => GxR.TabG H1 P ∧ R J H1)
    (hQ : ∀ J H1 H2 u s5, R J H1 → GxR.Tabbed P H1 H2 → Gx X pins σ A J g tt te (own.map (·.2)) H2 u s5 → Q' u s5) :
    wpAny (model X.prog X.w) X.A (eval (.GeneratorExp elt [⟨tg, iter, ifs, 0⟩] scope gpos) X.env) Q' X.xe s := by
  have hfree : ∀ y ∈ scope.names, y.2 = .free → ∃ c, X.env.cells.lookup y.1 = some c := fun y hy e => by
    rcases ok.free y hy e with k | k
    · exact I.ok.has _ (.inl k)
    · exact I.ok.has _ (.inr k)
  refine wpAny_GeneratorExp_make hco (closure_ok hfree) nocell hdot ok.kind (by have := hr.dp; omega) ?_ hs
  refine thn (hi.run pins s σ H _ I h) fun xv s1 hx => thn hx fun itv s2 h2 => ?_
  obtain ⟨it, fp, tn, J, H2, rfl, I2, T, st2, f2, ⟨ps, hP, ht3⟩, q⟩ := h2
  refine ⟨I2.nolimit, ?_⟩
  have hPs : s2.heap.get? P = some { cls := .none, data := .fields ps } := I2.hok P _ hP
  have cd : PySem.W.CodeHd s2.heap c P := TB.code.keeps fun b u e => I2.bk b u e
  have nP : ∀ b, H2 b = none → b ≠ P := fun b e z => by
    rw [z, hP] at e
    cases e
  have cont : ∀ (code : Value) (h3 : Heap) (tk : Nat) (ps' : Array Value), Heap.ExtBut P s2.heap h3 → s2.heap.objs.size ≤ h3.objs.size → h3.get? P = some { cls := .none, data := .fields ps' } → (∃ more, ps' = ps ++ more) → TriplesOk ps'.toList →
      wpAny (model X.prog X.w) X.A (builtinsFor X.env.globals X.env.builtins) (fun bi s₄ =>
        ∀ h', h'.Ns s₄.heap.objs.size (fun y => if y = ".0" then some (Value.ref it) else none) → Heap.SameBut s₄.heap.objs.size (s₄.heap.push { cls := .type "frame", data := .dict #[] }) h' →
          Q' (.ref h'.objs.size) { s₄ with
            gens := s₄.gens.push (.fresh (.compStart (.GeneratorExp elt [⟨tg, iter, ifs, 0⟩] scope gpos) 0 (.ref it) .none (genEnv scope (cloFrom X.env.cells scope.names []) s₄.heap.objs.size code bi X.env))),
            toks := s₄.toks + 1 + 1 + 1,
            heap := h'.push { cls := .type "generator", data := .fields #[.int s₄.gens.size 0, .str "<genexpr>" (s₄.toks + 1), .str (X.env.qual ++ "<genexpr>") (s₄.toks + 1 + 1)] } }) X.xe { s2 with heap := h3, toks := tk } := by
    rintro code h3 tk ps' hx hsz hP3 ⟨more, rfl⟩ ht4
    obtain ⟨bm, ob, e1, e2, e3, e4, e5, e6, e7, e8⟩ := TB.bm
    refine wpAny_builtinsFor (m := X.mg) (by rw [I2.ok.glob]; exact (I2.mod.glob.keeps I2.bk).extBut hx TB.gP) e1 e2 (hx _ _ e4 (I2.bk _ _ e5)) e6 e7 e8 ?_
    intro h' hns hsb
    have I3 : Inv X pins σ (upd H2 P (.tbl (ps ++ more))) { s2 with heap := h3, toks := tk } := GxR.inv_tab (g' := s2.gens) (d' := s2.drawn) I2 hP (fun b o hb e => hx b o hb e) hP3 I2.bare
    have lt2 : ∀ b ∈ fp, b < s2.heap.objs.size := fun b hb => by
      obtain ⟨o, e, _⟩ := T.obj _ _ st2 b hb
      exact Heap.lt_size e
    have f3 : ∀ b ∈ fp, FpOk X pins (upd H2 P (.tbl (ps ++ more))) b ∧ b < ({ s2 with heap := h3, toks := tk } : Shared).heap.objs.size := fun b hb => by
      refine ⟨⟨?_, (f2 b hb).2⟩, Nat.lt_of_lt_of_le (lt2 b hb) hsz⟩
      rw [upd_ne (nP b (f2 b hb).1)]
      exact (f2 b hb).1
    have st3 : tn 0 h3 := T.keep _ _ _ st2 fun b hb o e => hx b o (nP b (f2 b hb).1) e
    generalize hs4 : ({ s2 with heap := h3, toks := tk } : Shared) = s4 at I3 f3 hns hsb ⊢
    have h4 : s4.heap = h3 := by rw [← hs4]
    have hsz4 : h'.objs.size = s4.heap.objs.size + 1 := by rw [hsb.1, Heap.size_push]
    have keep' : ∀ b o, s4.heap.get? b = some o → h'.get? b = some o := fun b o e => hsb.extBut b o (Nat.ne_of_lt (Heap.lt_size e)) (Heap.get?_push_of_some _ e)
    generalize hgo : ({ cls := .type "generator", data := .fields #[.int s4.gens.size 0, .str "<genexpr>" (s4.toks + 1), .str (X.env.qual ++ "<genexpr>") (s4.toks + 1 + 1)] } : Obj) = go
    have hGO : GenObj go s4.gens.size := by rw [← hgo]; exact ⟨_, _, rfl, rfl, rfl⟩
    have k5 : ∀ b o, s4.heap.get? b = some o → (h'.push go).get? b = some o := fun b o e => Heap.get?_push_of_some _ (keep' b o e)
    have pg := fun A' => hg A' s4 (upd H2 P (.tbl (ps ++ more))) s4.heap.objs.size (cloFrom X.env.cells scope.names []) code fp
    have pt := fun A' => ht A' s4 (upd H2 P (.tbl (ps ++ more))) s4.heap.objs.size (cloFrom X.env.cells scope.names []) code fp
    have pe := fun A' => he A' s4 (upd H2 P (.tbl (ps ++ more))) s4.heap.objs.size (cloFrom X.env.cells scope.names []) code fp
    generalize hce : genEnv scope (cloFrom X.env.cells scope.names []) s4.heap.objs.size code builtinsNs X.env = cenv at pg pt pe ⊢
    have hscn : cenv.scope = scope := by rw [← hce]; rfl
    generalize hA' : A.over (.compLoop (.GeneratorExp elt [⟨tg, iter, ifs, 0⟩] scope gpos) 0 (.ref it) .none cenv) [] = A'
    have hfrA : A'.frames = some (cenv :: X.stack) := by
      rw [← hA']
      show pushEnvs [cenv] A.frames = _
      rw [near.fr, I2.ok.frames]
      rfl
    have hhd : A'.handled = none := by
      rw [← hA']
      show A.handled = none
      rw [near.hd]
      exact hr.hd
    have rm : Room k A' := by
      refine ⟨hhd, ?_, ?_⟩
      · have := hr.dp
        have := near.dp
        rw [← hA']
        show A.depth + 0 + 1 + 3 * k + 5 < _
        omega
      · have := hr.un
        have := near.un
        rw [← hA']
        show A.units + 0 + 3 + 16 * k + 200 < _
        omega
    have gdA : A'.guards = X.A.guards := by
      rw [← hA']
      show pushGuards [] A.guards = _
      rw [near.gd]
      rfl
    have I5 : Inv (gblk X A' s4 (upd H2 P (.tbl (ps ++ more))) cenv fp) [(h'.objs.size, go)] (wipe σ (own.map (·.2))) (upd H2 P (.tbl (ps ++ more)))
        { s4 with gens := s4.gens.push (.fresh (.compStart (.GeneratorExp elt [⟨tg, iter, ifs, 0⟩] scope gpos) 0 (.ref it) .none cenv)), toks := s4.toks + 1 + 1 + 1, heap := h'.push go } := by
      subst hce
      refine gen_start (it := .ref it) I3 ok nocell hN f3 hhd hfrA rfl (I3.bare.push rfl) k5 (hns.push _) fun p hp => ?_
      have e : p = (h'.objs.size, go) := by simpa using hp
      subst e
      refine ⟨by show s4.heap.objs.size < h'.objs.size; omega, Heap.get?_push_size _ (by rw [← hgo]; rfl), fun v z => ?_⟩
      rw [← hgo] at z
      cases z
    refine hQ J H2 _ _ _ q ⟨⟨_, upd_same, ht4⟩, fun b hb => upd_ne hb⟩ ⟨A', s4, _, cenv, fp, h'.objs.size, s4.gens.size, go, tn, _, rfl, hGO, Array.getElem?_push_size .., rfl, I5, ?_, fun b hb => (f3 b hb).1.1, fun b hb => ?_, T.keep, fun cp σ' H' s' I' => ?_, ?_⟩
    · exact T.keep _ _ _ st3 fun b _ o e => k5 b o (by rw [h4]; exact e)
    · have := (f3 b hb).2
      rw [hsz4]
      exact Nat.lt_succ_of_lt this
    · exact I3.call' (ch := fp) I'.os I'.base I'.hok I'.bare fun b hb => ⟨(f3 b hb).1.2.2.2.1, (f3 b hb).1.2.1, (f3 b hb).1.2.2.2.2.1, (f3 b hb).1.2.2.2.2.2⟩
    · intro α AC End Yd W m n a cp s' turn w hmn hAC hac I' st'
      refine ⟨rfl, ?_⟩
      have loop := seg_gx (A := A) (pos := gpos) (iter := iter) (scope := scope) hA' hc (by rw [hscn]; exact hco) T (pg A' rm gdA) (pt A' rm gdA) (pe A' rm gdA) hAC turn m n 0 a _ s' s' cp hmn w hac I' st' fun b hb => (f3 b hb).1.1
      show Seg _ A _ _ _ s' _ ((compStart (.GeneratorExp elt [⟨tg, iter, ifs, 0⟩] scope gpos) 0 (.ref it) .none cenv).onRaise (leaving cenv)) [] s'
      unfold compStart
      rw [Sem.onRaise_eq_wrap]
      show Seg _ A _ _ _ s' _ ((ask >>= _).wrap _ _ _ _) [] s'
      refine seg_bind_wrap (wpAny_askSetting ?_)
      split
      · exact seg_again rfl loop
      · first
          | exact seg_bind_wrap (wpAny_rule (seg_bind_wrap (wpAny_standAt (seg_bind_wrap (T.self _ 0 s' _ _ st' (seg_again rfl loop))))))
          | (refine seg_bind_wrap (wpAny_rule ?_); show Seg _ A _ _ _ s' _ ((standAt iter.pos >>= _).wrap _ _ _ _) [] s'; exact seg_bind_wrap (wpAny_standAt (seg_bind_wrap (T.self _ 0 s' _ _ st' (seg_again rfl loop)))))
  cases hf : codeAmong gpos ps.toList with
  | none =>
    refine wpAny_genexprCodeX hcode (cd.code hPs ht3) (cd.tab hPs) hf fun c' h' tk hx hge hlt hco' _ htab' _ => ?_
    obtain ⟨o1, vs, f1, tf, fl, tg, inF, tx, tt, op, _, _, _, _, _, _, _, _, _, htr, _⟩ := hco'
    exact cont _ h' tk _ hx (Nat.le_trans hge (Nat.le_of_lt hlt)) htab'.2 ⟨_, rfl⟩ htr
  | some cv =>
    refine wpAny_genexprCode_hit hcode (cd.code hPs ht3) hf ?_
    exact cont cv s2.heap s2.toks ps (Heap.ExtBut.refl _ _) (Nat.le_refl _) hPs ⟨#[], by simp⟩ ht3
end
/-! ### asking -/
section
variable {α : Type} {X : Cx} {A A' : Around} {s_0 : Shared} {H_0 : Hp} {cenv : Env} {fp : List Addr} {tn : Nat → Heap → Prop} {AC : α → List (Addr × Obj) → Prop} {End : α → Hp → Prop} {Yd : α → V → Hp → (α → Hp → Prop) → Prop} {ga : Addr} {gn n : Nat} {go : Obj}
theorem next_gx {gs : GenState} {s : Shared} {Q : Option Value → Shared → Prop} {E : Value → Shared → Prop} (hh : A.handled = none) (hroom : A.depth < recursionLimit) (hl : s.heap.NoLimit) (hG : GenObj go gn) (e : s.heap.get? ga = some go) (hgs : s.gens[gn]? = some gs)
    (hgo : gs.Goes (model X.prog X.w) A.in1 (RG (gblk X A' s_0 H_0 cenv fp) AC End) (YG (gblk X A' s_0 H_0 cenv fp) fp tn AC Yd) n (.send .none) (s.setGen gn .running))
    (item : ∀ (a : α) (x : V) (σ : L2.St) (H : Hp) (i : Nat) (cp : List (Addr × Obj)) (Nx : α → Hp → Prop) (v : Value) (s1 : Shared) (gs' : GenState), RelV x v → AC a cp → Inv (gblk X A' s_0 H_0 cenv fp) cp σ H s1 → tn i s1.heap → Yd a x H Nx → s1.gens[gn]? = some gs' →
      (∀ a' cp' s', Nx a' H → AC a' cp' → Inv (gblk X A' s_0 H_0 cenv fp) cp' σ H s' → tn i s'.heap → ∃ m, n = m + 1 ∧ gs'.Goes (model X.prog X.w) A.in1 (RG (gblk X A' s_0 H_0 cenv fp) AC End) (YG (gblk X A' s_0 H_0 cenv fp) fp tn AC Yd) m (.send .none) s') → Q (some v) s1)
    (done : ∀ (a : α) (σ : L2.St) (H : Hp) (cp : List (Addr × Obj)) (s1 : Shared), AC a cp → Inv (gblk X A' s_0 H_0 cenv fp) cp σ H s1 → End a H → Q none s1) :
    wpAny (model X.prog X.w) A (pyNext (.ref ga)) Q E s := by
  have hgl : gn < s.gens.size := (Array.getElem?_eq_some_iff.mp hgs).1
  refine GenW.wpAny_gsz (n := gn + 1) hgl (next_genG (Er := fun _ _ => False) hh hl hroom (hG.isGen e) hgs hgo (fun v s₁ gs' hbare hv => ?_) (fun s₁ hp h' hk => ?_) fun e s₁ he => he.elim)
  · intro hsz
    obtain ⟨a, x, σ, H, i, cp, Nx, r, hac, I, st, nf, hy, kap⟩ := hv
    have hsz1 : gn < s₁.gens.size := by
      have q : (s₁.setGen gn gs').gens.size = s₁.gens.size := GenW.setGen_size _ _ _
      have hsz' : gn + 1 ≤ (s₁.setGen gn gs').gens.size := hsz
      omega
    refine item a x σ H i cp Nx v (s₁.setGen gn gs') gs' r hac (inv_moved I rfl (allBare_setGen I.bare hbare) fun _ _ q => q) st hy (setGen_at hsz1) fun a' cp' s' nx hac' I' st' => ?_
    have z := kap a' cp' s' nx hac' I' st'
    cases n with
    | zero => exact z.elim
    | succ m => exact ⟨m, rfl, z⟩
  · intro _
    obtain ⟨a, σ, H, cp, hac, I, q⟩ := hp
    exact done a σ H cp _ hac (inv_moved I rfl (allBare_setGen I.bare rfl) hk) q
/-- all(..) asks on -/
theorem all_gx {R : Result → Shared → Prop} {Stop : Hp → Prop} {End : Unit → Hp → Prop} (hh : A.handled = none) (hroom : A.depth < recursionLimit) (hG : GenObj go gn)
    (yes : ∀ (σ : L2.St) (H : Hp) (cp : List (Addr × Obj)) (s1 : Shared), Inv (gblk X A' s_0 H_0 cenv fp) cp σ H s1 → End () H → R (.ok (.ret (.bool true))) s1)
    (no : ∀ (σ : L2.St) (H : Hp) (cp : List (Addr × Obj)) (s1 : Shared), Inv (gblk X A' s_0 H_0 cenv fp) cp σ H s1 → Stop H → R (.ok (.ret (.bool false))) s1) :
    ∀ (n : Nat) (s : Shared), s.heap.NoLimit → s.heap.get? ga = some go → (∃ gs, s.gens[gn]? = some gs ∧ gs.Goes (model X.prog X.w) A.in1.in1 (RG (gblk X A' s_0 H_0 cenv fp) (fun _ cp => cp = [(ga, go)]) End)
      (YG (gblk X A' s_0 H_0 cenv fp) fp tn (fun _ cp => cp = [(ga, go)]) (fun _ y H Nx => ∃ b : Bool, y = .bl b ∧ if b = true then Nx () H else Stop H)) n (.send .none) (s.setGen gn .running)) →
      codeAny (model X.prog X.w) A (.builtin "all.loop" ⟨[.ref ga], []⟩) R s := by
  intro n
  induction n with
  | zero =>
    rintro s hl e ⟨gs, hgs, hgo⟩
    refine codeAny_builtin F.entry_all_loop ?_
    rw [Around.under_plainId F.plain_all_loop _]
    show wpAny _ A.in1 (pyNext (.ref ga) >>= _) _ _ s
    refine wpAny_bind (next_gx (A := A.in1) hh hroom hl hG e hgs hgo (fun a x σ H i cp Nx v s1 gs' r hac I st hy at_ kap => ?_) fun a σ H cp s1 hac I q => ?_)
    · obtain ⟨b, rfl, hb⟩ := hy
      cases (show v = Value.bool b from r)
      refine wpAny_bind (wpAny_holding (wpAny_truthy_bool ?_))
      refine wpAny_bind (wpAny_letGo ?_)
      cases b with
      | true =>
        obtain ⟨m, hm, _⟩ := kap () cp s1 hb hac I st
        cases hm
      | false =>
        simp only [Bool.false_eq_true, if_false] at hb ⊢
        exact wpAny_bind (wpAny_rule (wpAny_pure (no σ H cp s1 I hb)))
    · exact wpAny_bind (wpAny_rule (wpAny_pure (yes σ H cp s1 I q)))
  | succ n ih =>
    rintro s hl e ⟨gs, hgs, hgo⟩
    refine codeAny_builtin F.entry_all_loop ?_
    rw [Around.under_plainId F.plain_all_loop _]
    show wpAny _ A.in1 (pyNext (.ref ga) >>= _) _ _ s
    refine wpAny_bind (next_gx (A := A.in1) hh hroom hl hG e hgs hgo (fun a x σ H i cp Nx v s1 gs' r hac I st hy at_ kap => ?_) fun a σ H cp s1 hac I q => ?_)
    · obtain ⟨b, rfl, hb⟩ := hy
      cases (show v = Value.bool b from r)
      refine wpAny_bind (wpAny_holding (wpAny_truthy_bool ?_))
      refine wpAny_bind (wpAny_letGo ?_)
      cases b with
      | true =>
        simp only [if_true] at hb ⊢
        subst hac
        refine wpAny_pure ⟨plainId_quiet F.plain_all_loop _, ih s1 I.nolimit (I.pin (ga, go) (List.mem_append_right _ List.mem_cons_self)).1 ⟨gs', at_, ?_⟩⟩
        obtain ⟨m, hm, z⟩ := kap () [(ga, go)] (s1.setGen gn .running) hb rfl (inv_moved I rfl (allBare_setGen I.bare rfl) fun _ _ q => q) st
        cases hm
        exact z
      | false =>
        simp only [Bool.false_eq_true, if_false] at hb ⊢
        exact wpAny_bind (wpAny_rule (wpAny_pure (no σ H cp s1 I hb)))
    · exact wpAny_bind (wpAny_rule (wpAny_pure (yes σ H cp s1 I q)))
end
section
variable {X : Cx}
/-- all(elt for tg in iter ..) -/
def tAllX (P : Addr) (wi : TI) (g : TG) (tt : TT) (te : TE) (vs : List Nat) : TE := fun σ H Q => wi σ H fun J H1 => GxR.TabG H1 P ∧ ∀ H2, GxR.Tabbed P H1 H2 → ∃ W : Nat → Nat → Unit → Hp → Prop, (∃ m, W 0 m () H2) ∧
  tGx J g tt te (wipe σ vs) vs (fun _ H => Q (.bl true) H) (fun _ y H Nx => ∃ b : Bool, y = .bl b ∧ if b = true then Nx () H else Q (.bl false) H) W
theorem pe_allX {c P : Addr} {elt tg iter : Expr} {ifs : List Expr} {p pos gpos : Pos} {scope : Scope} {own : List (Str × Nat)} {wi : TI} {g : TG} {tt : TT} {te : TE} {k : Nat}
    (hr : Room (k + 1) X.A) (hc : X.calm = true) (hN : X.N.Nodup) (hgl : Gl X "all") (hm : X.mg "all" = none) (hb : bootBuiltins "all" = some (.builtin "all")) (TB : GxR.TabB X.base X.mg c P) (hcode : X.env.code = .ref c)
    (hco : scope.isCoroutine = false) (hdot : scope.names.lookup (".0" : Str) = some NameKind.local) (nocell : ∀ y ∈ scope.names, y.2 ≠ .cell) (ok : BlkOk X.N X.env.scope scope own) (hi : PI X tg iter wi)
    (hg : ∀ (A' : Around) (s : Shared) (H : Hp) (C : Addr) (cl : List (Str × Addr)) (code : Value) (fp : List Addr), Room k A' → A'.guards = X.A.guards → PG (gblk X A' s H (genEnv scope cl C code builtinsNs X.env) fp) tg g)
    (ht : ∀ (A' : Around) (s : Shared) (H : Hp) (C : Addr) (cl : List (Str × Addr)) (code : Value) (fp : List Addr), Room k A' → A'.guards = X.A.guards → PTs (gblk X A' s H (genEnv scope cl C code builtinsNs X.env) fp) ifs tt)
    (he : ∀ (A' : Around) (s : Shared) (H : Hp) (C : Addr) (cl : List (Str × Addr)) (code : Value) (fp : List Addr), Room k A' → A'.guards = X.A.guards → PE (gblk X A' s H (genEnv scope cl C code builtinsNs X.env) fp) elt te)
    (hs : ∀ v, genFold iter X.env v = pure v)
    (hst : starEach [.GeneratorExp elt [⟨tg, iter, ifs, 0⟩] scope gpos] X.env = (false, eval (.GeneratorExp elt [⟨tg, iter, ifs, 0⟩] scope gpos) X.env) :: starEach [] X.env := by rfl) :
    PE X (.Call (.Name "all" p) [.GeneratorExp elt [⟨tg, iter, ifs, 0⟩] scope gpos] [] pos) (tAllX P wi g tt te (own.map (·.2))) := by
  refine ⟨fun pins s σ H Q I h => ?_⟩
  refine wpAny_Call_Name_kw (ld_blt I hgl hm hb ?_)
  refine PyProof.Rows.callWith_builtin1 ?_ hst (by rfl)
  rw [hst]
  show wpAny _ _ (spliced ((false, eval (.GeneratorExp elt [⟨tg, iter, ifs, 0⟩] scope gpos) X.env) :: backTo pos (starEach [] X.env))) _ _ s
  refine Calls.spliced_cons (gx_make (A := X.A.in1.in1) hr ⟨rfl, rfl, rfl, rfl, (by show X.A.units + 1 + 1 ≤ _; omega)⟩ hc hN TB hcode hco hdot nocell ok hi hg ht he hs I h fun J H1 H2 u s5 hR hT hG => ?_)
  obtain ⟨A', s_0, H_0, cenv, fp, ga, gn, go, tn, gs, rfl, hGO, hgs, hbare, I5, st5, nf, hlt, keep, back, goes⟩ := hG
  obtain ⟨W, ⟨m, w0⟩, turn⟩ := hR H2 hT
  refine Calls.spliced_nil ?_
  have pin5 := (I5.pin (ga, go) (List.mem_append_right _ List.mem_cons_self)).1
  refine call_function_tree F.kind_all F.plain_all F.entry_all (F.args_all1 _) ?_
  unfold Builtin.«all»
  refine wpAny_bind (m := oneArg "all" _) (wpAny_pure ?_)
  refine wpAny_bind (wpAny_pyIter_gen (hGO.isGen pin5) ?_)
  refine wpAny_pure ⟨plainId_quiet F.plain_all_loop _, all_gx (A' := A') (s_0 := s_0) (H_0 := H_0) (cenv := cenv) (fp := fp) (tn := tn) (go := go) (gn := gn) (Stop := fun H => Q (.bl false) H) (End := fun _ H => Q (.bl true) H) hr.hd hr.depth hGO
    (fun σ' H' cp s1 I1 q => ⟨.bl true, H', back _ _ _ _ I1, rfl, q⟩) (fun σ' H' cp s1 I1 q => ⟨.bl false, H', back _ _ _ _ I1, rfl, q⟩) (m + 1) s5 I5.nolimit pin5 ⟨gs, hgs, ?_⟩⟩
  refine goes Unit _ _ _ W m (m + 1) () [(ga, go)] _ turn w0 (Nat.lt_succ_self _) (fun a cp hac p hp b hb z => ?_) rfl (inv_moved I5 rfl (allBare_setGen I5.bare rfl) fun _ _ q => q) st5
  subst hac
  have e : p = (ga, go) := by simpa using hp
  subst e
  exact absurd (hlt b hb) (by rw [← z]; exact Nat.lt_irrefl _)
end
/-! ### tuple(..) -/
section
variable {X : Cx} {A A' : Around} {s_0 : Shared} {H_0 : Hp} {cenv : Env} {fp : List Addr} {tn : Nat → Heap → Prop} {ga S : Addr} {gn n : Nat} {go : Obj}
/-- the asker's list S holds what is out -/
def ACl (ga : Addr) (go : Obj) (S : Addr) (ys : List V) (cp : List (Addr × Obj)) : Prop := ∃ (acc : Array Value) (c : Nat), cp = [(ga, go), (S, lstObj acc c)] ∧ Vals ys acc.toList
def YdL (ys : List V) (y : V) (H : Hp) (Nx : List V → Hp → Prop) : Prop := ys.length < sizeLine ∧ Nx (ys ++ [y]) H
theorem ext_gx {R : Result → Shared → Prop} {End : List V → Hp → Prop} {res : Value} (hh : A.handled = none) (hroom : A.depth < recursionLimit) (hG : GenObj go gn) (hSa : S ≠ ga) (far : (gblk X A' s_0 H_0 cenv fp).s_0.heap.objs.size ≤ S) (hSc : ∀ x c, cenv.cells.lookup x = some c → c ≠ S)
    (keep : ∀ i h h', tn i h → (∀ b ∈ fp, ∀ o, h.get? b = some o → h'.get? b = some o) → tn i h') (hSf : ∀ b ∈ fp, b ≠ S)
    (yes : ∀ (σ : L2.St) (H : Hp) (ys : List V) (acc : Array Value) (c : Nat) (s1 : Shared), Inv (gblk X A' s_0 H_0 cenv fp) [(ga, go), (S, lstObj acc c)] σ H s1 → Vals ys acc.toList → End ys H → R (.ok (.ret res)) s1) :
    ∀ (n : Nat) (s : Shared), s.heap.NoLimit → s.heap.get? ga = some go → (∃ gs, s.gens[gn]? = some gs ∧ gs.Goes (model X.prog X.w) A.in1.in1 (RG (gblk X A' s_0 H_0 cenv fp) (ACl ga go S) End)
      (YG (gblk X A' s_0 H_0 cenv fp) fp tn (ACl ga go S) YdL) n (.send .none) (s.setGen gn .running)) →
      codeAny (model X.prog X.w) A (.builtin "list.extend.loop" ⟨[.ref S, .ref ga, res], []⟩) R s := by
  intro n
  induction n with
  | zero =>
    rintro s hl e ⟨gs, hgs, hgo⟩
    refine codeAny_builtin F.entry_extend_loop ?_
    rw [Around.under_plainId F.plain_extend_loop _]
    show wpAny _ A.in1 (pyNext (.ref ga) >>= _) _ _ s
    refine wpAny_bind (next_gx (A := A.in1) hh hroom hl hG e hgs hgo (fun ys x σ H i cp Nx v s1 gs' r hac I st hy at_ kap => ?_) fun ys σ H cp s1 hac I q => ?_)
    · obtain ⟨acc, c, rfl, rv⟩ := hac
      have pS := I.pin (S, lstObj acc c) (List.mem_append_right _ (List.mem_cons_of_mem _ List.mem_cons_self))
      have I0 : Inv (gblk X A' s_0 H_0 cenv fp) [(ga, go)] σ H s1 := I.pins_of fun p hp => I.pin p (List.mem_append_right _ (by rw [List.mem_singleton.mp hp]; exact List.mem_cons_self))
      have I1 := I0.turned (t' := s1.toks) (h' := s1.heap.update S (Obj.mapSeq (·.push v))) (it := S) (fun b o hb q => (Heap.get?_update_other _ _ (Ne.symm hb)).trans q) pS.2.1 pS.2.2.1 (.inr far) hSc (fun p hp => by rw [List.mem_singleton.mp (show p ∈ [(ga, go)] by simpa using hp)]; exact Ne.symm hSa)
      have e2 := Heap.get?_update_self (Obj.mapSeq (·.push v)) pS.1 rfl
      obtain ⟨m, hm, _⟩ := kap (ys ++ [x]) [(ga, go), (S, _)] _ hy.2 ⟨acc.push v, _, rfl, by rw [Array.toList_push]; exact rv.append (.cons r .nil)⟩ (I1.pins_of fun p hp => by
        rcases List.mem_cons.mp hp with z | z
        · rw [z]; exact I1.pin (ga, go) (List.mem_append_right _ List.mem_cons_self)
        · rw [List.mem_singleton.mp z]; exact ⟨e2, pS.2.1, pS.2.2.1, pS.2.2.2.1, fun v q => by cases q⟩) (keep _ _ _ st fun b hb o q => (Heap.get?_update_other _ _ (Ne.symm (hSf b hb))).trans q)
      cases hm
    · obtain ⟨acc, c, rfl, rv⟩ := hac
      exact wpAny_pure (yes σ H ys acc c s1 I rv q)
  | succ n ih =>
    rintro s hl e ⟨gs, hgs, hgo⟩
    refine codeAny_builtin F.entry_extend_loop ?_
    rw [Around.under_plainId F.plain_extend_loop _]
    show wpAny _ A.in1 (pyNext (.ref ga) >>= _) _ _ s
    refine wpAny_bind (next_gx (A := A.in1) hh hroom hl hG e hgs hgo (fun ys x σ H i cp Nx v s1 gs' r hac I st hy at_ kap => ?_) fun ys σ H cp s1 hac I q => ?_)
    · obtain ⟨acc, c, rfl, rv⟩ := hac
      have pS := I.pin (S, lstObj acc c) (List.mem_append_right _ (List.mem_cons_of_mem _ List.mem_cons_self))
      have I0 : Inv (gblk X A' s_0 H_0 cenv fp) [(ga, go)] σ H s1 := I.pins_of fun p hp => I.pin p (List.mem_append_right _ (by rw [List.mem_singleton.mp hp]; exact List.mem_cons_self))
      have I1 := I0.turned (t' := s1.toks) (h' := s1.heap.update S (Obj.mapSeq (·.push v))) (it := S) (fun b o hb q => (Heap.get?_update_other _ _ (Ne.symm hb)).trans q) pS.2.1 pS.2.2.1 (.inr far) hSc (fun p hp => by rw [List.mem_singleton.mp (show p ∈ [(ga, go)] by simpa using hp)]; exact Ne.symm hSa)
      have e2 := Heap.get?_update_self (Obj.mapSeq (·.push v)) pS.1 rfl
      have hln := rv.length
      have hlt : acc.size < sizeLine := by
        have := hy.1
        rw [hln] at this
        simpa using this
      have pG := I1.pin (ga, go) (List.mem_append_right _ List.mem_cons_self)
      show wpAny _ A.in1 (updateSeq S (·.push v) >>= _) _ _ _
      refine wpAny_bind ?_
      refine wpAny_updateSeq pS.1 rfl (wpAny_pure ⟨plainId_quiet F.plain_extend_loop _, ih _ I1.nolimit pG.1 ⟨gs', at_, ?_⟩⟩) (Nat.le_of_lt hlt) (by show (acc.push v).size ≤ sizeLine + 1; rw [Array.size_push]; omega)
      obtain ⟨m, hm, z⟩ := kap (ys ++ [x]) [(ga, go), (S, _)] (({ s1 with heap := s1.heap.update S (Obj.mapSeq (·.push v)) } : Shared).setGen gn .running) hy.2 ⟨acc.push v, _, rfl, by rw [Array.toList_push]; exact rv.append (.cons r .nil)⟩ (inv_moved (I1.pins_of fun p hp => by
        rcases List.mem_cons.mp hp with z | z
        · rw [z]; exact pG
        · rw [List.mem_singleton.mp z]; exact ⟨e2, pS.2.1, pS.2.2.1, pS.2.2.2.1, fun v q => by cases q⟩) rfl (allBare_setGen (s := { s1 with heap := s1.heap.update S (Obj.mapSeq (·.push v)) }) I1.bare rfl) fun _ _ q => q) (keep _ _ _ st fun b hb o q => (Heap.get?_update_other _ _ (Ne.symm (hSf b hb))).trans q)
      cases hm
      exact z
    · obtain ⟨acc, c, rfl, rv⟩ := hac
      exact wpAny_pure (yes σ H ys acc c s1 I rv q)
end
section
variable {X : Cx} {pins : List (Addr × Obj)} {σ : L2.St} {s5 : Shared} {J : It} {g : TG} {tt : TT} {te : TE} {vs : List Nat} {H4 : Hp} {u : Value}
/-- all that a generator hands out, in a list of the asker's own -/
theorem collect_gx {A : Around} {E : Value → Shared → Prop} {Q : List Value → Shared → Prop} {End : List V → Hp → Prop} {W : Nat → Nat → List V → Hp → Prop} {m : Nat} (hh : A.handled = none) (hroom : A.depth < recursionLimit) (G : Gx X pins σ A.in1.in1 J g tt te vs H4 u s5)
    (w0 : W 0 m [] H4) (turn : tGx J g tt te (wipe σ vs) vs End YdL W)
    (hQ : ∀ (s' : Shared) (acc : Array Value) (ys : List V) (H' : Hp), Inv X pins σ H' s' → Vals ys acc.toList → End ys H' → Q acc.toList s') : wpAny (model X.prog X.w) A (collect u) Q E s5 := by
  obtain ⟨A', s_0, H_0, cenv, fp, ga, gn, go, tn, gs, rfl, hGO, hgs, hbare, I5, st5, nf, hlt, keep, back, goes⟩ := G
  have pin5 := I5.pin (ga, go) (List.mem_append_right _ List.mem_cons_self)
  have glt : ga < s5.heap.objs.size := Heap.lt_size pin5.1
  have hSI : s5.heap.objs.size ≠ ga := Nat.ne_of_gt glt
  unfold collect
  refine wpAny_bind (wpAny_runValue (codeAny_builtin F.entry_proto_collect ?_))
  rw [Around.under_plainId F.plain_proto_collect _]
  show wpAny _ A.in1 (newList [] >>= fun l => again (.builtin "list.__iadd__" ⟨[l, .ref ga], []⟩)) _ _ s5
  refine wpAny_bind (wpAny_newObj_type ?_)
  refine wpAny_pure ⟨plainId_quiet F.plain_list_iadd _, codeAny_builtin F.entry_list_iadd ?_⟩
  rw [Around.under_plainId F.plain_list_iadd _]
  show wpAny _ A.in1 (Builtin.List.listExtendWith (.ref s5.heap.objs.size) (.ref ga) (.ref s5.heap.objs.size)) _ _ _
  unfold Builtin.List.listExtendWith
  have k1 : ∀ b o, s5.heap.get? b = some o → (s5.heap.push { cls := .type "list", data := .seq ([] : List Value).toArray }).get? b = some o := fun b o e => Heap.get?_push_of_some _ e
  have hT : Shared.TypeIs { s5 with heap := s5.heap.push { cls := .type "list", data := .seq ([] : List Value).toArray } } (.ref ga) "generator" := Heap.IsGen.typeIs (s := { s5 with heap := _ }) (hGO.isGen (k1 _ _ pin5.1))
  refine wpAny_bind (wpAny_typeOf hT ?_)
  have h1 : Builtin.List.listSameRef (.ref s5.heap.objs.size) (.ref ga) = false := by simp [Builtin.List.listSameRef, hSI]
  have h2 : (Value.type "generator" == Value.type "list") = false := by decide
  have h3 : (Value.type "generator" == Value.type "tuple") = false := by decide
  simp only [h1, h2, h3, Bool.or_false, Bool.false_eq_true, if_false]
  refine wpAny_bind (wpAny_pyIter_gen (s := { s5 with heap := _ }) (hGO.isGen (k1 _ _ pin5.1)) ?_)
  refine wpAny_bind (wpAny_holding ?_)
  unfold Builtin.List.listLengthHint
  refine wpAny_bind (wpAny_specialOf hT F.gen_no_len ?_)
  show wpAny _ A.in1 (specialOf (Value.ref ga) (Str.ofString "__length_hint__") >>= _) _ _ _
  refine wpAny_bind (wpAny_specialOf hT F.gen_no_hint ?_)
  refine wpAny_pure ?_
  show wpAny _ A.in1 (rule "list.extend.makes-room" >>= fun _ => Builtin.List.listTouch (.ref s5.heap.objs.size) >>= fun _ =>
    again (.builtin "list.extend.loop" ⟨[.ref s5.heap.objs.size, .ref ga, .ref s5.heap.objs.size], []⟩)) _ _ _
  refine wpAny_bind (wpAny_rule ?_)
  have hS₁ : (s5.heap.push { cls := .type "list", data := .seq ([] : List Value).toArray }).get? s5.heap.objs.size = some { cls := .type "list", data := .seq ([] : List Value).toArray } := Heap.get?_push_size _ rfl
  refine wpAny_bind ?_
  show wpAny _ A.in1 (updateSeq s5.heap.objs.size (·.push .none) >>= fun _ => updateSeq s5.heap.objs.size (·.pop)) _ _ _
  refine wpAny_bind (wpAny_updateSeq hS₁ rfl ?_)
  have hS₂ := Heap.get?_update_self (Obj.mapSeq (·.push Value.none)) hS₁ rfl
  refine wpAny_updateSeq hS₂ rfl ?_
  have hS₃ := Heap.get?_update_self (Obj.mapSeq (·.pop)) hS₂ rfl
  obtain ⟨c3, hS₄⟩ : ∃ c, (((s5.heap.push { cls := .type "list", data := .seq ([] : List Value).toArray }).update s5.heap.objs.size (Obj.mapSeq (·.push Value.none))).update s5.heap.objs.size (Obj.mapSeq (·.pop))).get? s5.heap.objs.size = some (lstObj #[] c) := ⟨_, hS₃⟩
  have k3 : ∀ b o, s5.heap.get? b = some o → (((s5.heap.push { cls := .type "list", data := .seq ([] : List Value).toArray }).update s5.heap.objs.size (Obj.mapSeq (·.push Value.none))).update s5.heap.objs.size (Obj.mapSeq (·.pop))).get? b = some o :=
    fun b o e => (Heap.get?_update_other _ _ (Ne.symm (Nat.ne_of_lt (Heap.lt_size e)))).trans ((Heap.get?_update_other _ _ (Ne.symm (Nat.ne_of_lt (Heap.lt_size e)))).trans (k1 b o e))
  have fS : FpOk (gblk X A' s_0 H_0 cenv fp) [(ga, go)] H4 s5.heap.objs.size := I5.fpOk (Nat.le_refl _) (I5.hok.fresh (Nat.le_refl _))
  have hfS : ∀ b ∈ fp, b ≠ s5.heap.objs.size := fun b hb => Nat.ne_of_lt (Nat.lt_trans (hlt b hb) glt)
  have I6 := inv_moved (s' := { s5 with heap := ((s5.heap.push { cls := .type "list", data := .seq ([] : List Value).toArray }).update s5.heap.objs.size (Obj.mapSeq (·.push Value.none))).update s5.heap.objs.size (Obj.mapSeq (·.pop)) }) I5 rfl I5.bare k3
  refine wpAny_pure ⟨plainId_quiet F.plain_extend_loop _, ext_gx (A := A) (A' := A') (s_0 := s_0) (H_0 := H_0) (cenv := cenv) (fp := fp) (tn := tn) (go := go) (gn := gn) (End := End) hh hroom hGO hSI ?_ fS.2.2.2.2.1 keep hfS
    (fun σ' H' ys acc c s1 I1 rv q => ?_) (m + 1) _ I6.nolimit (k3 _ _ pin5.1) ⟨gs, hgs, ?_⟩⟩
  · exact Nat.le_trans I5.sz (Nat.le_refl _)
  · show wpAny _ A (load s5.heap.objs.size >>= _) _ _ s1
    have pS := (I1.pin (s5.heap.objs.size, lstObj acc c) (List.mem_append_right _ (List.mem_cons_of_mem _ List.mem_cons_self))).1
    refine wpAny_bind (wpAny_load pS ?_)
    exact wpAny_pure (hQ s1 acc ys H' (back _ _ _ _ I1) rv q)
  · refine goes (List V) (ACl ga go s5.heap.objs.size) End YdL W m (m + 1) [] [(ga, go), (s5.heap.objs.size, lstObj #[] c3)] _ turn w0 (Nat.lt_succ_self _) (fun ys cp hac p hp b hb z => ?_) ⟨#[], c3, rfl, .nil⟩
      (inv_moved (I6.pins_of fun p hp => ?_) rfl (allBare_setGen (s := { s5 with heap := _ }) I5.bare rfl) fun _ _ q => q) (keep _ _ _ st5 fun b hb o q => k3 b o q)
    · obtain ⟨acc, c, rfl, _⟩ := hac
      rcases List.mem_cons.mp hp with e | e
      · rw [e] at z
        exact absurd (hlt b hb) (by rw [← z]; exact Nat.lt_irrefl _)
      · rw [List.mem_singleton.mp e] at z
        exact hfS b hb z.symm
    · rcases List.mem_cons.mp hp with e | e
      · rw [e]
        exact I6.pin (ga, go) (List.mem_append_right _ List.mem_cons_self)
      · rw [List.mem_singleton.mp e]
        exact ⟨hS₄, fS.1, fS.2.1, fS.2.2.1, fun v q => by cases q⟩
end
section
variable {X : Cx}
/-- tuple(elt for tg in iter ..) -/
def tTupX (P : Addr) (wi : TI) (g : TG) (tt : TT) (te : TE) (vs : List Nat) : TE := fun σ H Q => wi σ H fun J H1 => GxR.TabG H1 P ∧ ∀ H2, GxR.Tabbed P H1 H2 → ∃ W : Nat → Nat → List V → Hp → Prop, (∃ m, W 0 m [] H2) ∧
  tGx J g tt te (wipe σ vs) vs (fun ys H => ys.length ≤ sizeLine ∧ ∀ p, H p = none → Q (.ref p) (upd H p (.tup ys))) YdL W
theorem pe_tupX {c P : Addr} {elt tg iter : Expr} {ifs : List Expr} {p pos gpos : Pos} {scope : Scope} {own : List (Str × Nat)} {wi : TI} {g : TG} {tt : TT} {te : TE} {k : Nat}
    (hr : Room (k + 1) X.A) (hc : X.calm = true) (hN : X.N.Nodup) (hgl : Gl X "tuple") (hm : X.mg "tuple" = none) (hb : bootBuiltins "tuple" = some (.type "tuple")) (TB : GxR.TabB X.base X.mg c P) (hcode : X.env.code = .ref c)
    (hco : scope.isCoroutine = false) (hdot : scope.names.lookup (".0" : Str) = some NameKind.local) (nocell : ∀ y ∈ scope.names, y.2 ≠ .cell) (ok : BlkOk X.N X.env.scope scope own) (hi : PI X tg iter wi)
    (hg : ∀ (A' : Around) (s : Shared) (H : Hp) (C : Addr) (cl : List (Str × Addr)) (code : Value) (fp : List Addr), Room k A' → A'.guards = X.A.guards → PG (gblk X A' s H (genEnv scope cl C code builtinsNs X.env) fp) tg g)
    (ht : ∀ (A' : Around) (s : Shared) (H : Hp) (C : Addr) (cl : List (Str × Addr)) (code : Value) (fp : List Addr), Room k A' → A'.guards = X.A.guards → PTs (gblk X A' s H (genEnv scope cl C code builtinsNs X.env) fp) ifs tt)
    (he : ∀ (A' : Around) (s : Shared) (H : Hp) (C : Addr) (cl : List (Str × Addr)) (code : Value) (fp : List Addr), Room k A' → A'.guards = X.A.guards → PE (gblk X A' s H (genEnv scope cl C code builtinsNs X.env) fp) elt te)
    (hs : ∀ v, genFold iter X.env v = pure v)
    (hst : starEach [.GeneratorExp elt [⟨tg, iter, ifs, 0⟩] scope gpos] X.env = (false, eval (.GeneratorExp elt [⟨tg, iter, ifs, 0⟩] scope gpos) X.env) :: starEach [] X.env := by rfl) :
    PE X (.Call (.Name "tuple" p) [.GeneratorExp elt [⟨tg, iter, ifs, 0⟩] scope gpos] [] pos) (tTupX P wi g tt te (own.map (·.2))) := by
  refine ⟨fun pins s σ H Q I h => ?_⟩
  refine wpAny_Call_Name_kw (ld_blt I hgl hm hb ?_)
  refine PyProof.Rows.callWith_type1 ?_ hst (by rfl)
  rw [hst]
  show wpAny _ _ (spliced ((false, eval (.GeneratorExp elt [⟨tg, iter, ifs, 0⟩] scope gpos) X.env) :: backTo pos (starEach [] X.env))) _ _ s
  refine Calls.spliced_cons (gx_make (A := X.A.in1.in1.in1.in1) hr ⟨rfl, rfl, rfl, rfl, (by show X.A.units + 1 + 1 + 1 + 1 ≤ _; omega)⟩ hc hN TB hcode hco hdot nocell ok hi hg ht he hs I h fun J H1 H2 u s5 hR hT hG => ?_)
  obtain ⟨W, ⟨m, w0⟩, turn⟩ := hR H2 hT
  refine Calls.spliced_nil ?_
  have ⟨A', s_0, H_0, cenv, fp, ga, gn, go, tn, gs, eu, hGO, hgs, hbare, I5, st5, nf, hlt, keep, back, goes⟩ := hG
  have pin5 := (I5.pin (ga, go) (List.mem_append_right _ List.mem_cons_self)).1
  rw [eu] at hG ⊢
  refine callType_codes (Q₁ := fun obj s₁ => s₁.TypeIs obj "tuple" ∧ EP X pins σ Q obj s₁) F.called_tuple (F.typeCall_tuple_1 _) F.entry_object_init ?_ fun obj s₁ h₁ =>
    ⟨h₁.1, F.args_object_init_2 obj _, object_init_meets F.called_tuple.init.lookup F.called_tuple.made (by decide) X.prog X.w X.A.in1 _ s₁ ⟨h₁.1, rfl, h₁.2⟩⟩
  refine codeAny_of_tree ?_
  show wpAny _ X.A.in1.in1 (do checkBuiltinCall "tuple.__new__" ⟨[.type "tuple", .ref ga], []⟩; again (.builtin "tuple.__new__" ⟨[.type "tuple", .ref ga], []⟩)) _ _ s5
  refine wpAny_bind (wpAny_of_eq (F.newCall_tuple_1 _) (wpAny_pure ⟨plainId_quiet F.plain_tuple_new _, codeAny_builtin F.entry_tuple_new ?_⟩))
  rw [Around.under_plainId F.plain_tuple_new _]
  have hsub := sub_tuple_self
  have hinit := init_tuple_lookup
  have hmh := madeHere_tuple
  have hTI : s5.TypeIs (.ref ga) "generator" := (hGO.isGen pin5).typeIs
  have col : ∀ {Q0 : List Value → Shared → Prop} {E0 : Value → Shared → Prop}, (∀ (s' : Shared) (acc : Array Value), (∃ (ys : List V) (H' : Hp), Inv X pins σ H' s' ∧ Vals ys acc.toList ∧ ys.length ≤ sizeLine ∧ ∀ p, H' p = none → Q (.ref p) (upd H' p (.tup ys))) → Q0 acc.toList s') →
      wpAny (model X.prog X.w) X.A.in1.in1 (collect (.ref ga)) Q0 E0 s5 := fun hq => collect_gx hr.hd hr.depth hG w0 turn (fun s' acc ys H' I' rv q => hq s' acc ⟨ys, H', I', rv, q.1, q.2⟩)
  wp_walk using wpAny_typeOf hTI, col
  rintro s' acc ⟨ys, H', I', rv, small, q⟩
  show wpAny _ _ (Builtin.Tuple.tupleExact acc.toList.toArray >>= fun v => ret v) _ _ _
  unfold Builtin.Tuple.tupleExact
  refine wpAny_bind (wpAny_newObj_type ?_ (by show acc.toList.toArray.size ≤ sizeLine; rw [List.size_toArray, ← rv.length]; exact small))
  refine wpAny_pure ?_
  have free : H' s'.heap.objs.size = none := I'.hok.fresh (Nat.le_refl _)
  refine ⟨⟨_, Heap.get?_push_size _ rfl, rfl⟩, .ref s'.heap.objs.size, upd H' s'.heap.objs.size (.tup ys), I'.laid (t' := s'.toks) (fun b u z => Heap.get?_push_of_some _ z) (Nat.le_refl _) ⟨small, acc.toList, rv, ?_⟩, rfl, q _ free⟩
  exact ⟨_, Heap.get?_push_size _ rfl, rfl, 0, rfl⟩
end
/-! ### a def by its body, its code object known -/
theorem okC {P : Program} {w : World} {K : PySem.W.Frag} {mg : Str → Option Value} {base : Heap} {x qual : Str} {st : Stmt} {f : Addr} {fd : FuncData} {N ps : List Str} {k : Nat} {sp : Sp} (F : Fun K x qual st f fd) (S : FnScope N ps (defScope st)) (len : ∀ vs H Q E, sp vs H Q E → vs.length = ps.length)
    (body : ∀ (A : Around) (outer : List Env) (s : Shared) (H : Hp) (vs : List V) (Q : VK) (E : XK), Room k (A.deeper (envOfC qual (defScope st) s.heap.objs.size f fd.code)) → sp vs H Q E →
      ∃ t, PSs (cxOf CX0 P w K mg base N qual (defScope st) f fd.code A outer s H E).nox (defBody st) t ∧ t { nx := fun _ H' => Q .non H', rt := Q } (start N vs) H) : FnOk P w K mg base CX0 (k + 1) f fd ps sp := by
  obtain ⟨oc, od, kV, doc, pm, an, cdv, ct, osl, rfl, lk, hcd⟩ := F.ex
  refine fn_of lk hcd S len fun A outer s H vs Q E hr hsp => ?_
  obtain ⟨t, h, q⟩ := body A outer s H vs Q E hr hsp
  exact ⟨t, h.nox, q⟩
/-! ### from the head's facts -/
theorem fun_of {K : PySem.W.Frag} {x qual : Str} {st : Stmt} {f : Addr} {fd : FuncData} (F : FunD K x qual (defArgs st) (defBody st) (defScope st) [] [] f fd) : Fun K x qual st f fd := by
  obtain ⟨oc, od, dV, kV, doc, pm, an, cdv, ct, osl, rfl, lk, hcd, hd, _⟩ := F.ex
  rcases hd with ⟨_, rfl⟩ | ⟨z, _⟩
  · exact ⟨⟨oc, od, kV, doc, pm, an, cdv, ct, osl, rfl, lk, hcd⟩, F.kp⟩
  · exact absurd rfl z
theorem code_of {K : PySem.W.Frag} {x qual : Str} {st : Stmt} {p : He.Defn} {fd : FuncData} (F : Fun K x qual st (He.fAd K p) fd) : fd.code = .ref (He.cT K p).1 := by
  obtain ⟨oc, od, kV, doc, pm, an, cdv, ct, osl, rfl, lk, hcd⟩ := F.ex
  obtain ⟨c, rfl⟩ := He.codeIn_ref hcd
  show Value.ref c = Value.ref (He.codeOf K p)
  rw [He.codeOf_eq lk rfl]
theorem tab_of {base : Heap} {mg : Str → Option Value} {c P : Addr} (h : LamX.TabB base mg c P) : GxR.TabB base mg c P := ⟨h.code, h.bm, h.gP⟩
/-! ### heaps whose tables grow -/
def Tabs (H : Hp) (Ps : List Addr) : Prop := ∀ P ∈ Ps, GxR.TabG H P
/-- what is no table stays; tables stay tables -/
def Gr (H H' : Hp) : Prop := (∀ b o, (∀ ps, o ≠ HO.tbl ps) → H b = some o → H' b = some o) ∧ ∀ b, GxR.TabG H b → GxR.TabG H' b
theorem Gr.refl {H : Hp} : Gr H H := ⟨fun _ _ _ e => e, fun _ e => e⟩
theorem Gr.trans {H H1 H2 : Hp} (a : Gr H H1) (b : Gr H1 H2) : Gr H H2 := ⟨fun c o n e => b.1 c o n (a.1 c o n e), fun c e => b.2 c (a.2 c e)⟩
theorem Gr.of {H H' : Hp} (h : ∀ b o, H b = some o → H' b = some o) : Gr H H' := ⟨fun b o _ e => h b o e, fun b ⟨ps, e, t⟩ => ⟨ps, h _ _ e, t⟩⟩
theorem Gr.tab {P : Addr} {H H' : Hp} (t : GxR.TabG H P) (h : GxR.Tabbed P H H') : Gr H H' := by
  obtain ⟨ps, e, _⟩ := t
  refine ⟨fun b o n q => ?_, fun b q => ?_⟩
  · by_cases hb : b = P
    · rw [hb, e] at q
      exact absurd (Option.some.inj q).symm (n ps)
    · rw [h.2 b hb]; exact q
  · by_cases hb : b = P
    · rw [hb]; exact h.1
    · obtain ⟨ps', e', t'⟩ := q
      exact ⟨ps', by rw [h.2 b hb]; exact e', t'⟩
theorem Gr.tup {H H' : Hp} (g : Gr H H') {a : Addr} {xs : List V} (h : H a = some (.tup xs)) : H' a = some (.tup xs) := g.1 a _ (fun _ z => by cases z) h
theorem Gr.lst {H H' : Hp} (g : Gr H H') {a : Addr} {xs : List V} (h : H a = some (.lst xs)) : H' a = some (.lst xs) := g.1 a _ (fun _ z => by cases z) h
theorem Gr.tabs {H H' : Hp} (g : Gr H H') {Ps : List Addr} (h : Tabs H Ps) : Tabs H' Ps := fun P hP => g.2 P (h P hP)
theorem Gr.none {H : Hp} {a : Addr} {o : HO} (n : H a = Option.none) : Gr H (upd H a o) := Gr.of fun b u e => by
  rw [upd_ne (ne_of_none e n)]
  exact e
namespace CwR
/-- behind it a token is out -/
def PEp (X : Cx) (e : Expr) (t : TE) : Prop := ∀ (pins : List (Addr × Obj)) (s : Shared) (σ : L2.St) (H : Hp) (Q : VK), Inv X pins σ H s → t σ H Q → wpAny (model X.prog X.w) X.A (eval e X.env) (fun u s' => 1 ≤ s'.toks ∧ EP X pins σ Q u s') X.xe s
theorem pep_ix {X : Cx} {a : Expr} {i : Int} {j : Nat} {p pos : Pos} {ta : TE} {r : R2} (hr : IxR X r) (ha : PE X a ta) (hs : PlainIx (.Constant (.int i) j p)) : PEp X (.Subscript a (.Constant (.int i) j p) pos) (tOp r ta (tC (.int i))) := by
  intro pins s σ H Q I h
  refine Subscript_ (thn (ha.run pins s σ H _ I h) fun v s1 ⟨x, H1, I1, r1, q1⟩ => wpAny_Constant_int ?_)
  refine wpAny_mono (PySem.wpAny_toks (hr a _ pins { s1 with toks := s1.toks + 1 } σ H1 x (.int i) v (.int i s1.toks) Q (I1.tok _) r1 ⟨_, rfl⟩ q1 (hs _ _))) (fun u s2 q => ⟨?_, q.2⟩) fun _ _ z => z.2
  have h1 : s1.toks + 1 ≤ s2.toks := q.1
  omega
theorem pep_repl {X : Cx} {o : Expr} {to : TE} {y z : Str} {j k : Nat} {c0 c1 apos pos : Pos} (ho : PEp X o to) (hyz : (y == z) = false := by decide)
    (hst : starEach [.Constant (.str y) j c0, .Constant (.str z) k c1] X.env = [(false, eval (.Constant (.str y) j c0) X.env), (false, eval (.Constant (.str z) k c1) X.env)] := by rfl)
    (hbase : attributeBase o "replace" X.env (eval o X.env) = eval o X.env := by rfl) (hline : (apos.endLine == pos.line) = true := by rfl) :
    PEp X (.Call (.Attribute o "replace" apos) [.Constant (.str y) j c0, .Constant (.str z) k c1] [] pos) (CwR.tReplC to y z) := by
  intro pins s σ H Q I h
  refine PySem.Call_method2 hbase hst hline (wpAny_mono (ho pins s σ H _ I h) (fun v s1 q => ?_) fun _ _ z => z)
  obtain ⟨hk, v', H1, I1, r1, x, e1, hb, q⟩ := q
  subst e1
  obtain ⟨tx, e2⟩ := r1
  subst e2
  refine ⟨"str", _, PySem.F.plainAttrs_str, PySem.F.slot_str_replace, PySem.F.type_str_replace, typeIs_str _ _ _, (fun _ e => nomatch e), Calls.callWith_builtin rfl (Calls.evalArgs_plain (Calls.spliced_cons ?_))⟩
  refine Calls.Constant_str (Calls.spliced_cons (Calls.Constant_str (Calls.spliced_nil ?_)))
  refine wpAny_mono (PySem.wpAny_toks (PySem.SC.replace (Q := fun u s' => EP X pins σ Q u s') (by show s1.toks ≠ 0; omega) (by show s1.toks + 1 ≠ 0; omega) (by show s1.toks ≠ s1.toks + 1; omega) hyz hb fun t' k => ⟨.str (Txt.replace x y z), H1, I1.tok k, ⟨t', rfl⟩, q⟩)) (fun u s2 q => ⟨?_, q.2⟩) fun _ _ z => z.2
  have h1 : s1.toks + 1 + 1 ≤ s2.toks := q.1
  omega
theorem pe_replP {X : Cx} {e : Expr} {t : TE} (h : PEp X e t) : PE X e t := ⟨fun pins s σ H Q I q => wpAny_mono (h pins s σ H Q I q) (fun _ _ z => z.2) fun _ _ z => z⟩
end CwR

/-! ### heaps -/
theorem same_upd {H : Hp} {p : Addr} {o : HO} (h : H p = none) : Same H (upd H p o) := fun b x e => by
  rw [upd_ne (ne_of_none e h)]
  exact e
def Fr (d l : Addr) (H H' : Hp) : Prop := ∀ b o, b ≠ d → b ≠ l → H b = some o → H' b = some o
theorem Fr.trans {d l : Addr} {H H1 H2 : Hp} (a : Fr d l H H1) (b : Fr d l H1 H2) : Fr d l H H2 := fun c o h1 h2 h => b c o h1 h2 (a c o h1 h2 h)
theorem Fr.refl {d l : Addr} {H : Hp} : Fr d l H H := fun _ _ _ _ h => h
theorem Fr.new {d l p : Addr} {H : Hp} {o : HO} (h : H p = none) : Fr d l H (upd H p o) := fun b x _ _ e => same_upd h b x e
theorem Fr.of {d l : Addr} {H H' : Hp} (h : Same H H') : Fr d l H H' := fun b x _ _ e => h b x e
theorem Fr.d {d l : Addr} {H : Hp} {o : HO} : Fr d l H (upd H d o) := fun b x h1 _ e => by rw [upd_ne h1]; exact e
theorem Fr.l {d l : Addr} {H : Hp} {o : HO} : Fr d l H (upd H l o) := fun b x _ h2 e => by rw [upd_ne h2]; exact e
def Deck (H : Hp) (d l : Addr) : Prop := d ≠ l ∧ ∃ (cs : List Int) (z : Int), H d = some (.lst [.ref l, .int z]) ∧ H l = some (.lst (cs.map V.int)) ∧ cs.length ≤ 63 ∧ 0 ≤ z ∧ z < 4294967296
theorem Deck.same {H H' : Hp} {d l : Addr} (D : Deck H d l) (s : Same H H') : Deck H' d l := by
  obtain ⟨ne, cs, z, hd, hl, r⟩ := D
  exact ⟨ne, cs, z, s _ _ hd, s _ _ hl, r⟩
theorem Deck.new {H : Hp} {d l p : Addr} {o : HO} (D : Deck H d l) (h : H p = none) : Deck (upd H p o) d l := D.same (same_upd h)
theorem Deck.ne_new {H : Hp} {d l p : Addr} (D : Deck H d l) (h : H p = none) : p ≠ d ∧ p ≠ l := by
  obtain ⟨ne, cs, z, hd, hl, r⟩ := D
  exact ⟨(ne_of_none hd h).symm, (ne_of_none hl h).symm⟩
theorem p29 : (0 : Int) < 2147483629 := by decide
theorem p47 : (0 : Int) < 2147483647 := by decide
theorem p87 : (0 : Int) < 2147483587 := by decide
theorem sl1 : 1 ≤ sizeLine := by decide
theorem sl2 : 2 ≤ sizeLine := by decide
theorem sl3 : 3 ≤ sizeLine := by decide
theorem sl4 : 4 ≤ sizeLine := by decide
theorem seqIx0 {α : Type} (x : α) (xs : List α) : seqIndex? 0 (x :: xs).length = some 0 := by
  refine (ixN_seq (n := (x :: xs).length) (i := 0) (j := 0) ?_).1
  unfold ixN
  rw [if_pos (by decide), if_pos (by rw [List.length_cons]; omega)]
  rfl
theorem dpInts {K : PySem.W.Frag} {H : Hp} : ∀ cs : List Int, DpAll K H (cs.map V.int) (cs.map PyData.int)
  | [] => .nil
  | c :: r => .cons (.int c) (dpInts r)
theorem shInts (ns : List Int) : SeqAt.shaped (.list (ns.map PyData.int)) = true := by
  unfold SeqAt.shaped
  rw [Bool.and_eq_true]
  refine ⟨?_, ?_⟩
  · simp only [PyData.canLay0, canLayAll_ints]
  · simp only [PyData.depth, depthAll_ints]
    decide
theorem at_pick {xs : List V} {j : Int} (h0 : 0 ≤ j) (h1 : j < xs.length) : ∃ x, atI xs j = some x ∧ x ∈ xs := by
  obtain ⟨k, rfl⟩ : ∃ k : Nat, j = (k : Int) := ⟨j.toNat, (Int.toNat_of_nonneg h0).symm⟩
  have hk : k < xs.length := by omega
  exact ⟨xs[k], atI_nat (List.getElem?_eq_getElem hk), List.getElem_mem hk⟩
theorem units65 {k : Nat} {A : Around} (r : Room k A) : A.units + 65 < cLine := by have := r.un; omega
def rLenK (K : PySem.W.Frag) : List V → Hp → VK → Prop := fun xs H Q => ∃ p ys, xs = [.ref p] ∧ (SqL K H p ys ∨ SqT K H p ys) ∧ Q (.int ys.length) H
def rTupK (K : PySem.W.Frag) : List V → Hp → VK → Prop := fun xs H Q => ∃ p ys, xs = [.ref p] ∧ ((SqL K H p ys ∧ ∀ l, H l = none → Q (.ref l) (upd H l (.tup ys))) ∨ (SqT K H p ys ∧ Q (.ref p) H))
def rLstK (K : PySem.W.Frag) : List V → Hp → VK → Prop := fun xs H Q => ∃ p ys, xs = [.ref p] ∧ (SqL K H p ys ∨ SqT K H p ys) ∧ ∀ l, H l = none → Q (.ref l) (upd H l (.lst ys))
/-- joining ways behind a test, behind an expression -/
def tCutT (t : TT) : TT := fun σ H Q => ∃ Mid : Bool → Hp → Prop, t σ H Mid ∧ ∀ b H1, Mid b H1 → Q b H1
theorem pt_cut {X : Cx} {e : Expr} {t : TT} (h : PT X e t) : PT X e (tCutT t) := ⟨fun pins s σ H Q I hw => by
  obtain ⟨Mid, h1, q⟩ := hw
  exact thn (h.run pins s σ H _ I h1) fun c s1 ⟨H1, I1, m⟩ => ⟨H1, I1, q _ _ m⟩⟩
def tCutE (t : TE) : TE := fun σ H Q => ∃ Mid : VK, t σ H Mid ∧ ∀ v H1, Mid v H1 → Q v H1
theorem pe_cut {X : Cx} {e : Expr} {t : TE} (h : PE X e t) : PE X e (tCutE t) := ⟨fun pins s σ H Q I hw => by
  obtain ⟨Mid, h1, q⟩ := hw
  exact thn (h.run pins s σ H _ I h1) fun u s1 ⟨v, H1, I1, r, m⟩ => ⟨v, H1, I1, r, q _ _ m⟩⟩

/-! ### defs called where nothing is being shown (so that repr tells what stands there) -/
structure FnG (P : Program) (w : World) (K : PySem.W.Frag) (mg : Str → Option Value) (bs : Heap) (CX : CXT) (k : Nat) (f : Addr) (fd : FuncData) (ps : List Str) (sp : Sp) : Prop where
  many : ∀ vs H Q E, sp vs H Q E → vs.length = ps.length
  go : ∀ A : Around, A.guards = some [] → Room k A → ∀ (fr : List Env) (s : Shared) (H : Hp) (ar : Args) (us : List Value) (vs : List V) (Q : VK) (E : XK), Env0 P w K mg bs A fr s H → BindsTo s fd ar (ps.zip us) → Vals vs us → sp vs H Q E → codeAny (model P w) A (.call (.ref f) ar) (CR CX fr P w H s Q E) s
theorem FnG.of {P : Program} {w : World} {K : PySem.W.Frag} {mg : Str → Option Value} {bs : Heap} {CX : CXT} {k : Nat} {f : Addr} {fd : FuncData} {ps : List Str} {sp : Sp} (F : FnOk P w K mg bs CX k f fd ps sp) : FnG P w K mg bs CX k f fd ps sp :=
  ⟨F.len, fun A _ room fr s H ar us vs Q E e0 b r h => F.run A fr s H ar us vs Q E room e0 b r h⟩
theorem okG {CX : CXT} {P : Program} {w : World} {K : PySem.W.Frag} {mg : Str → Option Value} {bs : Heap} {x qual : Str} {st : Stmt} {f : Addr} {fd : FuncData} {N ps : List Str} {k : Nat} {sp : Sp} (F : Fun K x qual st f fd) (S : FnScope N ps (defScope st))
    (many : ∀ vs H Q E, sp vs H Q E → vs.length = ps.length)
    (body : ∀ (cdv : Value) (A : Around) (fr : List Env) (s : Shared) (H : Hp) (vs : List V) (Q : VK) (E : XK), A.guards = some [] → Room k (A.deeper (envOfC qual (defScope st) s.heap.objs.size f cdv)) → sp vs H Q E →
      ∃ t, PSs (cxOf CX P w K mg bs N qual (defScope st) f cdv A fr s H E) (defBody st) t ∧ t ⟨fun _ H' => Q .non H', Q, fun _ _ => False, fun _ _ => False⟩ (start N vs) H) : FnG P w K mg bs CX (k + 1) f fd ps sp := by
  obtain ⟨oc, od, kV, doc, pm, an, cdv, ct, osl, rfl, lk, code⟩ := F.ex
  refine ⟨many, fun A nothing room fr s H ar us vs Q E e0 bound rel told => ?_⟩
  have stays : ∀ b o, bs.get? b = some o → s.heap.get? b = some o := fun b o z => (e0.bs b o z).1
  have inK : K.In s.heap := e0.mod.kin.keeps stays
  have places : ∀ y ∈ ps.zip us, (defScope st).names.lookup y.1 = some .local ∨ ((defScope st).names.lookup y.1 = some .cell ∧ ((cellsFrom (s.heap.objs.size + 1) (defScope st).names []).lookup y.1).isSome = true) := by
    rintro ⟨n, v⟩ hy
    exact (S.par n (List.of_mem_zip hy).1).imp id fun c => ⟨c, PySem.W.cellsFrom_some _ _ _ (Or.inl c)⟩
  refine codeAny_call_function room.depth (inK _ _ lk) rfl S.co S.gen rfl (PySem.W.codeRec_of inK code) (bound _ _ _ _
    (wpAny_newFunctionEnv_cells S.kind places fun env he s1 made => ?_))
  subst he
  obtain ⟨t, runs, holds⟩ := body cdv A fr s H vs Q E nothing (room.deeper _) told
  refine ⟨(e0.mod.nolimit.keeps stays).keeps made.toInCall.keep, codeAny_func (wpAny_mono (runs.run [] s1 (start N vs) H _ (inv_start S room.hd e0 (many _ _ _ _ told) rel made) holds) (fun fl s2 z => ?_) fun _ _ z => z)⟩
  match fl, z with
  | .ret _, ⟨v, _, H', J, rv, q⟩ => exact ⟨v, H', J.os, J.bare, J.base, J.hok, rv, q⟩
  | .next, ⟨_, H', J, q⟩ => exact ⟨V.non, H', J.os, J.bare, J.base, J.hok, rfl, q⟩
  | .brk, ⟨_, _, _, q⟩ => exact q.elim
  | .cont, ⟨_, _, _, q⟩ => exact q.elim
theorem okG0 {P : Program} {w : World} {K : PySem.W.Frag} {mg : Str → Option Value} {bs : Heap} {x qual : Str} {st : Stmt} {f : Addr} {fd : FuncData} {N ps : List Str} {k : Nat} {sp : Sp} (F : Fun K x qual st f fd) (S : FnScope N ps (defScope st))
    (many : ∀ vs H Q E, sp vs H Q E → vs.length = ps.length)
    (body : ∀ (cdv : Value) (A : Around) (fr : List Env) (s : Shared) (H : Hp) (vs : List V) (Q : VK) (E : XK), A.guards = some [] → Room k (A.deeper (envOfC qual (defScope st) s.heap.objs.size f cdv)) → sp vs H Q E →
      ∃ t, PSs (cxOf CX0 P w K mg bs N qual (defScope st) f cdv A fr s H E).nox (defBody st) t ∧ t ⟨fun _ H' => Q .non H', Q, fun _ _ => False, fun _ _ => False⟩ (start N vs) H) : FnG P w K mg bs CX0 (k + 1) f fd ps sp :=
  okG F S many fun cdv A fr s H vs Q E g r h => by
    obtain ⟨t, p, q⟩ := body cdv A fr s H vs Q E g r h
    exact ⟨t, p.nox, q⟩
section
variable {X : Cx} {CX : CXT} {k : Nat} {f : Addr} {fd : FuncData} {ps : List Str} {sp : Sp} {ds : List Value} {dvs : List V} {E : XK}
theorem runG {pins : List (Addr × Obj)} {σ : L2.St} {H : Hp} {s : Shared} {Q : VK} {us : List Value} {vs : List V} (F : FnG X.prog X.w X.K X.mg X.base CX k f fd ps sp) (nothing : X.A.guards = some []) (room : Room k X.A) (hb : Binds X.K fd ps ds)
    (hd : Vals dvs ds) (out : Passes CX X E) (I : Inv X pins σ H s) (r : Vals vs us) (told : sp (vs ++ dvs) H Q E) : wpAny (model X.prog X.w) X.A (call (.ref f) us) (EP X pins σ Q) X.xe s := by
  have rel : Vals (vs ++ dvs) (us ++ ds) := r.append hd
  have size : (us ++ ds).length = ps.length := rel.length ▸ F.many _ _ _ _ told
  refine wpAny_call (codeAny_mono (F.go X.A nothing room X.stack s H _ _ _ Q E I.env0 (hb s us I.kIn size) rel told) fun res s2 z => ?_)
  match res, z with
  | .error e, z => exact out pins σ H s e s2 I z
  | .ok (.ret u), z => exact I.after z
  | .ok .next, z => exact z.elim
  | .ok .brk, z => exact z.elim
  | .ok .cont, z => exact z.elim
theorem pe_callG {x : Str} {p pos : Pos} {e : Expr} {es : List Expr} {t : TA} (F : FnG X.prog X.w X.K X.mg X.base CX k f fd ps sp) (nothing : X.A.guards = some []) (room : Room k X.A) (hg : Gl X x) (hm : X.mg x = some (.ref f)) (kp : PySem.W.keepIn X.K (.ref f) = true)
    (hb : Binds X.K fd ps ds) (hd : Vals dvs ds) (out : Passes CX X E) (ha : PA X (e :: es) t) (nd : (x == ("__debug__" : Str)) = false := by decide) (he : starEach (e :: es) X.env = (false, eval e X.env) :: starEach es X.env := by rfl)
    (hpl : (backTo pos (starEach es X.env)).any (·.1) = false := by rfl) : PE X (.Call (.Name x p) (e :: es) [] pos) (tCall sp dvs E t) := by
  refine ⟨fun pins s σ H Q I told => wpAny_Call_Name_kw (ld_glob I hg hm ?_ nd)⟩
  refine PySem.W.callWith_K (h₀ := X.base) I.ok.mod.kin kp (thn (ha.run pos pins s σ H _ I told) ?_) he hpl
  rintro us s1 ⟨vs, H1, J, r, q⟩
  exact ⟨J.kIn, runG F nothing room hb hd out J r q⟩
end
/-! ### what is shown by repr: plain data, whose lists and dicts were made by the law -/
def kD : Key → PyData
  | .inl i => .int i
  | .inr x => .str x
mutual
inductive Sh (H : Hp) : V → PyData → Prop
  | non : Sh H .non .none
  | bl (b : Bool) : Sh H (.bl b) (.bool b)
  | int (i : Int) : Sh H (.int i) (.int i)
  | str (x : Str) : Sh H (.str x) (.str x)
  | lst {a : Addr} {xs : List V} {ds : List PyData} : H a = some (.lst xs) → a ≠ sysModules → ShAll H xs ds → Sh H (.ref a) (.list ds)
  | tup {a : Addr} {xs : List V} {ds : List PyData} : H a = some (.tup xs) → ShAll H xs ds → Sh H (.ref a) (.tuple ds)
  | dic {a : Addr} {kvs : List (Key × V)} {ds : List PyData} : H a = some (.dK kvs) → ShAll H (kvs.map (·.2)) ds → Sh H (.ref a) (.dict ((kvs.map fun kv => kD kv.1).zip ds))
inductive ShAll (H : Hp) : List V → List PyData → Prop
  | nil : ShAll H [] []
  | cons {v : V} {vs : List V} {d : PyData} {ds : List PyData} : Sh H v d → ShAll H vs ds → ShAll H (v :: vs) (d :: ds)
end
theorem ShAll.length {H : Hp} : ∀ {vs : List V} {ds : List PyData}, ShAll H vs ds → vs.length = ds.length
  | _, _, .nil => rfl
  | _, _, .cons _ t => by rw [List.length_cons, List.length_cons, t.length]
mutual
theorem Sh.same {H H' : Hp} (s : Same H H') : ∀ {v : V} {d : PyData}, Sh H v d → Sh H' v d
  | _, _, .non => .non
  | _, _, .bl b => .bl b
  | _, _, .int i => .int i
  | _, _, .str x => .str x
  | _, _, .lst h n t => .lst (s _ _ h) n (t.same s)
  | _, _, .tup h t => .tup (s _ _ h) (t.same s)
  | _, _, .dic h t => .dic (s _ _ h) (t.same s)
theorem ShAll.same {H H' : Hp} (s : Same H H') : ∀ {vs : List V} {ds : List PyData}, ShAll H vs ds → ShAll H' vs ds
  | _, _, .nil => .nil
  | _, _, .cons h t => .cons (h.same s) (t.same s)
end
/-- the name of the class of such data -/
def tyD : PyData → String
  | .none => "NoneType"
  | .bool _ => "bool"
  | .int _ => "int"
  | .str _ => "str"
  | .list _ => "list"
  | .tuple _ => "tuple"
  | .dict _ => "dict"
theorem Sh.ty {K : PySem.W.Frag} {H : Hp} {v : V} {d : PyData} (h : Sh H v d) : TyX K H v (.type (tyD d)) := by
  cases h with
  | non => exact .base .non
  | bl b => exact .base (.bl b)
  | int i => exact .base (.int i)
  | str x => exact .base (.str x)
  | lst h _ _ => exact .base (.lst h)
  | tup h _ => exact .base (.tup h)
  | dic h _ => exact .base (.dK h)
section
variable {X : Cx} {pins : List (Addr × Obj)} {σ : L2.St} {H : Hp} {s : Shared}
theorem pairs_keys {P : Program} {w : World} {h : Heap} : ∀ {es : List DictEntry} {kvs : List (Key × Value)}, Pairs (mixKind P w) es kvs → ReadsAll h (es.map (·.key)) (kvs.map fun kv => kD kv.1) []
  | _, _, .nil => .nil
  | _, _, .cons (kv := kv) hk _ t => by
    have r := pairs_keys (h := h) t
    rcases keyIs_shape (k := kv.1) hk with ⟨i, u, e1, e2⟩ | ⟨x, u, e1, e2⟩
    · rw [List.map_cons, List.map_cons, e1, e2]
      exact ReadsAll.cons (as := []) (.int i u) r
    · rw [List.map_cons, List.map_cons, e1, e2]
      exact ReadsAll.cons (as := []) (.str x u) r
theorem pairs_vals {P : Program} {w : World} : ∀ {es : List DictEntry} {kvs : List (Key × Value)}, Pairs (mixKind P w) es kvs → es.map (·.val) = kvs.map (·.2)
  | _, _, .nil => rfl
  | _, _, .cons _ hv t => by rw [List.map_cons, List.map_cons, hv, pairs_vals t]
theorem kv_rel : ∀ {kvs : List (Key × V)} {vs : List (Key × Value)}, KV kvs vs → kvs.map (·.1) = vs.map (·.1) ∧ Vals (kvs.map (·.2)) (vs.map (·.2))
  | _, _, .nil => ⟨rfl, .nil⟩
  | _, _, .cons h t => by
    obtain ⟨a, b⟩ := kv_rel t
    exact ⟨by rw [List.map_cons, List.map_cons, a, h.1], .cons h.2 b⟩
mutual
theorem Sh.reads (I : Inv X pins σ H s) : ∀ (v : V) (d : PyData) (u : Value), Sh H v d → RelV v u → ∃ as, Reads s.heap u d as ∧ sysModules ∉ as
  | _, _, _, .non, r => by cases r; exact ⟨_, .none, List.not_mem_nil⟩
  | _, _, _, .bl b, r => by cases r; exact ⟨_, .bool b, List.not_mem_nil⟩
  | _, _, _, .int i, r => by obtain ⟨t, rfl⟩ := r; exact ⟨_, .int i t, List.not_mem_nil⟩
  | _, _, _, .str x, r => by obtain ⟨t, rfl⟩ := r; exact ⟨_, .str x t, List.not_mem_nil⟩
  | _, _, _, .lst (a := a) (xs := xs) h n t, r => by
    cases r
    obtain ⟨_, its, c, rv, ho⟩ := (show ObjOk X.prog X.w H s.heap a (.lst xs) from I.hok a _ h)
    obtain ⟨as, q, m⟩ := ShAll.reads I _ _ its t rv
    exact ⟨_, .list ho rfl rfl (by simpa using q), fun z => (List.mem_cons.mp z).elim (fun e => n e.symm) m⟩
  | _, _, _, .tup (a := a) (xs := xs) h t, r => by
    cases r
    obtain ⟨_, its, rv, o, ho, hc, c, hd⟩ := (show ObjOk X.prog X.w H s.heap a (.tup xs) from I.hok a _ h)
    obtain ⟨as, q, m⟩ := ShAll.reads I _ _ its t rv
    exact ⟨_, .tuple ho hc hd (by simpa using q), m⟩
  | _, _, _, .dic (a := a) (kvs := kvs) (ds := ds) h t, r => by
    cases r
    obtain ⟨_, low, vs, rel, o, es, ep, ho, hx, hd, _, hp, _⟩ := (show ObjOk X.prog X.w H s.heap a (.dK kvs) from I.hok a _ h)
    obtain ⟨rk, rv⟩ := kv_rel rel
    obtain ⟨as, q, m⟩ := ShAll.reads I _ _ (vs.map (·.2)) t rv
    have k1 : (kvs.map fun kv => kD kv.1) = vs.map fun kv => kD kv.1 := by
      have := congrArg (List.map kD) rk
      rw [List.map_map, List.map_map] at this
      exact this
    have ln : (kvs.map fun kv => kD kv.1).length = ds.length := by
      have := t.length
      rw [List.length_map] at this
      rw [List.length_map, this]
    refine ⟨_, .dict (as := []) (bs := as) ho hx.1 hd ?_ ?_, ?_⟩
    · rw [List.map_fst_zip (Nat.le_of_eq ln), k1]
      exact pairs_keys hp
    · rw [List.map_snd_zip (Nat.le_of_eq ln.symm), pairs_vals hp]
      exact q
    · intro z
      rcases List.mem_cons.mp z with e | e
      · exact absurd low (by rw [← e]; simp)
      · exact m e
theorem ShAll.reads (I : Inv X pins σ H s) : ∀ (vs : List V) (ds : List PyData) (us : List Value), ShAll H vs ds → Vals vs us → ∃ as, ReadsAll s.heap us ds as ∧ sysModules ∉ as
  | _, _, _, .nil, r => by cases r; exact ⟨_, .nil, List.not_mem_nil⟩
  | _, _, _, .cons h t, r => by
    cases r with
    | cons r1 r2 =>
      obtain ⟨as, q1, m1⟩ := Sh.reads I _ _ _ h r1
      obtain ⟨bs, q2, m2⟩ := ShAll.reads I _ _ _ t r2
      exact ⟨_, .cons q1 q2, fun z => (List.mem_append.mp z).elim m1 m2⟩
end
end
def rRepr : List V → Hp → VK → Prop := fun xs H Q => ∃ x d, xs = [x] ∧ Sh H x d ∧ d.showable = true ∧ d.shown.length ≤ sizeLine ∧ d.depth ≤ 50 ∧ Q (.str d.shown) H
theorem call_repr {X : Cx} (nothing : X.A.guards = some []) (hu : X.A.units + 64 < cLine) : CallR X (.builtin "repr") rRepr := by
  intro pins s σ H xs us Q I r h
  obtain ⟨x, d, rfl, sh, able, fits, deep, q⟩ := h
  cases r with
  | @cons _ u _ _ r1 r2 =>
    cases r2
    obtain ⟨as, rd, low⟩ := Sh.reads I _ _ _ sh r1
    have fin : ∀ h' t tk, (∀ b o, s.heap.get? b = some o → h'.get? b = some o) → EP X pins σ Q (.str d.shown t) { s with heap := h', toks := tk } := fun h' t tk kept => ⟨.str d.shown, H, I.kept kept, ⟨t, rfl⟩, q⟩
    cases sh with
    | non => cases r1; exact PySem.P.repr_of_none (fin _ _ _ fun _ _ z => z)
    | bl b => cases r1; exact PySem.P.repr_of_bool (fin _ _ _ fun _ _ z => z)
    | int i => obtain ⟨t, rfl⟩ := r1; exact PySem.P.repr_of_int (of_decide_eq_true able) (fin _ _ _ fun _ _ z => z)
    | str x => obtain ⟨t, rfl⟩ := r1; exact PySem.P.repr_of_str (fin _ _ _ fun _ _ z => z) fits
    | lst _ _ _ => cases r1; exact repr_of_reads' rd able (fun _ => low) nothing (by omega) (fun _ _ z => z) fin fits
    | tup _ _ => cases r1; exact repr_of_reads' rd able (fun _ => low) nothing (by omega) (fun _ _ z => z) fin fits
    | dic _ _ => cases r1; exact repr_of_reads' rd able (fun _ => low) nothing (by omega) (fun _ _ z => z) fin fits
/-- a display's list is none of the interpreter's own -/
def tLstN (t : TA) : TE := fun σ H Q => t σ H fun xs H1 => xs.length ≤ sizeLine ∧ ∀ p, H1 p = none → p ≠ sysModules → Q (.ref p) (upd H1 p (.lst xs))
theorem pe_lstN {X : Cx} {es : List Expr} {t : TA} {pos : Pos} (h : PA X es t) : PE X (.List es pos) (tLstN t) := by
  refine ⟨fun pins s σ H Q I told => wpAny_List_spliced (thn (h.run pos pins s σ H _ I told) ?_)⟩
  rintro us s1 ⟨xs, H1, J, r, small, q⟩
  have free : H1 s1.heap.objs.size = none := J.hok.fresh (Nat.le_refl _)
  refine ⟨by rw [← r.length]; exact small, .ref s1.heap.objs.size, upd H1 s1.heap.objs.size (.lst xs), J.laid (t' := s1.toks) (fun b u z => Heap.get?_push_of_some _ z) (Nat.le_refl _) ⟨small, us, 0, r, Heap.get?_push_size _ rfl⟩, rfl, q _ free (Nat.ne_of_gt J.big)⟩
/-! ### the end of a law whose defs are called where nothing is being shown -/
theorem law_G {P : Program} {w : World} {K : PySem.W.Frag} {mg mb : Str → Option Value} {CX : CXT} {k : Nat} {fa a : Addr} {fd : FuncData} {x : Str} {sp : Sp} {s : Shared} {vs : List Value} {ns : List Int}
    (inK : K.In s.heap) (gl : s.heap.Ns mainGlobals mg) (bl : s.heap.Ns builtinsNs mb) (boot : ∀ y : Str, y ≠ "__name__" → mb y = bootBuiltins y) (lim : s.heap.NoLimit) (ng : s.gens = #[])
    (at_ : s.heap.get? a = some { cls := .type "list", data := .seq vs.toArray }) (are : IntsAre vs ns) (small : ns.length ≤ sizeLine) (room : Room k callerA)
    (F : ∀ bs : Heap, K.In bs → bs.Ns mainGlobals mg → FnG P w K mg bs CX k fa fd [x] sp) (bound : ∀ (s : Shared) (u : Value), BindsTo s fd ⟨[u], []⟩ [(x, u)])
    (told : ∀ H : Hp, Only H → SqL K H a (ns.map V.int) → sp [.ref a] H (fun v _ => v = .bl true) fun _ _ _ => False)
    (noX : ∀ H e s', CX [] H s (fun _ _ _ => False) e s' → False) :
    codeAny (model P w) callerA (.call (.ref fa) ⟨[.ref a], []⟩) (fun r s' => r = .ok (.ret (.bool true)) ∧ OldK s.heap s'.heap ∧ s'.os = s.os ∧ AllBare s'.gens) s := by
  have main : ∀ H : Hp, Only H → SqL K H a (ns.map V.int) → HOk P w H s.heap → (∀ b, H b ≠ none → b = a) → (H a ≠ none → K.lookup a = none) →
      codeAny (model P w) callerA (.call (.ref fa) ⟨[.ref a], []⟩) (fun r s' => r = .ok (.ret (.bool true)) ∧ OldK s.heap s'.heap ∧ s'.os = s.os ∧ AllBare s'.gens) s := by
    intro H only list ok alone out
    have seen : ∀ {b : Addr} {o : Obj}, s.heap.get? b = some o → H b = none → (hidT s.heap H).get? b = some o := fun z n => hidT_get z n
    have dict : ∀ {b : Addr} {o : Obj} {es : Array DictEntry} {ep : Nat}, s.heap.get? b = some o → o.data = .dict es ep → H b = none := by
      intro b o es ep z dz
      refine Classical.byContradiction fun some_ => ?_
      have eb := alone b some_
      rw [eb, at_] at z
      cases z
      cases (show Data.seq vs.toArray _ = Data.dict es ep from dz)
    have names : ∀ {b : Addr} {m : Str → Option Value}, s.heap.Ns b m → (hidT s.heap H).Ns b m := by
      rintro b m ⟨o, es, ep, z, dz, rest⟩
      exact ⟨o, es, ep, seen z (dict z dz), dz, rest⟩
    have inB : K.In (hidT s.heap H) := by
      intro b o z
      refine seen (inK b o z) (Classical.byContradiction fun some_ => ?_)
      have eb := alone b some_
      subst eb
      rw [out some_] at z
      cases z
    obtain ⟨ml, l1, l2⟩ := lim
    have mod : Mod K mg (hidT s.heap H) := ⟨inB, names gl, ⟨mb, names bl, boot⟩, ⟨ml, names l1, l2⟩⟩
    have env : Env0 P w K mg (hidT s.heap H) callerA [] s H := { frames := rfl, mod := mod, bs := fun b o z => of_hidT z, bsz := Nat.le_of_eq (hidT_size _ _), funs := trivial, frf := (fun b hb => by cases (show b ∈ ([] : List Addr) from hb)), hok := ok, bare := .of_eq ng }
    refine codeAny_mono ((F _ inB (names gl)).go callerA rfl room [] s H _ [.ref a] [.ref a] _ _ env (bound s (.ref a)) (.cons rfl .nil) (told H only list)) fun r s2 z => ?_
    match r, z with
    | .error e, z => exact (noX H e s2 z).elim
    | .ok .next, z => exact z.elim
    | .ok .brk, z => exact z.elim
    | .ok .cont, z => exact z.elim
    | .ok (.ret u), ⟨v, H2, os, bare, un, ok2, rel, q⟩ =>
      cases (show v = V.bl true from q)
      cases (show u = Value.bool true from rel)
      refine ⟨rfl, OldK.of_keep fun b o z => ?_, os, bare⟩
      by_cases hb : H b = none
      · exact un.keep b o z hb (fun m => by cases (show b ∈ ([] : List Addr) from m)) (fun m => by cases m)
      · rcases only b with n | ⟨ob, xs, f⟩
        · exact absurd n hb
        · have o1 := (ok b _ f).1
          have o2 := (ok2 b _ (un.frzs b ob _ f)).1
          rw [z] at o1
          rw [Option.some.inj o1]
          exact o2
  have rel := vals_ints are
  cases hk : K.lookup a with
  | some o =>
    have z := inK a o hk
    rw [at_] at z
    cases z
    exact main (fun _ => none) (fun _ => .inl rfl) (.inr ⟨_, vs.toArray, _, hk, rfl, rfl, rfl, by rw [List.size_toArray, are.length]; exact small, by simpa using rel⟩) (fun b u z => by cases z) (fun b z => absurd rfl z) fun z => absurd rfl z
  | none =>
    have on : ∀ b : Addr, b = a → (if b = a then some (HO.frz { cls := .type "list", data := .seq vs.toArray } (.lst (ns.map V.int))) else none) = some (HO.frz { cls := .type "list", data := .seq vs.toArray } (.lst (ns.map V.int))) := fun b e => if_pos e
    refine main (fun b => if b = a then some (.frz { cls := .type "list", data := .seq vs.toArray } (.lst (ns.map V.int))) else none) (fun b => ?_) (.inl (.inr ⟨_, on a rfl⟩)) (fun b u z => ?_) (fun b z => ?_) fun _ => hk
    · rcases Classical.em (b = a) with e | e
      · exact .inr ⟨_, _, on b e⟩
      · exact .inl (if_neg e)
    · rcases Classical.em (b = a) with e | e
      · have := (on b e).symm.trans z
        cases this
        subst e
        exact ⟨at_, by rw [List.length_map]; exact small, vs, _, rel, at_⟩
      · have := (if_neg e).symm.trans z
        cases this
    · exact Classical.byContradiction fun e => z (if_neg e)
theorem walk_G {l : PySem.W.OpenLaw} {n k : Nat} {q : Program} {loose : List Str} {XP : (Str → Option Value) → Heap → Prop} {YP : World → Heap → Prop} {d : DefRec} {K : Params → PySem.W.Frag} {CX : World → CXT} {sp : World → Sp} {x : Str}
    (most : l.most = some n) (small : n ≤ sizeLine) (nodef : d.params.defaults = []) (room : Room k callerA) (inK : ∀ (w : World) (h : Heap), YP w h → (K w.params).In h)
    (F : ∀ (w : World) (mg : Str → Option Value) (fa : Addr) (h : Heap), (K w.params).In h → h.Ns mainGlobals mg → mg d.name = some (.ref fa) →
      ∃ fd : FuncData, (∀ (s : Shared) (u : Value), BindsTo s fd ⟨[u], []⟩ [(x, u)]) ∧ ∀ bs : Heap, (K w.params).In bs → bs.Ns mainGlobals mg → FnG l.prog w (K w.params) mg bs (CX w) k fa fd [x] (sp w))
    (told : ∀ (w : World) (H : Hp) (a : Addr) (ns : List Int), ns.length ≤ n → Only H → SqL (K w.params) H a (ns.map V.int) → sp w [.ref a] H (fun v _ => v = .bl true) fun _ _ _ => False)
    (noX : ∀ (w : World) (H : Hp) (s : Shared) (e : Value) (s' : Shared), CX w [] H s (fun _ _ _ => False) e s' → False) :
    PySem.W.WalkO q loose XP YP l.row.toRowW d [] (fun f vs => PySem.call f vs) := by
  refine Att.attach_call most nodef fun w s₀ s₁ mg mb fa o pm cd doc a vs ns G Y ho hd hcd hmg hobj hints hlen hg => ?_
  obtain ⟨fd, bound, FG⟩ := F w mg fa _ (inK w _ Y) G.T.g hmg
  exact law_G (inK w _ Y) G.T.g G.T.b G.T.builtins G.T.nolimit hg hobj hints (Nat.le_trans hlen small) room FG bound (fun H only list => told w H a ns hlen only list) fun H e s2 => noX w H s₁ e s2

/-! ### the end of a law whose defs are called where nothing is being shown, with tables of code objects -/
def LawAtG (l : PySem.W.OpenLaw) (w : World) (K : PySem.W.Frag) (CX : CXT) (k n : Nat) (x : Str) (mg : Str → Option Value) (f : Addr) (top : Heap) : Prop :=
  ∃ (fd : FuncData) (ts : List (Addr × Addr)) (sp : Sp), (∀ t ∈ ts, top.get? t.2 = some { cls := .none, data := .fields #[] }) ∧ (∀ t ∈ ts, K.lookup t.2 = none) ∧ (∀ t ∈ ts, PySem.W.CodeHd top t.1 t.2) ∧ (∀ (st : Shared) (v : Value), BindsTo st fd ⟨[v], []⟩ [(x, v)]) ∧
    (∀ (H : Hp) (p : Addr) (zs : List Int), zs.length ≤ n → (∀ z ∈ zs, Builtin.Int.intBits z ≤ 1048576) → (∀ t ∈ ts, H t.2 = some (.tbl #[])) → SqL K H p (zs.map V.int) → sp [.ref p] H (fun v _ => v = .bl true) fun _ _ _ => False) ∧
    ∀ under : Heap, K.In under → under.Ns mainGlobals mg → (∀ t ∈ ts, LamX.TabB under mg t.1 t.2) → FnG l.prog w K mg under CX k f fd [x] sp
theorem law_GT {P : Program} {w : World} {K : PySem.W.Frag} {mg mb : Str → Option Value} {CX : CXT} {k : Nat} {f p : Addr} {ts : List (Addr × Addr)} {fd : FuncData} {x : Str} {sp : Sp} {s : Shared} {us : List Value} {zs : List Int}
    (inK : K.In s.heap) (gl : s.heap.Ns mainGlobals mg) (bl : s.heap.Ns builtinsNs mb) (boot : ∀ y : Str, y ≠ "__name__" → mb y = bootBuiltins y) (lim : s.heap.NoLimit) (ng : s.gens = #[])
    (bare : ∀ t ∈ ts, s.heap.get? t.2 = some { cls := .none, data := .fields #[] }) (out : ∀ t ∈ ts, K.lookup t.2 = none) (code : ∀ t ∈ ts, PySem.W.CodeHd s.heap t.1 t.2)
    (bmod : ∃ (m : Addr) (o : Obj), mg "__builtins__" = some (.ref m) ∧ m ≠ builtinsNs ∧ s.heap.get? m = some o ∧ o.cls = .type "module" ∧ o.dict = some builtinsNs ∧ o.data = .plain)
    (script : s.heap.get? p = some { cls := .type "list", data := .seq us.toArray }) (are : IntsAre us zs) (small : zs.length ≤ sizeLine) (room : Room k callerA)
    (F : ∀ under : Heap, K.In under → under.Ns mainGlobals mg → (∀ t ∈ ts, LamX.TabB under mg t.1 t.2) → FnG P w K mg under CX k f fd [x] sp) (bound : ∀ (st : Shared) (v : Value), BindsTo st fd ⟨[v], []⟩ [(x, v)])
    (told : ∀ H : Hp, (∀ t ∈ ts, H t.2 = some (.tbl #[])) → SqL K H p (zs.map V.int) → sp [.ref p] H (fun v _ => v = .bl true) fun _ _ _ => False)
    (noX : ∀ H e st, CX [] H s (fun _ _ _ => False) e st → False) :
    codeAny (model P w) callerA (.call (.ref f) ⟨[.ref p], []⟩) (fun r st => r = .ok (.ret (.bool true)) ∧ OldK s.heap st.heap ∧ st.os = s.os ∧ AllBare st.gens) s := by
  have tabAt : ∀ c ∈ ts.map Prod.snd, s.heap.get? c = some { cls := .none, data := .fields #[] } := by
    intro c hc
    obtain ⟨t, ht, rfl⟩ := List.mem_map.mp hc
    exact bare t ht
  have inTs : ∀ {t : Addr × Addr}, t ∈ ts → t.2 ∈ ts.map Prod.snd := fun ht => List.mem_map_of_mem ht
  have pNo : ¬ p ∈ ts.map Prod.snd := by
    intro hp
    have both := (tabAt p hp).symm.trans script
    have kinds := congrArg (fun o : Option Obj => o.map Obj.cls) both
    simp at kinds
  have main : ∀ H : Hp, (∀ t ∈ ts, H t.2 = some (.tbl #[])) → (∀ c, H c = none ∨ c ∈ ts.map Prod.snd ∨ ∃ o ys, H c = some (.frz o (.lst ys))) → SqL K H p (zs.map V.int) → HOk P w H s.heap → (∀ c, H c ≠ none → c = p ∨ c ∈ ts.map Prod.snd) → (H p ≠ none → K.lookup p = none) →
      codeAny (model P w) callerA (.call (.ref f) ⟨[.ref p], []⟩) (fun r st => r = .ok (.ret (.bool true)) ∧ OldK s.heap st.heap ∧ st.os = s.os ∧ AllBare st.gens) s := by
    intro H tabs kinds list ok alone off
    have free : ∀ {c : Addr} {o : Obj}, s.heap.get? c = some o → (∀ ys m, ¬ o.data = .seq ys m) → ¬ o.data = .fields #[] → H c = none := by
      intro c o ho n1 n2
      refine Classical.byContradiction fun some_ => ?_
      rcases alone c some_ with rfl | hc
      · cases Option.some.inj (ho.symm.trans script)
        exact n1 _ _ rfl
      · cases Option.some.inj (ho.symm.trans (tabAt c hc))
        exact n2 rfl
    have names : ∀ {c : Addr} {m : Str → Option Value}, s.heap.Ns c m → (hidT s.heap H).Ns c m := by
      rintro c m ⟨o, es, ep, ho, dz, more⟩
      refine ⟨o, es, ep, hidT_get ho (free ho (fun ys j z => ?_) fun z => ?_), dz, more⟩ <;> exact Data.noConfusion (dz.symm.trans z)
    have inB : K.In (hidT s.heap H) := by
      intro c o ho
      refine hidT_get (inK c o ho) (Classical.byContradiction fun some_ => ?_)
      rcases alone c some_ with rfl | hc
      · exact absurd (ho.symm.trans (off some_)) (by simp)
      · obtain ⟨t, ht, rfl⟩ := List.mem_map.mp hc
        exact absurd (ho.symm.trans (out t ht)) (by simp)
    obtain ⟨ml, l1, l2⟩ := lim
    have mod : L2.Mod K mg (hidT s.heap H) := ⟨inB, names gl, ⟨mb, names bl, boot⟩, ⟨ml, names l1, l2⟩⟩
    have tables : ∀ t ∈ ts, LamX.TabB (hidT s.heap H) mg t.1 t.2 := by
      intro t ht
      constructor
      · obtain ⟨o, ys, file, tf, flags, tg, inF, text, tt, c1, c2, c3, c4, c5, c6, c7, c8, c9, c10⟩ := code t ht
        refine ⟨o, ys, file, tf, flags, tg, inF, text, tt, hidT_get c1 (free c1 (fun us j z => Data.noConfusion (c3.symm.trans z)) fun z => ?_), c2, c3, c4, c5, c6, c7, c8, c9, c10⟩
        have z2 := c3.symm.trans z
        cases z2
        simp at c4
      · obtain ⟨m, o, b1, b2, b3, b4, b5, b6⟩ := bmod
        refine ⟨m, o, b1, b2, fun z => ?_, fun z => ?_, hidT_get b3 (free b3 (fun us j z => Data.noConfusion (b6.symm.trans z)) fun z => Data.noConfusion (b6.symm.trans z)), b4, b5, b6⟩
        · obtain ⟨o', es, ep, ho, dz, _⟩ := gl
          subst z
          cases Option.some.inj (b3.symm.trans ho)
          exact Data.noConfusion (b6.symm.trans dz)
        · subst z
          cases Option.some.inj (b3.symm.trans (bare t ht))
          exact Data.noConfusion b6
      · intro z
        obtain ⟨o', es, ep, ho, dz, _⟩ := gl
        rw [z] at ho
        cases Option.some.inj (ho.symm.trans (bare t ht))
        exact Data.noConfusion dz
    have env : Env0 P w K mg (hidT s.heap H) callerA [] s H := { frames := rfl, mod := mod, bs := fun c o z => of_hidT z, bsz := Nat.le_of_eq (hidT_size _ _), funs := trivial, frf := (fun c hc => by cases (show c ∈ ([] : List Addr) from hc)), hok := ok, bare := .of_eq ng }
    refine codeAny_mono ((F _ inB (names gl) tables).go callerA rfl room [] s H _ [.ref p] [.ref p] _ _ env (bound s (.ref p)) (.cons rfl .nil) (told H tabs list)) fun r st z => ?_
    match r, z with
    | .error e, z => exact (noX H e st z).elim
    | .ok .next, z => exact z.elim
    | .ok .brk, z => exact z.elim
    | .ok .cont, z => exact z.elim
    | .ok (.ret u), ⟨v, H2, os, bg, un, ok2, rel, q⟩ =>
      cases (show v = V.bl true from q)
      cases (show u = Value.bool true from rel)
      have old : ∀ c o, ¬ c ∈ ts.map Prod.snd → s.heap.get? c = some o → st.heap.get? c = some o := by
        intro c o nc ho
        by_cases hc : H c = none
        · exact un.keep c o ho hc (fun m => by cases (show c ∈ ([] : List Addr) from m)) (fun m => by cases m)
        · rcases kinds c with n | n | ⟨ob, ys, fz⟩
          · exact absurd n hc
          · exact absurd n nc
          · have o1 := (ok c _ fz).1
            have o2 := (ok2 c _ (un.frzs c ob _ fz)).1
            rw [ho] at o1
            rw [Option.some.inj o1]
            exact o2
      have grown : ∀ c ∈ ts.map Prod.snd, ∃ more : Array Value, st.heap.get? c = some { cls := .none, data := .fields more } := by
        intro c hc
        obtain ⟨t, ht, rfl⟩ := List.mem_map.mp hc
        obtain ⟨more, hm⟩ := un.tbls t.2 #[] (tabs t ht)
        exact ⟨_, ok2 t.2 _ hm⟩
      refine ⟨rfl, ⟨fun c o ho => ?_, fun c o ho => ?_⟩, os, bg⟩
      · by_cases hc : c ∈ ts.map Prod.snd
        · obtain ⟨more, hm⟩ := grown c hc
          obtain ⟨t, ht, rfl⟩ := List.mem_map.mp hc
          cases Option.some.inj (ho.symm.trans (bare t ht))
          exact .inr (.inl ⟨((code t ht).tab (bare t ht)).isCodeTable, rfl, #[], more, rfl, by rw [Array.empty_append]; exact hm⟩)
        · exact .inl (old c o hc ho)
      · by_cases hc : c ∈ ts.map Prod.snd
        · obtain ⟨more, hm⟩ := grown c hc
          exact ⟨_, hm⟩
        · exact ⟨o, old c o hc ho⟩
  have rel := vals_ints are
  let base : Hp := fun c => if c ∈ ts.map Prod.snd then some (.tbl #[]) else none
  have onT : ∀ {c : Addr}, c ∈ ts.map Prod.snd → base c = some (.tbl #[]) := fun hc => if_pos hc
  have offT : ∀ {c : Addr}, ¬ c ∈ ts.map Prod.snd → base c = none := fun hc => if_neg hc
  cases hk : K.lookup p with
  | some o =>
    cases Option.some.inj ((inK p o hk).symm.trans script)
    refine main base (fun t ht => onT (inTs ht)) (fun c => ?_) (.inr ⟨_, us.toArray, _, hk, rfl, rfl, rfl, by rw [List.size_toArray, are.length]; exact small, by simpa using rel⟩) (fun c u z => ?_) (fun c z => ?_) fun z => absurd (offT pNo) z
    · rcases Classical.em (c ∈ ts.map Prod.snd) with hc | hc
      · exact .inr (.inl hc)
      · exact .inl (offT hc)
    · rcases Classical.em (c ∈ ts.map Prod.snd) with hc | hc
      · cases Option.some.inj ((onT hc).symm.trans z)
        exact tabAt c hc
      · exact absurd ((offT hc).symm.trans z) (by simp)
    · exact .inr (Classical.byContradiction fun hc => z (offT hc))
  | none =>
    let frz : HO := .frz { cls := .type "list", data := .seq us.toArray } (.lst (zs.map V.int))
    have onP : (fun c => if c = p then some frz else base c) p = some frz := if_pos rfl
    have offP : ∀ {c : Addr}, ¬ c = p → (fun c => if c = p then some frz else base c) c = base c := fun hc => if_neg hc
    refine main (fun c => if c = p then some frz else base c) (fun t ht => ?_) (fun c => ?_) (.inl (.inr ⟨_, onP⟩)) (fun c u z => ?_) (fun c z => ?_) fun _ => hk
    · refine (offP fun e => pNo ?_).trans (onT (inTs ht))
      rw [← e]
      exact inTs ht
    · rcases Classical.em (c = p) with rfl | e
      · exact .inr (.inr ⟨_, _, onP⟩)
      · rcases Classical.em (c ∈ ts.map Prod.snd) with hc | hc
        · exact .inr (.inl hc)
        · exact .inl ((offP e).trans (offT hc))
    · rcases Classical.em (c = p) with rfl | e
      · cases Option.some.inj (onP.symm.trans z)
        exact ⟨script, by rw [List.length_map]; exact small, us, _, rel, script⟩
      · have z := (offP e).symm.trans z
        rcases Classical.em (c ∈ ts.map Prod.snd) with hc | hc
        · cases Option.some.inj ((onT hc).symm.trans z)
          exact tabAt c hc
        · exact absurd ((offT hc).symm.trans z) (by simp)
    · rcases Classical.em (c = p) with e | e
      · exact .inl e
      · exact .inr (Classical.byContradiction fun hc => z ((offP e).trans (offT hc)))
theorem walk_GT {l : PySem.W.OpenLaw} {n k : Nat} {q : Program} {loose : List Str} {XP : (Str → Option Value) → Heap → Prop} {YP : World → Heap → Prop} {d : DefRec} {CX : World → CXT} {x : Str}
    (most : l.most = some n) (small : n ≤ sizeLine) (nodef : d.params.defaults = []) (room : Room k callerA)
    (F : ∀ (w : World) (mg : Str → Option Value) (f : Addr) (top : Heap), YP w top → top.Ns mainGlobals mg → mg d.name = some (.ref f) → ∃ K : PySem.W.Frag, K.In top ∧ LawAtG l w K (CX w) k n x mg f top)
    (noX : ∀ (w : World) (H : Hp) (s : Shared) (e : Value) (st : Shared), CX w [] H s (fun _ _ _ => False) e st → False) :
    PySem.W.WalkO q loose XP YP l.row.toRowW d [] (fun f vs => PySem.call f vs) := by
  refine Att.attach_callB most nodef fun w s0 s mg mb f o pm cd doc p us zs G Y ho hd hcd named script are few bits ng => ?_
  obtain ⟨K, inK, fd, ts, sp, bare, out, code, bound, told, FG⟩ := F w mg f _ Y G.T.g named
  exact law_GT inK G.T.g G.T.b G.T.builtins G.T.nolimit ng bare out code G.T.bmain script are (Nat.le_trans few small) room FG bound (fun H tabs list => told H p zs few bits tabs list) fun H e st => noX w H s e st

section
variable {P : Program} {w : World} {K : PySem.W.Frag} {mg : Str → Option Value} {base : Heap}
/-! ### sizes of what is shown -/
def fineB (n m : Nat) (d : PyData) : Bool := d.showable && (d.leavesShort 200 && (decide (d.weight ≤ n) && decide (d.depth ≤ m)))
theorem fine_iff {n m : Nat} {d : PyData} : fineB n m d = true ↔ d.showable = true ∧ d.leavesShort 200 = true ∧ d.weight ≤ n ∧ d.depth ≤ m := by
  unfold fineB
  rw [Bool.and_eq_true, Bool.and_eq_true, Bool.and_eq_true, decide_eq_true_eq, decide_eq_true_eq]
theorem fine_mono {n m n' m' : Nat} {d : PyData} (h : fineB n m d = true) (a : n ≤ n') (b : m ≤ m') : fineB n' m' d = true := by
  obtain ⟨h1, h2, h3, h4⟩ := fine_iff.mp h
  exact fine_iff.mpr ⟨h1, h2, Nat.le_trans h3 a, Nat.le_trans h4 b⟩
theorem fine_fits {n m : Nat} {d : PyData} (h : fineB n m d = true) (hn : n ≤ 50000) : d.shown.length ≤ sizeLine := by
  obtain ⟨_, h2, h3, _⟩ := fine_iff.mp h
  have := PyData.shown_le 200 (by decide) d h2
  have e : sizeLine = 16777216 := by decide
  rw [e]
  omega
theorem fine_all {n m : Nat} : ∀ {ds : List PyData}, (∀ d ∈ ds, fineB n m d = true) → PyData.showableAll ds = true ∧ PyData.leavesShortAll 200 ds = true ∧ PyData.weightAll ds ≤ ds.length * (n + 1) ∧ PyData.depthAll ds ≤ m
  | [], _ => ⟨rfl, rfl, Nat.zero_le _, Nat.zero_le _⟩
  | d :: r, h => by
    obtain ⟨a1, a2, a3, a4⟩ := fine_iff.mp (h d (List.mem_cons_self ..))
    obtain ⟨b1, b2, b3, b4⟩ := fine_all (ds := r) fun x hx => h x (List.mem_cons_of_mem _ hx)
    refine ⟨?_, ?_, ?_, ?_⟩
    · unfold PyData.showableAll
      rw [a1, b1]
      rfl
    · unfold PyData.leavesShortAll
      rw [a2, b2]
      rfl
    · unfold PyData.weightAll
      rw [List.length_cons, Nat.succ_mul]
      omega
    · unfold PyData.depthAll
      omega
theorem fine_tup {n m k : Nat} {ds : List PyData} (h : ∀ d ∈ ds, fineB n m d = true) (hk : ds.length ≤ k) : fineB (k * (n + 1)) (m + 1) (.tuple ds) = true := by
  obtain ⟨b1, b2, b3, b4⟩ := fine_all h
  refine fine_iff.mpr ⟨b1, b2, ?_, ?_⟩
  · show PyData.weightAll ds ≤ _
    exact Nat.le_trans b3 (Nat.mul_le_mul_right _ hk)
  · show PyData.depthAll ds + 1 ≤ _
    omega
theorem fine_lst {n m k : Nat} {ds : List PyData} (h : ∀ d ∈ ds, fineB n m d = true) (hk : ds.length ≤ k) : fineB (k * (n + 1)) (m + 1) (.list ds) = true := by
  obtain ⟨b1, b2, b3, b4⟩ := fine_all h
  refine fine_iff.mpr ⟨b1, b2, ?_, ?_⟩
  · show PyData.weightAll ds ≤ _
    exact Nat.le_trans b3 (Nat.mul_le_mul_right _ hk)
  · show PyData.depthAll ds + 1 ≤ _
    omega
/-! ### heaps without some places -/
def hid (as : List Addr) (H : Hp) : Hp := fun b => if b ∈ as then none else H b
theorem hid_at {as : List Addr} {H : Hp} {b : Addr} (h : b ∉ as) : hid as H b = H b := if_neg h
theorem hid_in {as : List Addr} {H : Hp} {b : Addr} (h : b ∈ as) : hid as H b = none := if_pos h
theorem hid_le {as : List Addr} {H : Hp} : Same (hid as H) H := fun b o e => by
  by_cases h : b ∈ as
  · rw [hid_in h] at e; cases e
  · rw [hid_at h] at e; exact e
theorem hid_sub {as bs : List Addr} {H : Hp} (h : ∀ b ∈ bs, b ∈ as) : Same (hid as H) (hid bs H) := fun b o e => by
  by_cases ha : b ∈ as
  · rw [hid_in ha] at e; cases e
  · rw [hid_at ha] at e
    rw [hid_at (fun z => ha (h b z))]
    exact e
theorem hid_same {as : List Addr} {H H' : Hp} (s : Same H H') : Same (hid as H) (hid as H') := fun b o e => by
  by_cases ha : b ∈ as
  · rw [hid_in ha] at e; cases e
  · rw [hid_at ha] at e ⊢
    exact s _ _ e
theorem hid_fr {as : List Addr} {d l : Addr} {H H' : Hp} (f : Fr d l H H') (hd : d ∈ as) (hl : l ∈ as) : Same (hid as H) (hid as H') := fun b o e => by
  by_cases ha : b ∈ as
  · rw [hid_in ha] at e; cases e
  · rw [hid_at ha] at e ⊢
    exact f _ _ (fun z => ha (z ▸ hd)) (fun z => ha (z ▸ hl)) e
theorem hid_upd {as : List Addr} {H : Hp} {p : Addr} {o : HO} (h : p ∈ as) : Same (hid as H) (hid as (upd H p o)) := fun b x e => by
  by_cases ha : b ∈ as
  · rw [hid_in ha] at e; cases e
  · rw [hid_at ha] at e ⊢
    rw [upd_ne (show b ≠ p from fun z => ha (by rw [z]; exact h))]
    exact e
theorem ShAll.get {H : Hp} : ∀ {xs : List V} {ds : List PyData} {j : Nat} {x : V}, ShAll H xs ds → xs[j]? = some x → ∃ d, ds[j]? = some d ∧ Sh H x d
  | _, _, _, _, .nil, h => by simp at h
  | _, _, 0, _, .cons (d := d) a _, h => by
    cases (Option.some.inj h)
    exact ⟨d, rfl, a⟩
  | _, _, j + 1, _, .cons _ t, h => t.get h
theorem ShAll.append {H : Hp} : ∀ {xs ys : List V} {ds es : List PyData}, ShAll H xs ds → ShAll H ys es → ShAll H (xs ++ ys) (ds ++ es)
  | _, _, _, _, .nil, t => t
  | _, _, _, _, .cons a r, t => .cons a (r.append t)
theorem ShAll.take {H : Hp} : ∀ {xs : List V} {ds : List PyData} (n : Nat), ShAll H xs ds → ShAll H (xs.take n) (ds.take n)
  | _, _, 0, _ => by rw [List.take_zero, List.take_zero]; exact .nil
  | _, _, n + 1, .nil => .nil
  | _, _, n + 1, .cons a r => .cons a (r.take n)
theorem ShAll.drop {H : Hp} : ∀ {xs : List V} {ds : List PyData} (n : Nat), ShAll H xs ds → ShAll H (xs.drop n) (ds.drop n)
  | _, _, 0, h => h
  | _, _, n + 1, .nil => .nil
  | _, _, n + 1, .cons _ r => r.drop n
theorem ShAll.set {H : Hp} {y : V} {e : PyData} (h : Sh H y e) : ∀ {xs : List V} {ds : List PyData} (j : Nat), ShAll H xs ds → ShAll H (xs.set j y) (ds.set j e)
  | _, _, _, .nil => .nil
  | _, _, 0, .cons _ r => .cons h r
  | _, _, j + 1, .cons a r => .cons a (ShAll.set h j r)
theorem ShAll.erase {H : Hp} : ∀ {xs : List V} {ds : List PyData} (j : Nat), ShAll H xs ds → ShAll H (xs.eraseIdx j) (ds.eraseIdx j)
  | _, _, _, .nil => .nil
  | _, _, 0, .cons _ r => r
  | _, _, j + 1, .cons a r => .cons a (r.erase j)
theorem Deck.out {H H' : Hp} {d l p : Addr} (D : Deck H d l) (s : Same H H') (n : H' p = none) : p ∉ [d, l] := by
  obtain ⟨a, b⟩ := (D.same s).ne_new n
  intro h
  rcases List.mem_cons.mp h with h | h
  · exact a h
  · rcases List.mem_cons.mp h with h | h
    · exact b h
    · cases h
theorem upd2_same {H : Hp} {p : Addr} {o o' : HO} (h : H p = none) : Same H (upd (upd H p o) p o') := fun b x e => by
  rw [upd_ne (ne_of_none e h), upd_ne (ne_of_none e h)]
  exact e
theorem at_some {xs : List V} {j : Int} (h0 : 0 ≤ j) (h1 : j < xs.length) : ∃ (k : Nat) (x : V), k < xs.length ∧ xs[k]? = some x ∧ atI xs j = some x ∧ ixN xs.length j = some k ∧ j = (k : Int) := by
  obtain ⟨k, rfl⟩ : ∃ k : Nat, j = (k : Int) := ⟨j.toNat, (Int.toNat_of_nonneg h0).symm⟩
  have hk : k < xs.length := by omega
  refine ⟨k, xs[k], hk, List.getElem?_eq_getElem hk, atI_nat (List.getElem?_eq_getElem hk), ?_, rfl⟩
  unfold ixN
  rw [if_pos h0, if_pos h1]
  rfl

/-! ### the deck -/
def sp_deck (K : PySem.W.Frag) : Sp := fun vs H Q _ => ∃ (a : Addr) (ns : List Int), vs = [.ref a] ∧ SqL K H a (ns.map V.int) ∧ ns.length ≤ 63 ∧ ∀ H' d l, Same H H' → Deck H' d l → Q (.ref d) H'
theorem cut63 {ns : List Int} (h : ns.length ≤ 63) : cutV (ns.map V.int) none (some 63) = ns.map V.int := by
  unfold cutV
  have e : HT.sIx (ns.map V.int).length (ns.map V.int).length (some 63) = min 63 (ns.map V.int).length := HT.sIx_nat _ _ 63
  rw [HT.sIx_none, e, List.length_map, List.drop_zero]
  apply List.take_of_length_le
  rw [List.length_map]
  omega
theorem ok_deck (T : Tx K mg) : FnOk P w K mg base CX0 1 T.f_deck T.fd_deck ["_law_script"] (sp_deck K) := by
  refine T.F_deck.ok sc_deck (fun vs H Q E h => ?_) (fun cdv A outer s H vs Q E hr h => ?_)
  · obtain ⟨a, ns, rfl, _⟩ := h
    rfl
  · obtain ⟨a, ns, rfl, hS, hlen, q⟩ := h
    refine ⟨_, (pss_cons (ps_set (i := 1) sc_deck.nd rfl (by first | exact .inl rfl | exact .inr rfl) (pe_op op_add pe_int (pe_op op_mod (pe_callB (cr_sum rfl) (by rfl) T.m_sum (by decide +kernel) (pa_cons (pe_slice sl_list (pv 0) po_none (po_some pe_int)) pa_nil)) pe_int))) (pss_one (ps_ret (pe_lst (pa_cons (pe_callTy call_list_of (by rfl) T.m_list (by decide +kernel) (pa_cons (pe_slice sl_list (pv 0) po_none (po_some pe_int)) pa_nil)) (pa_cons (pv 1) pa_nil)))))), ?_⟩
    refine ⟨.ref a, rfl, 63, rfl, a, _, rfl, hS, fun c nc => ?_⟩
    rw [cut63 hlen]
    have s1 : Same H (upd H c (.lst (ns.map V.int))) := same_upd nc
    refine ⟨c, ns, rfl, SqL.of upd_same, _, _, rfl, rfl, p29, _, _, rfl, rfl, ?_⟩
    refine ⟨.ref a, rfl, 63, rfl, a, _, rfl, s1.seq hS, fun c2 nc2 => ?_⟩
    rw [cut63 hlen]
    refine ⟨c2, _, rfl, .inl (SqL.of upd_same), fun l nl => ?_⟩
    refine ⟨_, rfl, sl2, fun d nd => ?_⟩
    have nld : l ≠ d := fun e => by rw [← e, upd_same] at nd; cases nd
    refine q _ d l (((s1.trans (same_upd nc2)).trans (same_upd nl)).trans (same_upd nd)) ⟨nld.symm, ns, _, upd_same, (by rw [upd_ne nld, upd_same]), hlen, ?_, ?_⟩
    · have := Int.emod_nonneg ns.sum (show (2147483629 : Int) ≠ 0 by decide)
      omega
    · have := Int.emod_lt_of_pos ns.sum (show (0 : Int) < 2147483629 by decide)
      omega
/-! ### a draw -/
def sp_draw (K : PySem.W.Frag) : Sp := fun vs H Q _ => ∃ (d l : Addr) (m : Int), vs = [.ref d, .int m] ∧ Deck H d l ∧ 0 < m ∧ m < 1073741824 ∧ ∀ H' v, Deck H' d l → Fr d l H H' → 0 ≤ v → v < m → Q (.int v) H'
theorem ok_draw (T : Tx K mg) : FnOk P w K mg base CX0 1 T.f_draw T.fd_draw ["_law_deck_here", "_law_most"] (sp_draw K) := by
  refine T.F_draw.ok sc_draw (fun vs H Q E h => ?_) (fun cdv A outer s H vs Q E hr h => ?_)
  · obtain ⟨d, l, m, rfl, _⟩ := h
    rfl
  · obtain ⟨d, l, m, rfl, D, hm0, hm1, q⟩ := h
    obtain ⟨ne, cs, z, hd, hl, hcs, hz0, hz1⟩ := D
    refine ⟨_, (pss_cons (ps_if (pt_cmpR (op_eqD hr.units) (pe_ix ix_list (pv 0) pe_int (fun _ _ => rfl)) (pe_lst pa_nil) (nomark _)) (pss_cons (ps_asg (pe_op op_mod (pe_op op_add (pe_op op_add (pe_op op_mul (pe_ix ix_list (pv 0) pe_int (fun _ _ => rfl)) (pe_ix ix_list (pv 0) pe_int (fun _ _ => rfl))) (pe_op op_mul pe_int (pe_ix ix_list (pv 0) pe_int (fun _ _ => rfl)))) pe_int) pe_int) (pg_sub (pv 0) pe_int set_list)) (pss_cons (ps_asg (pe_op op_mod (pe_op op_add (pe_op op_add (pe_op op_mul (pe_ix ix_list (pv 0) pe_int (fun _ _ => rfl)) (pe_ix ix_list (pv 0) pe_int (fun _ _ => rfl))) (pe_op op_mul pe_int (pe_ix ix_list (pv 0) pe_int (fun _ _ => rfl)))) pe_int) pe_int) (pg_sub (pv 0) pe_int set_list)) (pss_one (ps_ret (pe_op op_mod (pe_op op_fdiv (pe_ix ix_list (pv 0) pe_int (fun _ _ => rfl)) pe_int) (pv 1)))))) pss_nil) (pss_cons (ps_set (i := 2) sc_draw.nd rfl (by first | exact .inl rfl | exact .inr rfl) (pe_bm PySem.F.plainAttrs_list PySem.F.slot_list_pop PySem.F.type_list_pop mt_popAt (pe_ix ix_list (pv 0) pe_int (fun _ _ => rfl)) (pa_cons pe_int pa_nil))) (pss_cons (ps_if (pt_cmpR op_ge (pv 2) (pe_op op_pow pe_int pe_int) (nomark _)) (pss_cons (ps_expr (pe_bm PySem.F.plainAttrs_list PySem.F.slot_list_insert PySem.F.type_list_insert mt_insert (pe_ix ix_list (pv 0) pe_int (fun _ _ => rfl)) (pa_cons pe_int (pa_cons (pe_op op_fdiv (pv 2) (pv 1)) pa_nil)))) (pss_one (ps_ret (pe_op op_mod (pv 2) (pv 1))))) pss_nil) (pss_cons (ps_asg (pe_op op_mod (pe_op op_add (pe_ix ix_list (pv 0) pe_int (fun _ _ => rfl)) pe_int) pe_int) (pg_sub (pv 0) pe_int set_list)) (pss_cons (ps_set (i := 3) sc_draw.nd rfl (by first | exact .inl rfl | exact .inr rfl) (pe_op op_mod (pe_op op_add (pe_op op_mul (pe_op op_mod (pv 2) pe_int) pe_int) (pe_ix ix_list (pv 0) pe_int (fun _ _ => rfl))) pe_int)) (pss_one (ps_ret (pe_op op_mod (pe_op op_fdiv (pe_op op_mod (pe_op op_add (pe_op op_mul (pv 3) (pv 3)) (pe_op op_mul pe_int (pv 3))) pe_int) pe_int) (pv 1))))))))), ?_⟩
    -- if deck[0] == []
    refine ⟨.ref d, rfl, d, _, 0, .ref l, rfl, rfl, SqL.of hd, rfl, Nat.zero_le _, fun p np => ?_⟩
    have fr1 : Fr d l H (upd H p (.lst [])) := Fr.new np
    have hd1 : (upd H p (.lst [])) d = some (.lst [.ref l, .int z]) := same_upd np _ _ hd
    have hl1 : (upd H p (.lst [])) l = some (.lst (cs.map V.int)) := same_upd np _ _ hl
    refine ⟨.list (cs.map .int), .list [], .lst (SqL.of hl1) (dpInts cs), .lst (SqL.of upd_same) .nil, shInts cs, rfl, _, rfl, ?_⟩
    revert fr1 hd1 hl1
    generalize upd H p (.lst []) = H1
    intro fr1 hd1 hl1
    cases cs with
    | nil =>
      refine iteT ?_
      -- two stores
      refine ⟨.ref d, rfl, d, _, 1, .int z, rfl, rfl, SqL.of hd1, rfl, .ref d, rfl, d, _, 1, .int z, rfl, rfl, SqL.of hd1, rfl, z, z, rfl, rfl, .inl ⟨by omega, by omega⟩, .ref d, rfl, d, _, 1, .int z, rfl, rfl, SqL.of hd1, rfl, 48271, z, rfl, rfl, .inl ⟨by decide, by decide⟩, _, _, rfl, rfl, _, _, rfl, rfl, _, _, rfl, rfl, p47, .ref d, rfl, d, _, 1, 1, rfl, rfl, hd1, rfl, ?_⟩
      dsimp only
      have y0 := Int.emod_nonneg (z * z + 48271 * z + 11) (show (2147483647 : Int) ≠ 0 by decide)
      have y1 := Int.emod_lt_of_pos (z * z + 48271 * z + 11) (show (0 : Int) < 2147483647 by decide)
      revert y0 y1
      generalize (z * z + 48271 * z + 11) % 2147483647 = y
      intro y0 y1
      have hd2 : (upd H1 d (.lst [.ref l, .int y])) d = some (.lst [.ref l, .int y]) := upd_same
      have hl2 : (upd H1 d (.lst [.ref l, .int y])) l = some (.lst []) := by rw [upd_ne ne.symm]; exact hl1
      have fr2 : Fr d l H (upd H1 d (.lst [.ref l, .int y])) := fr1.trans Fr.d
      refine ⟨.ref d, rfl, d, _, 1, .int y, rfl, rfl, SqL.of hd2, rfl, .ref d, rfl, d, _, 1, .int y, rfl, rfl, SqL.of hd2, rfl, y, y, rfl, rfl, .inl ⟨by omega, by omega⟩, .ref d, rfl, d, _, 1, .int y, rfl, rfl, SqL.of hd2, rfl, 69621, y, rfl, rfl, .inl ⟨by decide, by decide⟩, _, _, rfl, rfl, _, _, rfl, rfl, _, _, rfl, rfl, p29, .ref d, rfl, d, _, 1, 1, rfl, rfl, hd2, rfl, ?_⟩
      dsimp only
      have x0 := Int.emod_nonneg (y * y + 69621 * y + 7) (show (2147483629 : Int) ≠ 0 by decide)
      have x1 := Int.emod_lt_of_pos (y * y + 69621 * y + 7) (show (0 : Int) < 2147483629 by decide)
      revert x0 x1
      generalize (y * y + 69621 * y + 7) % 2147483629 = x
      intro x0 x1
      refine ⟨.ref d, rfl, d, _, 1, .int x, rfl, rfl, SqL.of upd_same, rfl, _, _, rfl, rfl, ⟨by decide, by decide⟩, .int m, rfl, _, _, rfl, rfl, hm0, ?_⟩
      exact q _ _ ⟨ne, [], x, upd_same, (by rw [upd_ne ne.symm]; exact hl2), hcs, by omega, by omega⟩ (fr2.trans Fr.d) (Int.emod_nonneg _ (by omega)) (Int.emod_lt_of_pos _ hm0)
    | cons c r =>
      refine iteF ?_
      -- cell = deck[0].pop(0)
      refine ⟨.ref d, rfl, d, _, 0, .ref l, rfl, rfl, SqL.of hd1, rfl, .inl ⟨rfl, _, SqL.of hl1⟩, l, _, 0, 0, .int c, rfl, rfl, hl1, by decide, by decide, seqIx0 _ _, rfl, ?_⟩
      have hd2 : (upd H1 l (.lst (r.map V.int))) d = some (.lst [.ref l, .int z]) := by rw [upd_ne ne]; exact hd1
      have hl2 : (upd H1 l (.lst (r.map V.int))) l = some (.lst (r.map V.int)) := upd_same
      have fr2 : Fr d l H (upd H1 l (.lst (r.map V.int))) := fr1.trans Fr.l
      have hr63 : r.length + 1 ≤ 63 := hcs
      -- if cell >= 10 ** 18
      refine ⟨.int c, rfl, _, _, rfl, rfl, ⟨by decide, by decide, by decide⟩, _, _, rfl, rfl, _, rfl, ite2 (fun _ => ?_) (fun _ => ?_)⟩
      · refine ⟨.ref d, rfl, d, _, 0, .ref l, rfl, rfl, SqL.of hd2, rfl, .inl ⟨rfl, _, SqL.of hl2⟩, .int c, rfl, .int m, rfl, _, _, rfl, rfl, ⟨hm0, hm1⟩, l, _, 0, _, rfl, rfl, hl2, ?_, by decide, by decide, ?_⟩
        · rw [List.length_map]
          exact Nat.lt_of_lt_of_le (show r.length < 64 by omega) (by decide)
        · refine ⟨.int c, rfl, .int m, rfl, _, _, rfl, rfl, hm0, ?_⟩
          refine q _ _ ⟨ne, c / m :: r, z, (by rw [upd_ne ne]; exact hd2), ?_, hr63, hz0, hz1⟩ (fr2.trans Fr.l) (Int.emod_nonneg _ (by omega)) (Int.emod_lt_of_pos _ hm0)
          rw [upd_same]
          simp
      · refine ⟨.ref d, rfl, d, _, 1, .int z, rfl, rfl, SqL.of hd2, rfl, _, _, rfl, rfl, _, _, rfl, rfl, p29, .ref d, rfl, d, _, 1, 1, rfl, rfl, hd2, rfl, ?_⟩
        dsimp only
        have y0 := Int.emod_nonneg (z + 69621) (show (2147483629 : Int) ≠ 0 by decide)
        have y1 := Int.emod_lt_of_pos (z + 69621) (show (0 : Int) < 2147483629 by decide)
        revert y0 y1
        generalize (z + 69621) % 2147483629 = y
        intro y0 y1
        have u0 := Int.emod_nonneg c (show (2147483647 : Int) ≠ 0 by decide)
        have u1 := Int.emod_lt_of_pos c (show (0 : Int) < 2147483647 by decide)
        refine ⟨.int c, rfl, _, _, rfl, rfl, p47, c % 2147483647, 48271, rfl, rfl, .inl ⟨by omega, by omega⟩, .ref d, rfl, d, _, 1, .int y, rfl, rfl, SqL.of upd_same, rfl, _, _, rfl, rfl, _, _, rfl, rfl, p29, ?_⟩
        dsimp only
        have v0 := Int.emod_nonneg (c % 2147483647 * 48271 + y) (show (2147483629 : Int) ≠ 0 by decide)
        have v1 := Int.emod_lt_of_pos (c % 2147483647 * 48271 + y) (show (0 : Int) < 2147483629 by decide)
        revert v0 v1
        generalize (c % 2147483647 * 48271 + y) % 2147483629 = v
        intro v0 v1
        refine ⟨.int v, rfl, .int v, rfl, v, v, rfl, rfl, .inl ⟨by omega, by omega⟩, .int v, rfl, 16807, v, rfl, rfl, .inl ⟨by decide, by decide⟩, _, _, rfl, rfl, _, _, rfl, rfl, p87, _, _, rfl, rfl, ⟨by decide, by decide⟩, .int m, rfl, _, _, rfl, rfl, hm0, ?_⟩
        exact q _ _ ⟨ne, r, y, upd_same, (by rw [upd_ne ne.symm]; exact hl2), by omega, by omega, by omega⟩ (fr2.trans Fr.d) (Int.emod_nonneg _ (by omega)) (Int.emod_lt_of_pos _ hm0)

/-! ### kinds of data -/
def isIntD : PyData → Bool
  | .int _ => true
  | .bool _ => true
  | _ => false
def isBoolD : PyData → Bool
  | .bool _ => true
  | _ => false
def isTupD : PyData → Bool
  | .tuple _ => true
  | _ => false
def isStrD : PyData → Bool
  | .str _ => true
  | _ => false
theorem kitInt : ∀ d : PyData, kitB (tyD d) "int" = some (isIntD d)
  | .none => (by decide +kernel : kitB "NoneType" "int" = some false)
  | .bool _ => (by decide +kernel : kitB "bool" "int" = some true)
  | .int _ => (by decide +kernel : kitB "int" "int" = some true)
  | .str _ => (by decide +kernel : kitB "str" "int" = some false)
  | .list _ => (by decide +kernel : kitB "list" "int" = some false)
  | .tuple _ => (by decide +kernel : kitB "tuple" "int" = some false)
  | .dict _ => (by decide +kernel : kitB "dict" "int" = some false)
theorem kitBool : ∀ d : PyData, kitB (tyD d) "bool" = some (isBoolD d)
  | .none => (by decide +kernel : kitB "NoneType" "bool" = some false)
  | .bool _ => (by decide +kernel : kitB "bool" "bool" = some true)
  | .int _ => (by decide +kernel : kitB "int" "bool" = some false)
  | .str _ => (by decide +kernel : kitB "str" "bool" = some false)
  | .list _ => (by decide +kernel : kitB "list" "bool" = some false)
  | .tuple _ => (by decide +kernel : kitB "tuple" "bool" = some false)
  | .dict _ => (by decide +kernel : kitB "dict" "bool" = some false)
theorem kitTup : ∀ d : PyData, kitB (tyD d) "tuple" = some (isTupD d)
  | .none => (by decide +kernel : kitB "NoneType" "tuple" = some false)
  | .bool _ => (by decide +kernel : kitB "bool" "tuple" = some false)
  | .int _ => (by decide +kernel : kitB "int" "tuple" = some false)
  | .str _ => (by decide +kernel : kitB "str" "tuple" = some false)
  | .list _ => (by decide +kernel : kitB "list" "tuple" = some false)
  | .tuple _ => (by decide +kernel : kitB "tuple" "tuple" = some true)
  | .dict _ => (by decide +kernel : kitB "dict" "tuple" = some false)
theorem kitStr : ∀ d : PyData, kitB (tyD d) "str" = some (isStrD d)
  | .none => (by decide +kernel : kitB "NoneType" "str" = some false)
  | .bool _ => (by decide +kernel : kitB "bool" "str" = some false)
  | .int _ => (by decide +kernel : kitB "int" "str" = some false)
  | .str _ => (by decide +kernel : kitB "str" "str" = some true)
  | .list _ => (by decide +kernel : kitB "list" "str" = some false)
  | .tuple _ => (by decide +kernel : kitB "tuple" "str" = some false)
  | .dict _ => (by decide +kernel : kitB "dict" "str" = some false)
def wholeD : PyData → Bool
  | .int _ => true
  | _ => false
def worthD : PyData → Bool
  | .int i => decide (0 ≤ i) && decide (i ≤ 1)
  | _ => false
theorem whole_of : ∀ {d : PyData}, isIntD d = true → wholeD d = !isBoolD d
  | .int _, _ => rfl
  | .bool _, _ => rfl
  | .none, h => by cases h
  | .str _, h => by cases h
  | .list _, h => by cases h
  | .tuple _, h => by cases h
  | .dict _, h => by cases h
theorem whole_not : ∀ {d : PyData}, ¬ isIntD d = true → wholeD d = false
  | .int _, h => absurd rfl h
  | .bool _, h => absurd rfl h
  | .none, _ => rfl
  | .str _, _ => rfl
  | .list _, _ => rfl
  | .tuple _, _ => rfl
  | .dict _, _ => rfl
theorem whole_int : ∀ {d : PyData}, wholeD d = true → ∃ i, d = .int i
  | .int i, _ => ⟨i, rfl⟩
  | .bool _, h => by cases h
  | .none, h => by cases h
  | .str _, h => by cases h
  | .list _, h => by cases h
  | .tuple _, h => by cases h
  | .dict _, h => by cases h
theorem worth_not : ∀ {d : PyData}, ¬ wholeD d = true → worthD d = false
  | .int _, h => absurd rfl h
  | .bool _, _ => rfl
  | .none, _ => rfl
  | .str _, _ => rfl
  | .list _, _ => rfl
  | .tuple _, _ => rfl
  | .dict _, _ => rfl
theorem tup_of : ∀ {d : PyData}, isTupD d = true → ∃ ds, d = .tuple ds
  | .tuple ds, _ => ⟨ds, rfl⟩
  | .bool _, h => by cases h
  | .none, h => by cases h
  | .str _, h => by cases h
  | .list _, h => by cases h
  | .int _, h => by cases h
  | .dict _, h => by cases h

end
end Gk

set_option Elab.async false
set_option linter.all false
set_option maxRecDepth 100000
set_option maxHeartbeats 1000000
namespace Gk
open PySem PySem.Spec PyProof.Rows L2
section
variable {P : Program} {w : World} {K : PySem.W.Frag} {mg : Str → Option Value} {base : Heap}
/-- the place among the names -/
def ix4 (nm : Str) : Option Nat := if nm = "0" then some 0 else if nm = "up" then some 1 else if nm = "down" then some 2 else if nm = "1" then some 3 else none
def nameOf (z : Str) : Str := if Txt.endswith z "!" = true then cutS z none (some (-1)) else z
/-- what a text writes -/
def wordS (z : Str) : Option (Int × Int × Bool) := (ix4 (nameOf z)).map fun (n : Nat) => (((n : Int) / 2), ((n : Int) % 2), Txt.endswith z "!")
def wordD : PyData → Option (Int × Int × Bool)
  | .str z => wordS z
  | _ => none
theorem ix4_in {nm : Str} {n : Nat} (h : ix4 nm = some n) : n < 4 ∧ ([Str.ofString "0", Str.ofString "up", Str.ofString "down", Str.ofString "1"] : List Str)[n]? = some nm := by
  unfold ix4 at h
  split at h
  · rename_i e; cases h; subst e; exact ⟨by decide, rfl⟩
  split at h
  · rename_i e; cases h; subst e; exact ⟨by decide, rfl⟩
  split at h
  · rename_i e; cases h; subst e; exact ⟨by decide, rfl⟩
  split at h
  · rename_i e; cases h; subst e; exact ⟨by decide, rfl⟩
  · cases h
theorem ix4_first {nm : Str} {n : Nat} (h : ix4 nm = some n) : ∀ m, m < n → ([Str.ofString "0", Str.ofString "up", Str.ofString "down", Str.ofString "1"] : List Str)[m]? ≠ some nm := by
  obtain ⟨h4, hn⟩ := ix4_in h
  intro m hm e
  have e2 := hn.trans e.symm
  revert e2
  have : ∀ m n : Nat, n < 4 → m < n → ¬ ([Str.ofString "0", Str.ofString "up", Str.ofString "down", Str.ofString "1"] : List Str)[n]? = ([Str.ofString "0", Str.ofString "up", Str.ofString "down", Str.ofString "1"] : List Str)[m]? := by
    intro m n hn
    have : n = 0 ∨ n = 1 ∨ n = 2 ∨ n = 3 := by omega
    rcases this with rfl | rfl | rfl | rfl <;> intro hm
    · omega
    · have : m = 0 := by omega
      subst this; decide +kernel
    · have : m = 0 ∨ m = 1 := by omega
      rcases this with rfl | rfl <;> decide +kernel
    · have : m = 0 ∨ m = 1 ∨ m = 2 := by omega
      rcases this with rfl | rfl | rfl <;> decide +kernel
  exact this m n h4 hm
theorem inV4 (nm : Str) : inV (.str nm) (([Str.ofString "0", Str.ofString "up", Str.ofString "down", Str.ofString "1"] : List Str).map V.str) = (ix4 nm).isSome := by
  have e : ∀ x : Str, eqV (.str x) (.str nm) = decide (nm = x) := fun x => by
    show (x == nm) = decide (nm = x)
    by_cases h : nm = x
    · rw [h, decide_eq_true rfl]; exact beq_self_eq_true x
    · rw [decide_eq_false h]; exact beq_eq_false_iff_ne.mpr fun z => h z.symm
  unfold inV ix4
  simp only [List.map_cons, List.map_nil, List.any_cons, List.any_nil, e, Bool.or_false]
  by_cases h0 : nm = "0"
  · simp [h0]
  by_cases h1 : nm = "up"
  · simp [h0, h1]
    split <;> rfl
  by_cases h2 : nm = "down"
  · simp [h0, h1, h2]
    (repeat' split) <;> rfl
  by_cases h3 : nm = "1"
  · simp [h0, h1, h2, h3]
    (repeat' split) <;> rfl
  simp [h0, h1, h2, h3]
theorem fro_split {z : Str} (h : Txt.endswith z "!" = true) : z = cutS z none (some (-1)) ++ "!" := by
  have e1 : (Str.ofString "!") = (⟨#[33]⟩ : Str) := by decide +kernel
  have hl : (⟨#[33]⟩ : Str).length = 1 := rfl
  unfold Txt.endswith at h
  rw [Bool.and_eq_true, decide_eq_true_eq, e1, hl] at h
  have h2 := (PySem.StrLaws.subAt_one z 33 (z.length - 1)).mp ⟨by rw [hl]; omega, h.2⟩
  obtain ⟨l, rfl⟩ : ∃ l : List Nat, z = SX.S l := ⟨z.cps.toList, (SX.S_tl z).symm⟩
  rw [SX.S_len] at h h2
  have h1 : 1 ≤ l.length := by omega
  have ec : cutS (SX.S l) none (some (-1)) = SX.S (l.take (l.length - 1)) := by
    unfold cutS
    rw [SX.S_len, HT.sIx_none]
    have : HT.sIx l.length l.length (some (-1)) = l.length - 1 := by
      unfold HT.sIx
      dsimp only
      rw [if_pos (by decide)]
      omega
    rw [this]
    simp
  rw [ec, e1, show (⟨#[33]⟩ : Str) = SX.S [33] from rfl, SX.S_cat]
  have h3 : l[l.length - 1]? = some 33 := by simpa using h2
  have h4 : l.take (l.length - 1) ++ [33] = l := by
    obtain ⟨hlt, he⟩ := List.getElem?_eq_some_iff.mp h3
    have := List.take_append_getElem (l := l) (i := l.length - 1) hlt
    rw [he] at this
    rw [this]
    apply List.take_of_length_le
    omega
  rw [h4]
def sp_read_word (C : Addr) (K : PySem.W.Frag) : Sp := fun vs H Q E => ∃ (v : V) (d : PyData), vs = [v] ∧ Sh H v d ∧ (∀ z, d = .str z → z.length ≤ 1000) ∧ (wordD d = none → E (.ref C) none H) ∧ ∀ a b c, wordD d = some (a, b, c) → ∀ p, H p = none → Q (.ref p) (upd H p (.tup [.int a, .int b, .bl c]))
theorem ok_read_word (T : Tx K mg) : FnOk P w K mg base (L2N.CX P w) 1 T.f_read_word T.fd_read_word ["text"] (sp_read_word T.C_NoText K) := by
  refine GxE.okN T.F_read_word sc_read_word (fun vs H Q E h => ?_) (fun cdv A outer s H vs Q E hr h => ?_)
  · obtain ⟨v, d, rfl, _⟩ := h
    rfl
  · obtain ⟨v, d, rfl, sh, hz, e, q⟩ := h
    refine ⟨_, (pss_cons (ps_if (pt_not (pt_val (pe_callB call_isi (by rfl) T.m_isinstance (by decide +kernel) (pa_cons (pv 0) (pa_cons (pe_bltn (v := .ty "str") (u := .type "str") (by rfl) T.m_str (by decide +kernel) rfl) pa_nil))))) (pss_one (L2N.ps_raise rfl GxE.takesE (L2N.pmk_own PySem.F.excBase_ValueError T.q_NoText T.gC_NoText T.kC_NoText (raises_own T.su_NoText T.ty_NoText) (by rfl)))) pss_nil) (pss_cons (ps_set (i := 1) sc_read_word.nd rfl (by first | exact .inl rfl | exact .inr rfl) (pe_bm PySem.F.plainAttrs_str PySem.F.slot_str_endswith PySem.F.type_str_endswith mt_endswith (pv 0) (pa_cons pe_str pa_nil))) (pss_cons (ps_set (i := 2) sc_read_word.nd rfl (by first | exact .inl rfl | exact .inr rfl) (pe_cut (pe_ifExp (pt_val (pv 1)) (pe_slice sl_str (pv 0) po_none (po_some (pe_un un_neg pe_int))) (pv 0)))) (pss_cons (ps_if (pt_cmpR op_notIn_seq (pv 2) (pe_glob (v := .ref T.A_NAMES) (by rfl) T.gA_NAMES rfl) rfl) (pss_one (L2N.ps_raise rfl GxE.takesE (L2N.pmk_own PySem.F.excBase_ValueError T.q_NoText T.gC_NoText T.kC_NoText (raises_own T.su_NoText T.ty_NoText) (by rfl)))) pss_nil) (pss_cons (ps_set (i := 3) sc_read_word.nd rfl (by first | exact .inl rfl | exact .inr rfl) (pe_bm PySem.F.plainAttrs_tuple PySem.F.slot_tuple_index PySem.F.type_tuple_index mt_tup_index (pe_glob (v := .ref T.A_NAMES) (by rfl) T.gA_NAMES rfl) (pa_cons (pv 2) pa_nil))) (pss_one (ps_ret (pe_tup (pa_cons (pe_op op_fdiv (pv 3) pe_int) (pa_cons (pe_op op_and (pv 3) pe_int) (pa_cons (pv 1) pa_nil))))))))))), ?_⟩
    refine ⟨v, rfl, _, _, _, _, _, rfl, .ty _, sh.ty, kit_ty (kitStr d), _, rfl, ite2 (fun e1 => ?_) (fun e1 => ?_)⟩
    · refine e ?_
      cases d <;> first | rfl | cases e1
    · have hs : ∃ z, d = .str z := by cases d <;> first | exact ⟨_, rfl⟩ | exact absurd rfl e1
      obtain ⟨z, rfl⟩ := hs
      have hz := hz z rfl
      cases sh
      refine ⟨.str z, rfl, rfl, z, "!", rfl, rfl, ?_⟩
      replace e : wordS z = none → E (.ref T.C_NoText) none H := e
      replace q : ∀ a b c, wordS z = some (a, b, c) → ∀ p, H p = none → Q (.ref p) (upd H p (.tup [.int a, .int b, .bl c])) := q
      refine ⟨fun x H' => x = .str (nameOf z) ∧ H' = H, ?_, ?_⟩
      · refine ⟨.bl _, rfl, _, rfl, ite2 (fun f => ?_) (fun f => ?_)⟩
        · refine ⟨.str z, rfl, 1, rfl, -1, rfl, z, rfl, Nat.le_trans hz (by decide), ?_, rfl⟩
          unfold nameOf
          rw [if_pos f]
        · refine ⟨.str z, rfl, ?_, rfl⟩
          unfold nameOf
          rw [if_neg f]
      · rintro x H' ⟨rfl, rfl⟩
        refine ⟨_, rfl, T.A_NAMES, _, rfl, .inr (T.sq_NAMES H'), rfl, flat_strs _, _, rfl, ite2 (fun f => ?_) (fun f => ?_)⟩
        · refine e ?_
          rw [if_pos rfl, inV4] at f
          unfold wordS
          cases hx : ix4 (nameOf z) with
          | none => rfl
          | some n => rw [hx] at f; cases f
        · rw [if_pos rfl, inV4] at f
          cases hx : ix4 (nameOf z) with
          | none => rw [hx] at f; exact absurd rfl f
          | some n =>
            obtain ⟨n4, hn⟩ := ix4_in hx
            refine ⟨.inr (.inl ⟨rfl, T.tt_NAMES⟩), _, rfl, T.A_NAMES, _, nameOf z, n, rfl, rfl, T.sq_NAMES H', hn, ix4_first hx, ?_⟩
            refine ⟨_, rfl, _, _, rfl, rfl, ⟨by decide, by decide⟩, _, rfl, _, _, rfl, rfl, _, rfl, sl3, fun p np => ?_⟩
            have ea : Builtin.bitAnd (n : Int) 1 = (n : Int) % 2 := by
              have : n = 0 ∨ n = 1 ∨ n = 2 ∨ n = 3 := by omega
              rcases this with rfl | rfl | rfl | rfl <;> decide +kernel
            dsimp only
            rw [ea]
            refine q _ _ _ ?_ p np
            unfold wordS
            rw [hx]
            rfl
end
end Gk

set_option Elab.async false
set_option linter.all false
set_option maxRecDepth 100000
set_option maxHeartbeats 1000000
namespace Gk
open PySem PySem.Spec PyProof.Rows L2
section
variable {P : Program} {w : World} {K : PySem.W.Frag} {mg : Str → Option Value} {base : Heap}
def sp_alone (base : Heap) (C : Addr) : Sp := fun vs H Q _ => ∃ (a : Addr) (oe : Obj), vs = [.ref a] ∧ GxE.Seen base H a oe ∧ Zc (.ref C) none oe ∧ (∃ us, oe.data = .fields us) ∧ ∀ H', Same H H' → Q (.bl true) H'
theorem ok_alone (T : Tx K mg) : GxE.FnR P w K mg base 1 T.f_alone T.fd_alone ["_law_e"] (sp_alone base T.C_NoText) := by
  refine GxE.okR T.F_alone sc_alone (fun vs H Q E h => ?_) (fun cdv A outer s H vs Q p hr h => ?_)
  · obtain ⟨a, oe, rfl, _⟩ := h
    rfl
  · obtain ⟨a, oe, rfl, seen, hz, hf, q⟩ := h
    refine ⟨_, (pss_cons (ps_set (i := 1) sc_alone.nd rfl (by first | exact .inl rfl | exact .inr rfl) (pe_callB GxE.call_isXT (by rfl) T.m_isinstance (by decide +kernel) (pa_cons (pv 0) (pa_cons (pe_tup (pa_cons (pe_glob (v := .ref T.C_TooMany) (by rfl) T.gC_TooMany rfl) (pa_cons (pe_glob (v := .ref T.C_NotFormula) (by rfl) T.gC_NotFormula rfl) (pa_cons (pe_glob (v := .ref T.C_NoTurn) (by rfl) T.gC_NoTurn rfl) (pa_cons (pe_glob (v := .ref T.C_NoForms) (by rfl) T.gC_NoForms rfl) (pa_cons (pe_glob (v := .ref T.C_NoRow) (by rfl) T.gC_NoRow rfl) pa_nil)))))) pa_nil)))) (pss_one (ps_ret (pe_and (pe_callB GxE.call_isX (by rfl) T.m_isinstance (by decide +kernel) (pa_cons (pv 0) (pa_cons (pe_glob (v := .ref T.C_NoText) (by rfl) T.gC_NoText rfl) pa_nil))) (pe_and (pe_callB GxE.call_isX (by rfl) T.m_isinstance (by decide +kernel) (pa_cons (pv 0) (pa_cons (pe_bltn (v := .ty "ValueError") (u := .type "ValueError") (by rfl) T.m_ValueError (by decide +kernel) rfl) pa_nil))) (pe_one (pe_not (pv 1)))))))), ?_⟩
    refine ⟨.ref a, rfl, (by show 5 ≤ sizeLine; decide), fun tp ntp => ?_⟩
    have st := same_upd (o := .tup [.ref T.C_TooMany, .ref T.C_NotFormula, .ref T.C_NoTurn, .ref T.C_NoForms, .ref T.C_NoRow]) ntp
    have seen1 := seen.same st
    have at1 := upd_same (H := H) (a := tp) (o := .tup [.ref T.C_TooMany, .ref T.C_NotFormula, .ref T.C_NoTurn, .ref T.C_NoForms, .ref T.C_NoRow])
    generalize upd H tp (.tup [.ref T.C_TooMany, .ref T.C_NotFormula, .ref T.C_NoTurn, .ref T.C_NoForms, .ref T.C_NoRow]) = H1 at st seen1 at1 ⊢
    refine ⟨a, T.C_NoText, oe, tp, _, [.ref T.C_TooMany, .ref T.C_NotFormula, .ref T.C_NoTurn, .ref T.C_NoForms, .ref T.C_NoRow], false, rfl, seen1, hz, hf, T.X_NoText, at1, .cons (.own _) (.cons (.own _) (.cons (.own _) (.cons (.own _) (.cons (.own _) .nil)))), ?_, ?_⟩
    · show PySem.W.kitAny K _ _ = _
      simp only [PySem.W.kitAny, T.t_NoText_TooMany, T.t_NoText_NotFormula, T.t_NoText_NoTurn, T.t_NoText_NoForms, T.t_NoText_NoRow]
    · refine ⟨.ref a, rfl, a, T.C_NoText, oe, _, _, true, rfl, seen1, hz, hf, T.X_NoText, .own _, T.t_NoText_NoText, _, rfl, iteT ?_⟩
      refine ⟨.ref a, rfl, a, T.C_NoText, oe, _, _, true, rfl, seen1, hz, hf, T.X_NoText, .ty _, T.v_NoText, _, rfl, iteT ?_⟩
      exact ⟨_, rfl, _, rfl, q _ st⟩
theorem same_del {H H' : Hp} {a : Addr} {o : HO} (s : Same (upd H a o) H') (n : H a = none) : Same H (delH H' a) := fun b x e => by
  have nb : b ≠ a := fun z => by rw [z, n] at e; cases e
  rw [delH_ne nb]
  exact s b x (by rw [upd_ne nb]; exact e)
def FoundAt (H : Hp) (p : Addr) : Option (Int × Int × Bool) → Prop
  | some (a, b, c) => ∃ t, H p = some (.lst [.str "read", .ref t]) ∧ H t = some (.tup [.int a, .int b, .bl c])
  | none => H p = some (.lst [.str "refused", .bl true])
def sp_read (K : PySem.W.Frag) : Sp := fun vs H Q _ => ∃ (v : V) (d : PyData), vs = [v] ∧ Sh H v d ∧ (∀ z, d = .str z → z.length ≤ 1000) ∧ ∀ H' p, Same H H' → FoundAt H' p (wordD d) → Q (.ref p) H'
theorem ok_read (T : Tx K mg) : FnOk P w K mg base CX0 2 T.f_read T.fd_read ["_law_thing"] (sp_read K) := by
  refine T.F_read.ok sc_read (fun vs H Q E h => ?_) (fun cdv A outer s H vs Q E hr h => ?_)
  · obtain ⟨v, d, rfl, _⟩ := h
    rfl
  · obtain ⟨v, d, rfl, sh, hz, q⟩ := h
    refine ⟨_, (pss_cons (L2N.ps_try_as (i := 2) rfl rfl sc_read.nd rfl (by rfl) ⟨by rfl, by decide, .inl T.gC_NetError⟩ GxE.takesN (fun W pn xe tk own => (pss_one (ps_set (i := 1) sc_read.nd rfl (by first | exact .inl rfl | exact .inr rfl) (pe_lstN (pa_cons pe_str (pa_cons (pe_callS (ok_read_word T) (hr.mono (by decide)) (by rfl) T.g_read_word T.F_read_word.kp T.b_read_word (fun σ => L2N.passAt tk σ) (pa_cons (pv 0) pa_nil)) pa_nil)))))) (fun ea oe cls ed pn hz hf => (pss_one (ps_set (i := 1) sc_read.nd rfl (by first | exact .inl rfl | exact .inr rfl) (pe_lstN (pa_cons pe_str (pa_cons (GxE.pe_callX hz.zc hf (ok_alone T) (L2H.roomH_mark (hr.mono (by decide)) _) (by rfl) T.g_alone T.F_alone.kp T.b_alone (pa_cons (pv 2) pa_nil)) pa_nil))))))) (pss_one (ps_ret (pv 1)))), ?_⟩
    refine ⟨v, rfl, v, d, rfl, sh, hz, fun no => ?_, fun x y c yes p np => ?_⟩
    · rw [no] at q
      refine ⟨true, T.x_NoText_NetError, fun _ a na => ?_, fun z => by cases z⟩
      refine ⟨.ref a, rfl, fun oe hz hf => ⟨fun n1 => ?_, fun hb => ?_⟩⟩
      · refine ⟨a, oe, rfl, .inl upd_same, hz, hf, fun H' s' => ⟨s' _ _ upd_same, ?_⟩⟩
        refine ⟨sl2, fun r nr _ => ?_⟩
        exact ⟨_, rfl, q _ r ((same_del s' n1).trans (same_upd nr)) upd_same⟩
      · refine ⟨a, oe, rfl, .inr hb, hz, hf, fun H' s' => ?_⟩
        refine ⟨sl2, fun r nr _ => ?_⟩
        exact ⟨_, rfl, q _ r (s'.trans (same_upd nr)) upd_same⟩
    · rw [yes] at q
      refine ⟨sl2, fun r nr _ => ?_⟩
      exact ⟨_, rfl, q _ r ((same_upd np).trans (same_upd nr)) ⟨p, upd_same, same_upd nr _ _ upd_same⟩⟩
end
end Gk

set_option Elab.async false
set_option linter.all false
set_option maxRecDepth 100000
set_option maxHeartbeats 1000000
namespace Gk
open PySem PySem.Spec PyProof.Rows L2
section
variable {P : Program} {w : World} {K : PySem.W.Frag} {mg : Str → Option Value} {base : Heap}
theorem catA {K : PySem.W.Frag} {a b : Addr} {xs ys : List V} {H : Hp} {Q : VK} (ha : H a = some (.tup xs)) (hb : H b = some (.tup ys)) (hl : xs.length + ys.length ≤ sizeLine) (q : ∀ p H', Same H H' → H' p = some (.tup (xs ++ ys)) → Q (.ref p) H') : rCatA K (.ref a) (.ref b) H Q :=
  ⟨a, b, xs, ys, rfl, rfl, SqT.of ha, SqT.of hb, hl, fun e => q b H (fun _ _ e => e) (by rw [e]; exact hb), fun _ e => q a H (fun _ _ e => e) (by rw [e, List.append_nil]; exact ha), fun _ _ p np => q p _ (same_upd np) upd_same⟩
abbrev W3 := Int × Int × Bool
def T4 : List (Str × Int × Int) := [("0", 0, 0), ("1", 1, 1), ("up", 0, 1), ("down", 1, 0)]
def T8 : List (Str × W3) := T4.map (fun t => (t.1, t.2.1, t.2.2, false)) ++ T4.map (fun t => (t.1 ++ Str.ofString "!", t.2.1, t.2.2, true))
/-- a pair of a text and a word -/
def El (H : Hp) (x : V) (t : Str × W3) : Prop := ∃ a b, x = .ref a ∧ H a = some (.tup [.str t.1, .ref b]) ∧ H b = some (.tup [.int t.2.1, .int t.2.2.1, .bl t.2.2.2])
theorem El.same {H H' : Hp} {x : V} {t : Str × W3} (h : El H x t) (s : Same H H') : El H' x t := by
  obtain ⟨a, b, e, h1, h2⟩ := h
  exact ⟨a, b, e, s _ _ h1, s _ _ h2⟩
def Els (H : Hp) (xs : List V) (ts : List (Str × W3)) : Prop := xs.length = ts.length ∧ ∀ (i : Nat) (x : V), xs[i]? = some x → ∃ t, ts[i]? = some t ∧ El H x t
theorem Els.same {H H' : Hp} {xs : List V} {ts : List (Str × W3)} (h : Els H xs ts) (s : Same H H') : Els H' xs ts :=
  ⟨h.1, fun i x hx => by
    obtain ⟨t, ht, e⟩ := h.2 i x hx
    exact ⟨t, ht, e.same s⟩⟩
theorem Els.append {H : Hp} {xs ys : List V} {ts us : List (Str × W3)} (h : Els H xs ts) (k : Els H ys us) : Els H (xs ++ ys) (ts ++ us) := by
  refine ⟨by rw [List.length_append, List.length_append, h.1, k.1], fun i x hx => ?_⟩
  by_cases hi : i < xs.length
  · rw [List.getElem?_append_left hi] at hx
    rw [List.getElem?_append_left (h.1 ▸ hi)]
    exact h.2 i x hx
  · rw [List.getElem?_append_right (by omega)] at hx
    rw [List.getElem?_append_right (by have := h.1; omega), ← h.1]
    exact k.2 _ x hx
theorem Els.one {H : Hp} {x : V} {t : Str × W3} (h : El H x t) : Els H [x] [t] := by
  refine ⟨rfl, fun i y hy => ?_⟩
  cases i with
  | zero => cases Option.some.inj hy; exact ⟨t, rfl, h⟩
  | succ i => cases hy
theorem El.updL {H : Hp} {x : V} {t : Str × W3} {L : Addr} {xs ys : List V} (h : El H x t) (hL : H L = some (.lst xs)) : El (upd H L (.lst ys)) x t := by
  obtain ⟨a, b, e, h1, h2⟩ := h
  refine ⟨a, b, e, ?_, ?_⟩
  · rw [upd_ne (fun z => by rw [z, hL] at h1; cases h1)]; exact h1
  · rw [upd_ne (fun z => by rw [z, hL] at h2; cases h2)]; exact h2
theorem Els.updL {H : Hp} {zs : List V} {ts : List (Str × W3)} {L : Addr} {xs ys : List V} (h : Els H zs ts) (hL : H L = some (.lst xs)) : Els (upd H L (.lst ys)) zs ts :=
  ⟨h.1, fun i x hx => by
    obtain ⟨t, ht, e⟩ := h.2 i x hx
    exact ⟨t, ht, e.updL hL⟩⟩
theorem snoc_step {H0 H2 H4 : Hp} {L a c : Addr} {xs : List V} {ts : List (Str × W3)} {t : Str × W3} (nL : H0 L = none) (s2 : Same H0 H2) (h2 : H2 L = some (.lst xs)) (el : Els H2 xs ts) (s4 : Same H2 H4)
    (ha : H4 a = some (.tup [.str t.1, .ref c])) (hc : H4 c = some (.tup [.int t.2.1, .int t.2.2.1, .bl t.2.2.2])) :
    Same H0 (upd H4 L (.lst (xs ++ [.ref a]))) ∧ ∃ ys, (upd H4 L (.lst (xs ++ [.ref a]))) L = some (.lst ys) ∧ Els (upd H4 L (.lst (xs ++ [.ref a]))) ys (ts ++ [t]) := by
  have hL4 := s4 _ _ h2
  refine ⟨fun b o e => ?_, _, upd_same, ?_⟩
  · rw [upd_ne (fun z => by rw [z, nL] at e; cases e)]
    exact s4 _ _ (s2 _ _ e)
  · exact ((el.same s4).append (Els.one ⟨a, c, rfl, ha, hc⟩)).updL hL4
def sp_texts (K : PySem.W.Frag) : Sp := fun vs H Q _ => vs = [] ∧ ∀ H' p xs, Same H H' → H' p = some (.lst xs) → H p = none → Els H' xs T8 → Q (.ref p) H'
theorem take_ne {α : Type} {l : List α} {j : Nat} {t : α} (h : l[j]? = some t) : l.take (j + 1) = l.take j ++ [t] := by
  rw [List.take_succ, h]
  rfl
theorem ok_texts (T : Tx K mg) : FnOk P w K mg base CX0 1 T.f_texts T.fd_texts [] (sp_texts K) := by
  refine T.F_texts.ok sc_texts (fun vs H Q E h => ?_) (fun cdv A outer s H vs Q E hr h => ?_)
  · obtain ⟨rfl, _⟩ := h
    rfl
  · obtain ⟨rfl, q⟩ := h
    refine ⟨_, (pss_cons (ps_set (i := 0) sc_texts.nd rfl (by first | exact .inl rfl | exact .inr rfl) (pe_lst (pa_cons pe_str (pa_cons pe_str (pa_cons pe_str (pa_cons pe_str pa_nil)))))) (pss_cons (ps_set (i := 1) sc_texts.nd rfl (by first | exact .inl rfl | exact .inr rfl) (pe_lst (pa_cons (pe_tup (pa_cons pe_int (pa_cons pe_int pa_nil))) (pa_cons (pe_tup (pa_cons pe_int (pa_cons pe_int pa_nil))) (pa_cons (pe_tup (pa_cons pe_int (pa_cons pe_int pa_nil))) (pa_cons (pe_tup (pa_cons pe_int (pa_cons pe_int pa_nil))) pa_nil)))))) (pss_cons (ps_setLc (i := 2) (own := [("_law_k", 3)]) (by rfl) sc_texts.nd rfl rfl (sw_true rfl rfl rfl (by decide +kernel)) (pi_range1 (by rfl) T.m_range (pa_cons pe_int pa_nil)) (blkOk_by (own := [("_law_k", 3)]) (N := ["_law_names", "_law_ends", "_law_found", "_law_k"]) (sc := defScope s_texts) (by decide +kernel)) (fun _ _ _ _ _ => (pg_name (i := 3) sc_texts.nd rfl (by first | exact .inl rfl | exact .inr rfl))) (fun _ _ _ _ _ => pts_nil) (fun _ _ _ _ _ => (pe_tup (pa_cons (pe_ix (show IxR _ (rIxL K) from ix_list) (pv 0) (pv 3) (fun _ _ => rfl)) (pa_cons (pe_op (show OpR _ _ (rCatA K) from op_catA) (pe_ix (show IxR _ (rIxL K) from ix_list) (pv 1) (pv 3) (fun _ _ => rfl)) (pe_tup (pa_cons pe_bl pa_nil))) pa_nil))))) (pss_one (ps_ret (pe_op op_cat (pv 2) (pe_lc (own := [("_law_k", 3)]) (by rfl) sc_texts.nd (pi_range1 (by rfl) T.m_range (pa_cons pe_int pa_nil)) (blkOk_by (own := [("_law_k", 3)]) (N := ["_law_names", "_law_ends", "_law_found", "_law_k"]) (sc := defScope s_texts) (by decide +kernel)) (fun _ _ _ _ _ => (pg_name (i := 3) sc_texts.nd rfl (by first | exact .inl rfl | exact .inr rfl))) (fun _ _ _ _ _ => pts_nil) (fun _ _ _ _ _ => (pe_tup (pa_cons (pe_op op_add_str (pe_ix (show IxR _ (rIxL K) from ix_list) (pv 0) (pv 3) (fun _ _ => rfl)) pe_str) (pa_cons (pe_op (show OpR _ _ (rCatA K) from op_catA) (pe_ix (show IxR _ (rIxL K) from ix_list) (pv 1) (pv 3) (fun _ _ => rfl)) (pe_tup (pa_cons pe_bl pa_nil))) pa_nil))))))))))), ?_⟩
    refine ⟨by show 4 ≤ sizeLine; decide, fun nl nnl => ⟨sl2, fun e0 n0 => ⟨sl2, fun e1 n1 => ⟨sl2, fun e2 n2 => ⟨sl2, fun e3 n3 => ⟨by show 4 ≤ sizeLine; decide, fun el nel => ?_⟩⟩⟩⟩⟩⟩
    have s1 := same_upd (o := .lst [.str "0", .str "1", .str "up", .str "down"]) nnl
    have s2 := same_upd (o := .tup [.int 0, .int 0]) n0
    have s3 := same_upd (o := .tup [.int 1, .int 1]) n1
    have s4 := same_upd (o := .tup [.int 0, .int 1]) n2
    have s5 := same_upd (o := .tup [.int 1, .int 0]) n3
    have s6 := same_upd (o := .lst [.ref e0, .ref e1, .ref e2, .ref e3]) nel
    have g0 := s6 _ _ (s5 _ _ (s4 _ _ (s3 _ _ (s2 _ _ (upd_same (H := H) (a := nl) (o := .lst [.str "0", .str "1", .str "up", .str "down"]))))))
    have g1 := s6 _ _ (s5 _ _ (s4 _ _ (s3 _ _ (upd_same (a := e0) (o := .tup [.int 0, .int 0])))))
    have g2 := s6 _ _ (s5 _ _ (s4 _ _ (upd_same (a := e1) (o := .tup [.int 1, .int 1]))))
    have g3 := s6 _ _ (s5 _ _ (upd_same (a := e2) (o := .tup [.int 0, .int 1])))
    have g4 := s6 _ _ (upd_same (a := e3) (o := .tup [.int 1, .int 0]))
    have sA := ((((s1.trans s2).trans s3).trans s4).trans s5).trans s6
    generalize hH : upd _ el _ = H6
    have g5 : H6 el = some (.lst [.ref e0, .ref e1, .ref e2, .ref e3]) := by rw [← hH]; exact upd_same
    replace sA : Same H H6 := by rw [← hH]; exact sA
    replace g0 : H6 nl = some (.lst [.str "0", .str "1", .str "up", .str "down"]) := by rw [← hH]; exact g0
    replace g1 : H6 e0 = some (.tup [.int 0, .int 0]) := by rw [← hH]; exact g1
    replace g2 : H6 e1 = some (.tup [.int 1, .int 1]) := by rw [← hH]; exact g2
    replace g3 : H6 e2 = some (.tup [.int 0, .int 1]) := by rw [← hH]; exact g3
    replace g4 : H6 e3 = some (.tup [.int 1, .int 0]) := by rw [← hH]; exact g4
    clear hH s1 s2 s3 s4 s5 s6 nnl n0 n1 n2 n3 nel
    have pick : ∀ j : Nat, j < 4 → ∃ (t : Str × Int × Int) (e : Addr), T4[j]? = some t ∧ ([V.str "0", .str "1", .str "up", .str "down"] : List V)[j]? = some (.str t.1) ∧ ([V.ref e0, .ref e1, .ref e2, .ref e3] : List V)[j]? = some (.ref e) ∧ H6 e = some (.tup [.int t.2.1, .int t.2.2]) ∧ t.1.length ≤ 4 := by
      intro j hj
      have : j = 0 ∨ j = 1 ∨ j = 2 ∨ j = 3 := by omega
      rcases this with rfl | rfl | rfl | rfl
      · exact ⟨_, e0, rfl, rfl, rfl, g1, by decide +kernel⟩
      · exact ⟨_, e1, rfl, rfl, rfl, g2, by decide +kernel⟩
      · exact ⟨_, e2, rfl, rfl, rfl, g3, by decide +kernel⟩
      · exact ⟨_, e3, rfl, rfl, rfl, g4, by decide +kernel⟩
    refine ⟨4, rfl, by decide, by decide, fun L nL => ?_⟩
    refine lc_range (n := 4) (fun j H' => Same H6 H' ∧ ∃ xs, H' L = some (.lst xs) ∧ Els H' xs ((T4.map (fun t => (t.1, t.2.1, t.2.2, false))).take j)) ⟨same_upd nL, [], upd_same, rfl, fun i x hx => by cases hx⟩ ?_ ?_
    · rintro j H2 hj ⟨s2, xs, h2, ex⟩
      obtain ⟨t, e, ht, h1, h3, he, _⟩ := pick j hj
      have ej : (0 : Int) + (j : Int) = (j : Int) := Int.zero_add _
      refine ⟨rfl, ?_⟩
      refine ⟨.ref nl, rfl, .int (0 + (j : Int)), rfl, nl, _, _, .str t.1, rfl, rfl, SqL.of (s2 _ _ g0), by rw [ej]; exact atI_nat h1, .ref el, rfl, .int (0 + (j : Int)), rfl, el, _, _, .ref e, rfl, rfl, SqL.of (s2 _ _ g5), by rw [ej]; exact atI_nat h3, sl1, fun b1 nb1 => catA (same_upd nb1 _ _ (s2 _ _ he)) upd_same (by show 3 ≤ sizeLine; decide) fun c Hc sc hc => ⟨sl2, fun a na => ?_⟩⟩
      have sAll : Same H2 (upd Hc a (.tup [.str t.1, .ref c])) := ((same_upd nb1).trans sc).trans (same_upd na)
      have r := snoc_step (t := (t.1, t.2.1, t.2.2, false)) nL s2 h2 ex sAll upd_same (same_upd na _ _ hc)
      have e2 : ((T4.map (fun t => (t.1, t.2.1, t.2.2, false))).take (j + 1)) = (T4.map (fun t => (t.1, t.2.1, t.2.2, false))).take j ++ [(t.1, t.2.1, t.2.2, false)] := take_ne (by rw [List.getElem?_map, ht]; rfl)
      rw [← e2] at r
      exact ⟨xs, sAll _ _ h2, Nat.lt_of_lt_of_le (show xs.length < 64 by have := ex.1; rw [List.length_take, List.length_map] at this; omega) (by decide), r⟩
    · rintro H7 ⟨s7, xs, h7, ex⟩
      refine ⟨.ref L, rfl, 4, rfl, by decide, by decide, fun M nM => ?_⟩
      refine lc_range (n := 4) (fun j H' => Same H7 H' ∧ ∃ ys, H' M = some (.lst ys) ∧ Els H' ys ((T4.map (fun t => (t.1 ++ Str.ofString "!", t.2.1, t.2.2, true))).take j)) ⟨same_upd nM, [], upd_same, rfl, fun i x hx => by cases hx⟩ ?_ ?_
      · rintro j H2 hj ⟨s2, ys, h2, ey⟩
        obtain ⟨t, e, ht, h1, h3, he, hlen⟩ := pick j hj
        have ej : (0 : Int) + (j : Int) = (j : Int) := Int.zero_add _
        have g0' := s2 _ _ (s7 _ _ g0)
        have g5' := s2 _ _ (s7 _ _ g5)
        have he' := s2 _ _ (s7 _ _ he)
        refine ⟨rfl, ?_⟩
        refine ⟨.ref nl, rfl, .int (0 + (j : Int)), rfl, nl, _, _, .str t.1, rfl, rfl, SqL.of g0', by rw [ej]; exact atI_nat h1, t.1, _, rfl, rfl, ?_, .ref el, rfl, .int (0 + (j : Int)), rfl, el, _, _, .ref e, rfl, rfl, SqL.of g5', by rw [ej]; exact atI_nat h3, sl1, fun b1 nb1 => catA (same_upd nb1 _ _ he') upd_same (by show 3 ≤ sizeLine; decide) fun c Hc sc hc => ⟨sl2, fun a na => ?_⟩⟩
        · have : (Str.ofString "!").length = 1 := by decide +kernel
          rw [this]
          exact Nat.le_trans (show t.1.length + 1 ≤ 64 by omega) (by decide)
        have sAll : Same H2 (upd Hc a (.tup [.str (t.1 ++ Str.ofString "!"), .ref c])) := ((same_upd nb1).trans sc).trans (same_upd na)
        have r := snoc_step (t := (t.1 ++ Str.ofString "!", t.2.1, t.2.2, true)) nM s2 h2 ey sAll upd_same (same_upd na _ _ hc)
        have e2 : ((T4.map (fun t => (t.1 ++ Str.ofString "!", t.2.1, t.2.2, true))).take (j + 1)) = (T4.map (fun t => (t.1 ++ Str.ofString "!", t.2.1, t.2.2, true))).take j ++ [(t.1 ++ Str.ofString "!", t.2.1, t.2.2, true)] := take_ne (by rw [List.getElem?_map, ht]; rfl)
        rw [← e2] at r
        exact ⟨ys, sAll _ _ h2, Nat.lt_of_lt_of_le (show ys.length < 64 by have := ey.1; rw [List.length_take, List.length_map] at this; omega) (by decide), r⟩
      · rintro H8 ⟨s8, ys, h8, ey⟩
        refine ⟨L, M, xs, ys, rfl, rfl, s8 _ _ h7, h8, ?_, fun la nla => ?_⟩
        · have a1 := ex.1
          have a2 := ey.1
          rw [List.length_take, List.length_map] at a1 a2
          exact Nat.le_trans (show xs.length + ys.length ≤ 64 by omega) (by decide)
        · have sl := same_upd (o := .lst (xs ++ ys)) nla
          have all := (sA.trans s7).trans s8
          exact q _ la _ (all.trans sl) upd_same (all.free nla) (((ex.same s8).append ey).same sl)
def sp_show (K : PySem.W.Frag) : Sp := fun vs H Q _ => ∃ (b : Addr) (t : Str × W3), vs = [.ref b] ∧ t ∈ T8 ∧ H b = some (.tup [.int t.2.1, .int t.2.2.1, .bl t.2.2.2]) ∧ Q (.str t.1) H
theorem ok_show_word (T : Tx K mg) : FnOk P w K mg base CX0 1 T.f_show_word T.fd_show_word ["word"] (sp_show K) := by
  refine T.F_show_word.ok sc_show_word (fun vs H Q E h => ?_) (fun cdv A outer s H vs Q E hr h => ?_)
  · obtain ⟨b, t, rfl, _⟩ := h
    rfl
  · obtain ⟨b, t, rfl, ht, hb, q⟩ := h
    refine ⟨_, (pss_cons (ps_asg (pv 0) (pg_tup rfl (pgs_cons (pg_name (i := 1) sc_show_word.nd rfl (by first | exact .inl rfl | exact .inr rfl)) (pgs_cons (pg_name (i := 2) sc_show_word.nd rfl (by first | exact .inl rfl | exact .inr rfl)) (pgs_cons (pg_name (i := 3) sc_show_word.nd rfl (by first | exact .inl rfl | exact .inr rfl)) pgs_nil))))) (pss_cons (ps_set (i := 4) sc_show_word.nd rfl (by first | exact .inl rfl | exact .inr rfl) (pe_ix ix_tup (pe_glob (v := .ref T.A_NAMES) (by rfl) T.gA_NAMES rfl) (pe_op op_add (pe_op op_mul pe_int (pv 1)) (pv 2)) (fun _ _ => rfl))) (pss_one (ps_ret (pe_ifExp (pt_val (pv 3)) (pe_op op_add_str (pv 4) pe_str) (pv 4)))))), ?_⟩
    refine ⟨.ref b, rfl, b, _, rfl, SqT.of hb, rfl, _, _, rfl, _, _, rfl, _, _, rfl, rfl, ?_⟩
    simp only [T8, T4, List.map_cons, List.map_nil, List.cons_append, List.nil_append, List.mem_cons, List.not_mem_nil, or_false] at ht
    rcases ht with rfl | rfl | rfl | rfl | rfl | rfl | rfl | rfl
    all_goals
      refine ⟨_, rfl, 2, _, rfl, rfl, .inl ⟨by decide, by decide⟩, _, rfl, _, _, rfl, rfl, T.A_NAMES, _, _, _, rfl, rfl, T.sq_NAMES H, rfl, ?_⟩
      first
        | exact ⟨_, rfl, _, rfl, iteF ⟨_, rfl, q⟩⟩
        | exact ⟨_, rfl, _, rfl, iteT ⟨_, rfl, _, _, rfl, rfl, by decide +kernel, q⟩⟩
end
end Gk

set_option Elab.async false
set_option linter.all false
set_option maxRecDepth 100000
set_option maxHeartbeats 1000000
namespace Gk
open PySem PySem.Spec PyProof.Rows L2
/-! ### a text told backwards -/
namespace RevTx
section
variable {X : Cx}
def tRevS (te : TE) : TE := fun σ H Q => te σ H fun x H1 => ∃ z : Str, x = .str z ∧ z.length ≤ sizeLine ∧ ∀ y : Str, y.length ≤ z.length → (∀ c ∈ y.cps.toList, c ∈ z.cps.toList) → Q (.str y) H1
theorem by_mem (z : Str) (t : Int × Tok) : ∀ c ∈ (Txt.sliceBy z none none t).cps.toList, c ∈ z.cps.toList := by
  intro c hc
  unfold Txt.sliceBy at hc
  split at hc
  · exact hc
  · simp only [List.mem_filterMap] at hc
    obtain ⟨i, _, hi⟩ := hc
    rw [← Array.getElem?_toList] at hi
    exact List.mem_of_getElem? hi
theorem pe_revS {e : Expr} {te : TE} {k : Nat} {p1 p2 p3 pos : Pos} (he : PE X e te) : PE X (.Subscript e (.Slice none none (some (.UnaryOp .USub (.Constant (.int 1) k p1) p2)) p3) pos) (tRevS te) := by
  refine ⟨fun pins s σ H Q I told => Subscript_ (thn (he.run pins s σ H _ I told) ?_)⟩
  rintro v s1 ⟨x, H1, I1, r1, z, rfl, hz, q⟩
  obtain ⟨t, rfl⟩ := r1
  have back : PO X (some (.UnaryOp .USub (.Constant (.int 1) k p1) p2)) (tPart (tUn (rU fun i => .int (-i)) (tC (.int 1)))) := po_some (pe_un un_neg pe_int)
  refine wpAny_Slice (thn (po_none.run pins s1 σ H1 (fun o H2 => o = none ∧ H2 = H1) I1 ⟨rfl, rfl⟩) ?_)
  rintro vl s2 ⟨l, H2, I2, pl, rfl, rfl⟩
  refine thn (po_none.run pins s2 σ H2 (fun o H3 => o = none ∧ H3 = H2) I2 ⟨rfl, rfl⟩) ?_
  rintro vu s3 ⟨u, H3, I3, pu, rfl, rfl⟩
  refine thn (back.run pins s3 σ H3 (fun o H4 => o = some (-1) ∧ H4 = H3) I3 ⟨1, rfl, -1, rfl, rfl, rfl⟩) ?_
  rintro vs s4 ⟨o, H4, I4, ps, rfl, rfl⟩
  have I5 : Inv X pins σ H4 { s4 with heap := s4.heap.push { cls := .type "slice", data := .fields #[vl, vu, vs] } } := I4.kept (t' := s4.toks) fun b ob q => Heap.get?_push_of_some _ q
  obtain ⟨l', rfl, el⟩ := IsPart.raw pl
  obtain ⟨u', rfl, eu⟩ := IsPart.raw pu
  obtain ⟨w', rfl, ew⟩ := IsPart.raw ps
  cases l' with
  | some _ => cases el
  | none => cases u' with
    | some _ => cases eu
    | none => cases w' with
      | none => cases ew
      | some kt =>
        obtain ⟨kk, uk⟩ := kt
        have ekk : kk = -1 := Option.some.inj ew
        subst ekk
        refine tail_any (ops := [.str z t, .ref s4.heap.objs.size]) (typeIs_str _ _ _) (F.slot_str_getitem.lookup) ?_ (by with_unfolding_all rfl)
        refine wpAny_getItem_str_slice (l := none) (u := none) (st := some (-1, uk)) ⟨_, Heap.get?_push_size _ rfl, rfl, rfl⟩ rfl (post_val_or_str ⟨Nat.le_trans (Txt.sliceBy_le z _ _ (-1, uk) (show (-1 : Int) ≠ 0 by decide)) hz, fun t' c => ?_⟩)
        exact ⟨.str _, H4, I5.tok _, ⟨_, rfl⟩, q _ (Txt.sliceBy_le z none none (-1, uk) (show (-1 : Int) ≠ 0 by decide)) (by_mem z (-1, uk))⟩
end
end RevTx

/-- a short text of plain signs -/
def As (n : Nat) (x : Str) : Prop := x.length ≤ n ∧ ∀ c ∈ x.cps.toList, c < 128
theorem As.mono {n m : Nat} {x : Str} (h : As n x) (k : n ≤ m) : As m x := ⟨Nat.le_trans h.1 k, h.2⟩
theorem As.cut {n : Nat} {x : Str} (h : As n x) (lo hi : Option Int) : As n (cutS x lo hi) := by
  refine ⟨Nat.le_trans (cutS_length x lo hi) h.1, fun c hc => h.2 c ?_⟩
  unfold cutS at hc
  exact List.mem_of_mem_drop (List.mem_of_mem_take hc)
theorem As.cut1 {n a : Nat} {x : Str} (h : As n x) : As 1 (cutS x (some (a : Int)) (some ((a : Int) + 1))) := by
  refine ⟨?_, (h.cut _ _).2⟩
  unfold cutS
  show (List.toArray _).size ≤ 1
  rw [List.size_toArray, List.length_take]
  have e1 := HT.sIx_nat x.length 0 a
  have e2 : HT.sIx x.length x.length (some ((a : Int) + 1)) = min (a + 1) x.length := HT.sIx_nat x.length x.length (a + 1)
  rw [e1, e2]
  omega
theorem As.app {n m : Nat} {x y : Str} (h : As n x) (k : As m y) : As (n + m) (x ++ y) := by
  have e : x ++ y = SX.S (x.cps.toList ++ y.cps.toList) := by rw [← SX.S_cat, SX.S_tl, SX.S_tl]
  rw [e]
  refine ⟨?_, fun c hc => ?_⟩
  · rw [SX.S_len, List.length_append]
    have h1 := h.1
    have k1 := k.1
    have e1 : x.length = x.cps.toList.length := by simp [Str.length]
    have e2 : y.length = y.cps.toList.length := by simp [Str.length]
    omega
  · have : c ∈ x.cps.toList ++ y.cps.toList := by simpa using hc
    exact (List.mem_append.mp this).elim (h.2 c) (k.2 c)
theorem upper_plain : (List.range 128).all (fun c => (Unicode.upperOf c).all fun d => decide (d < 128)) = true := by decide +kernel
theorem As.upper {n : Nat} {x : Str} (h : As n x) : As (3 * n) (Txt.upper x) := by
  refine ⟨Nat.le_trans (len_upper x) (by have := h.1; omega), fun c hc => ?_⟩
  unfold Txt.upper placed at hc
  simp only [Array.mem_toList_iff, Array.mem_flatten, Array.mem_mapIdx] at hc
  obtain ⟨l, ⟨i, hi, rfl⟩, hl⟩ := hc
  have hx := h.2 (x.cps[i]) (by simp)
  have := List.all_eq_true.mp upper_plain _ (List.mem_range.mpr hx)
  have := List.all_eq_true.mp this c (by simpa using hl)
  exact of_decide_eq_true this
end Gk

set_option Elab.async false
set_option linter.all false
set_option maxRecDepth 100000
set_option maxHeartbeats 1000000
namespace Gk
open PySem PySem.Spec PyProof.Rows L2
def one (c : Nat) : Str := SX.S [c]
theorem one_len (c : Nat) : (one c).length = 1 := rfl
theorem joinL_nil : ∀ l : List (List Nat), TL.joinL [] l = l.flatten
  | [] => rfl
  | [p] => by simp [TL.joinL]
  | p :: q :: r => by
    show p ++ ([] ++ TL.joinL [] (q :: r)) = _
    rw [joinL_nil (q :: r)]
    rfl
theorem join_one (cs : List Nat) : Txt.join (Str.ofString "") (cs.map one) = SX.S cs := by
  have e : cs.map one = (cs.map fun c => [c]).map SX.S := by rw [List.map_map]; rfl
  have z : Str.ofString "" = SX.S [] := by decide +kernel
  rw [e, z, SX.join_S, joinL_nil]
  have : (cs.map fun c => [c]).flatten = cs := by
    clear e z
    induction cs with
    | nil => rfl
    | cons b r ih => rw [List.map_cons, List.flatten_cons, ih]; rfl
  rw [this]
theorem ones_sum (cs : List Nat) : ((cs.map one).map (·.length)).sum = cs.length := by
  induction cs with
  | nil => rfl
  | cons b r ih =>
    rw [List.map_cons, List.map_cons, List.sum_cons, ih, List.length_cons, one_len]
    omega
theorem join_fit {cs : List Nat} (h : cs.length ≤ 64) : ((cs.map one).map (·.length)).sum + (cs.map one).length * (Str.ofString "").length ≤ 16777216 := by
  rw [ones_sum]
  show cs.length + (cs.map one).length * 0 ≤ _
  omega

theorem As.mul2 {x : Str} (h : As 1 x) : As 2 (Txt.mul x 2) := by
  refine ⟨?_, fun c hc => ?_⟩
  · have := len_mul x 2
    have h1 := h.1
    rw [if_neg (by decide)] at this
    omega
  · unfold Txt.mul at hc
    rw [if_neg (by decide)] at hc
    split at hc
    · exact h.2 c hc
    · have e : (List.replicate (2 : Int).toNat x.cps).foldl (· ++ ·) #[] = x.cps ++ x.cps := by
        show (List.replicate 2 x.cps).foldl (· ++ ·) #[] = _
        simp [List.replicate]
      have hc : c ∈ ((List.replicate (2 : Int).toNat x.cps).foldl (· ++ ·) #[]).toList := hc
      rw [e, Array.toList_append] at hc
      exact (List.mem_append.mp hc).elim (h.2 c) (h.2 c)
def rRepS : V → V → Hp → VK → Prop := fun x y H Q => ∃ (z : Str) (n : Int), x = .str z ∧ y = .int n ∧ z.length ≤ 16 ∧ 0 ≤ n ∧ n ≤ 1048576 ∧ Q (.str (Txt.mul z n)) H
theorem op_repS {X : Cx} : OpR X (binaryOp .Mult) rRepS := by
  intro pins s σ H x y v u Q I rx ry h
  obtain ⟨i, j, rfl, rfl, h1, h2, h3, q⟩ := h
  obtain ⟨t, rfl⟩ := rx
  obtain ⟨t', rfl⟩ := ry
  exact SB.mul (mulOk_of 16 1048576 h1 h3 (by omega) (by decide) (by decide)) fun t' tk => ⟨.str _, H, I.tok _, ⟨_, rfl⟩, q⟩
theorem As.sg {c : Nat} (h : c < 128) : As 1 (one c) := ⟨Nat.le_refl _, fun x hx => by
  have : x ∈ [c] := hx
  rw [List.mem_singleton.mp this]; exact h⟩
theorem As.S {n : Nat} {cs : List Nat} (h : cs.length ≤ n) (k : ∀ c ∈ cs, c < 128) : As n (SX.S cs) := ⟨by rw [SX.S_len]; exact h, fun c hc => k c (by simpa using hc)⟩
theorem As.fit {n : Nat} {x : Str} (h : As n x) (k : n ≤ 1000) : x.length ≤ sizeLine := Nat.le_trans h.1 (Nat.le_trans k (by decide))
theorem As.fit2 {n m : Nat} {x y : Str} (h : As n x) (k : As m y) (b : n + m ≤ 1000) : x.length + y.length ≤ sizeLine := Nat.le_trans (Nat.add_le_add h.1 k.1) (Nat.le_trans b (by decide))
theorem T8_as : ∀ t ∈ T8, As 5 t.1 := by
  intro t ht
  simp only [T8, T4, List.map_cons, List.map_nil, List.cons_append, List.nil_append, List.mem_cons, List.not_mem_nil, or_false] at ht
  rcases ht with rfl | rfl | rfl | rfl | rfl | rfl | rfl | rfl <;> exact ⟨by decide +kernel, by decide +kernel⟩
theorem T8_len : T8.length = 8 := rfl
theorem El.fr {H H' : Hp} {x : V} {t : Str × W3} {d l : Addr} (h : El H x t) (D : Deck H d l) (f : Fr d l H H') : El H' x t := by
  obtain ⟨a, b, e, h1, h2⟩ := h
  obtain ⟨_, _, _, q1, q2, _⟩ := D
  have no : ∀ {c : Addr} {ys : List V}, H c = some (.tup ys) → c ≠ d ∧ c ≠ l := fun {c ys} z => ⟨(fun k => by rw [k, q1] at z; cases z), (fun k => by rw [k, q2] at z; cases z)⟩
  exact ⟨a, b, e, f _ _ (no h1).1 (no h1).2 h1, f _ _ (no h2).1 (no h2).2 h2⟩
theorem Deck.put {H : Hp} {d l L : Addr} {x : HO} (D : Deck H d l) (o : L ∉ [d, l]) : Deck (upd H L x) d l := by
  obtain ⟨ne, cs, z, q1, q2, r⟩ := D
  exact ⟨ne, cs, z, by rw [upd_ne (fun k => o (by rw [← k]; simp))]; exact q1, by rw [upd_ne (fun k => o (by rw [← k]; simp))]; exact q2, r⟩
theorem Fr.put {H0 H : Hp} {d l L : Addr} {x : HO} (f : Fr d l H0 H) (n : H0 L = none) : Fr d l H0 (upd H L x) := fun b o nd nl e => by
  rw [upd_ne (fun z => by rw [z, n] at e; cases e)]
  exact f b o nd nl e
section
variable {P : Program} {w : World} {K : PySem.W.Frag} {mg : Str → Option Value} {base : Heap}
def sp_sign (K : PySem.W.Frag) : Sp := fun vs H Q _ => ∃ (d l : Addr), vs = [.ref d] ∧ Deck H d l ∧ ∀ H' c, Deck H' d l → Fr d l H H' → c < 128 → Q (.str (one c)) H'
theorem ok_sign (T : Tx K mg) : FnOk P w K mg base CX0 2 T.f_sign T.fd_sign ["_law_deck_here"] (sp_sign K) := by
  refine T.F_sign.ok sc_sign (fun vs H Q E h => ?_) (fun cdv A outer s H vs Q E hr h => ?_)
  · obtain ⟨d, l, rfl, _⟩ := h
    rfl
  · obtain ⟨d, l, rfl, D, q⟩ := h
    refine ⟨_, (pss_cons (ps_set (i := 1) sc_sign.nd rfl (by first | exact .inl rfl | exact .inr rfl) pe_str) (pss_one (ps_ret (pe_item_str (pv 1) (pe_call (ok_draw T) (hr.mono (by decide)) (by rfl) T.g_draw T.F_draw.kp T.b_draw .nil pass0 (pa_cons (pv 0) (pa_cons (pe_callB call_len_str (by rfl) T.m_len PySem.boot_len (pa_cons (pv 1) pa_nil)) pa_nil))) (fun _ _ => rfl))))), ?_⟩
    have main : ∀ sg : Str, 0 < sg.length → sg.length ≤ 1000 → (∀ c ∈ sg.cps.toList, c < 128) → ∀ (v : Int), 0 ≤ v → v < sg.length → ∃ c, sg.cps[v.toNat]? = some c ∧ c < 128 := fun sg h0 h1 h2 v v0 v1 => by
      have hlt : v.toNat < sg.cps.size := by
        have : sg.length = sg.cps.size := rfl
        omega
      exact ⟨sg.cps[v.toNat], Array.getElem?_eq_getElem hlt, h2 _ (by simp)⟩
    refine ⟨.str _, rfl, .ref d, rfl, .str _, rfl, _, rfl, (by decide +kernel), d, l, _, rfl, D, (by decide +kernel), (by decide +kernel), fun H' v D' f' v0 v1 => ?_⟩
    obtain ⟨c, hc, c1⟩ := main _ (by decide +kernel) (by decide +kernel) (by decide +kernel) v v0 v1
    exact ⟨_, v, c, rfl, rfl, v0, Int.lt_of_lt_of_le v1 (by decide +kernel), v1, hc, q _ c D' f' c1⟩
def sp_bent (K : PySem.W.Frag) : Sp := fun vs H Q _ => ∃ (d l : Addr) (z : Str) (n : Nat), vs = [.ref d, .str z] ∧ Deck H d l ∧ As n z ∧ n ≤ 100 ∧ ∀ H' y, Deck H' d l → Fr d l H H' → As (2 * n + 10) y → Q (.str y) H'
theorem ok_bent (T : Tx K mg) : FnOk P w K mg base CX0 3 T.f_bent T.fd_bent ["_law_deck_here", "_law_text"] (sp_bent K) := by
  refine T.F_bent.ok sc_bent (fun vs H Q E h => ?_) (fun cdv A outer s H vs Q E hr h => ?_)
  · obtain ⟨d, l, z, n, rfl, _⟩ := h
    rfl
  · obtain ⟨d, l, z, n, rfl, D, hz, hn, q⟩ := h
    refine ⟨_, (pss_cons (ps_set (i := 2) sc_bent.nd rfl (by first | exact .inl rfl | exact .inr rfl) (pe_call (ok_draw T) (hr.mono (by decide)) (by rfl) T.g_draw T.F_draw.kp T.b_draw .nil pass0 (pa_cons (pv 0) (pa_cons pe_int pa_nil)))) (pss_cons (ps_set (i := 3) sc_bent.nd rfl (by first | exact .inl rfl | exact .inr rfl) (pe_call (ok_draw T) (hr.mono (by decide)) (by rfl) T.g_draw T.F_draw.kp T.b_draw .nil pass0 (pa_cons (pv 0) (pa_cons (pe_op op_add (pe_callB call_len_str (by rfl) T.m_len PySem.boot_len (pa_cons (pv 1) pa_nil)) pe_int) pa_nil)))) (pss_cons (ps_if (pt_cmpR op_lt (pv 2) pe_int (nomark _)) (pss_one (ps_ret (pe_op op_add_str (pe_op op_add_str (pe_slice sl_str (pv 1) po_none (po_some (pv 3))) (pe_call (ok_sign T) (hr.mono (by decide)) (by rfl) T.g_sign T.F_sign.kp T.b_sign .nil pass0 (pa_cons (pv 0) pa_nil))) (pe_slice sl_str (pv 1) (po_some (pe_op op_add (pv 3) (pv 2))) po_none)))) pss_nil) (pss_cons (ps_if (pt_cmpR op_eq (pv 2) pe_int (nomark _)) (pss_one (ps_ret (pe_op op_add_str (pe_slice sl_str (pv 1) po_none (po_some (pv 3))) (pe_slice sl_str (pv 1) (po_some (pe_op op_add (pv 3) pe_int)) po_none)))) pss_nil) (pss_cons (ps_if (pt_cmpR op_eq (pv 2) pe_int (nomark _)) (pss_one (ps_ret (pe_op op_add_str (pe_op op_add_str (pe_slice sl_str (pv 1) po_none (po_some (pv 3))) (pe_bm0 PySem.F.plainAttrs_str PySem.F.slot_str_upper PySem.F.type_str_upper mt_upper (pe_slice sl_str (pv 1) (po_some (pv 3)) (po_some (pe_op op_add (pv 3) pe_int))))) (pe_slice sl_str (pv 1) (po_some (pe_op op_add (pv 3) pe_int)) po_none)))) pss_nil) (pss_cons (ps_if (pt_cmpR op_eq (pv 2) pe_int (nomark _)) (pss_one (ps_ret (pe_op op_add_str (pe_op op_add_str (pe_slice sl_str (pv 1) po_none (po_some (pv 3))) (pe_op op_repS (pe_slice sl_str (pv 1) (po_some (pv 3)) (po_some (pe_op op_add (pv 3) pe_int))) pe_int)) (pe_slice sl_str (pv 1) (po_some (pe_op op_add (pv 3) pe_int)) po_none)))) pss_nil) (pss_cons (ps_if (pt_cmpR op_eq (pv 2) pe_int (nomark _)) (pss_one (ps_ret (pe_op op_add_str (pe_op op_add_str (pe_slice sl_str (pv 1) po_none (po_some (pv 3))) (pe_ix ix_list (pe_lst (pa_cons pe_str (pa_cons pe_str (pa_cons pe_str (pa_cons pe_str pa_nil))))) (pe_call (ok_draw T) (hr.mono (by decide)) (by rfl) T.g_draw T.F_draw.kp T.b_draw .nil pass0 (pa_cons (pv 0) (pa_cons pe_int pa_nil))) (fun _ _ => rfl))) (pe_slice sl_str (pv 1) (po_some (pv 3)) po_none)))) pss_nil) (pss_cons (ps_if (pt_cmpR op_eq (pv 2) pe_int (nomark _)) (pss_one (ps_ret (pe_op op_add_str (pe_op op_add_str (pe_slice sl_str (pv 1) po_none (po_some (pv 3))) (pe_ix ix_tup (pe_ix ix_list (pe_call0 (ok_texts T) (hr.mono (by decide)) (by rfl) T.g_texts T.F_texts.kp T.b_texts .nil pass0) (pe_call (ok_draw T) (hr.mono (by decide)) (by rfl) T.g_draw T.F_draw.kp T.b_draw .nil pass0 (pa_cons (pv 0) (pa_cons pe_int pa_nil))) (fun _ _ => rfl)) pe_int (fun _ _ => rfl))) (pe_slice sl_str (pv 1) (po_some (pv 3)) po_none)))) pss_nil) (pss_cons (ps_if (pt_cmpR op_eq (pv 2) pe_int (nomark _)) (pss_one (ps_ret (RevTx.pe_revS (pv 1)))) pss_nil) (pss_one (ps_ret (pe_join pe_str (pe_lc (own := [("_law_k", 4)]) (by rfl) sc_bent.nd (pi_range1 (by rfl) T.m_range (pa_cons (pe_call (ok_draw T) (hr.mono (by decide)) (by rfl) T.g_draw T.F_draw.kp T.b_draw .nil pass0 (pa_cons (pv 0) (pa_cons pe_int pa_nil))) pa_nil)) (blkOk_by (own := [("_law_k", 4)]) (N := ["_law_deck_here", "_law_text", "_law_way", "_law_at", "_law_k"]) (sc := defScope s_bent) (by decide +kernel)) (fun _ _ _ _ _ => (pg_name (i := 4) sc_bent.nd rfl (by first | exact .inl rfl | exact .inr rfl))) (fun _ _ _ _ _ => pts_nil) (fun _ _ _ _ _ => (pe_call (ok_sign T) (hr.mono (by decide)) (by rfl) T.g_sign T.F_sign.kp T.b_sign .nil pass0 (pa_cons (pv 0) pa_nil)))))))))))))))), ?_⟩
    have zf : z.length ≤ sizeLine := hz.fit (by omega)
    refine ⟨.ref d, rfl, d, l, 9, rfl, D, by decide, by decide, fun H1 way D1 f1 w0 w1 => ?_⟩
    refine ⟨.ref d, rfl, .str z, rfl, z, rfl, zf, _, _, rfl, rfl, d, l, _, rfl, D1, by omega, by have := hz.1; omega, fun H2 at_ D2 f2 a0 a1 => ?_⟩
    have f12 := f1.trans f2
    obtain ⟨k, rfl⟩ : ∃ k : Nat, at_ = (k : Int) := ⟨at_.toNat, (Int.toNat_of_nonneg a0).symm⟩
    have c1 := hz.cut none (some (k : Int))
    refine ⟨.int way, rfl, way, 2, rfl, rfl, _, rfl, ite2 (fun _ => ?_) (fun _ => ?_)⟩
    · have c2 := hz.cut (some ((k : Int) + way)) none
      refine ⟨.str z, rfl, .int k, rfl, k, rfl, z, rfl, zf, .ref d, rfl, d, l, rfl, D2, fun H3 c D3 f3 hc => ?_⟩
      have c3 := c1.app (As.sg hc)
      refine ⟨_, _, rfl, rfl, c1.fit2 (As.sg hc) (by omega), .str z, rfl, .int k, rfl, .int way, rfl, _, _, rfl, rfl, _, rfl, z, rfl, zf, _, _, rfl, rfl, c3.fit2 c2 (by omega), ?_⟩
      exact q _ _ D3 (f12.trans f3) ((c3.app c2).mono (by omega))
    have c2 := hz.cut (some ((k : Int) + 1)) none
    have cm := hz.cut1 (a := k)
    refine ⟨.int way, rfl, rfl, _, rfl, ite2 (fun _ => ?_) (fun _ => ?_)⟩
    · refine ⟨.str z, rfl, .int k, rfl, k, rfl, z, rfl, zf, .str z, rfl, .int k, rfl, _, _, rfl, rfl, _, rfl, z, rfl, zf, _, _, rfl, rfl, c1.fit2 c2 (by omega), ?_⟩
      exact q _ _ D2 f12 ((c1.app c2).mono (by omega))
    refine ⟨.int way, rfl, rfl, _, rfl, ite2 (fun _ => ?_) (fun _ => ?_)⟩
    · have cu := cm.upper
      have c3 := c1.app cu
      refine ⟨.str z, rfl, .int k, rfl, k, rfl, z, rfl, zf, .str z, rfl, .int k, rfl, k, rfl, .int k, rfl, _, _, rfl, rfl, _, rfl, z, rfl, zf, rfl, _, rfl, rfl, Nat.le_trans cm.1 (by decide), _, _, rfl, rfl, c1.fit2 cu (by omega), .str z, rfl, .int k, rfl, _, _, rfl, rfl, _, rfl, z, rfl, zf, _, _, rfl, rfl, c3.fit2 c2 (by omega), ?_⟩
      exact q _ _ D2 f12 ((c3.app c2).mono (by omega))
    refine ⟨.int way, rfl, rfl, _, rfl, ite2 (fun _ => ?_) (fun _ => ?_)⟩
    · have cu := cm.mul2
      have c3 := c1.app cu
      refine ⟨.str z, rfl, .int k, rfl, k, rfl, z, rfl, zf, .str z, rfl, .int k, rfl, k, rfl, .int k, rfl, _, _, rfl, rfl, _, rfl, z, rfl, zf, _, 2, rfl, rfl, Nat.le_trans cm.1 (by decide), by decide, by decide, _, _, rfl, rfl, c1.fit2 cu (by omega), .str z, rfl, .int k, rfl, _, _, rfl, rfl, _, rfl, z, rfl, zf, _, _, rfl, rfl, c3.fit2 c2 (by omega), ?_⟩
      exact q _ _ D2 f12 ((c3.app c2).mono (by omega))
    have c4 := hz.cut (some (k : Int)) none
    refine ⟨.int way, rfl, rfl, _, rfl, ite2 (fun _ => ?_) (fun _ => ?_)⟩
    · refine ⟨.str z, rfl, .int k, rfl, k, rfl, z, rfl, zf, by show 4 ≤ sizeLine; decide, fun L nL => ?_⟩
      refine ⟨.ref d, rfl, d, l, 4, rfl, D2.same (same_upd nL), by decide, by decide, fun H3 v D3 f3 v0 v1 => ?_⟩
      have oL := D2.out (Same.refl H2) nL
      have hL3 := f3 _ _ (fun z => oL (by rw [z]; simp)) (fun z => oL (by rw [z]; simp)) (upd_same (H := H2) (a := L) (o := .lst [.str "!", .str " ", .str "0", .str "1"]))
      have pick : ∃ c, atI [V.str "!", .str " ", .str "0", .str "1"] v = some (.str c) ∧ As 1 c := by
        have : v = 0 ∨ v = 1 ∨ v = 2 ∨ v = 3 := by omega
        rcases this with rfl | rfl | rfl | rfl <;> exact ⟨_, rfl, by decide +kernel, by decide +kernel⟩
      obtain ⟨c, hc, ac⟩ := pick
      have c3 := c1.app ac
      refine ⟨L, _, _, _, rfl, rfl, SqL.of hL3, hc, _, _, rfl, rfl, c1.fit2 ac (by omega), .str z, rfl, .int k, rfl, k, rfl, z, rfl, zf, _, _, rfl, rfl, c3.fit2 c4 (by omega), ?_⟩
      exact q _ _ D3 (f12.trans ((Fr.of (same_upd nL)).trans f3)) ((c3.app c4).mono (by omega))
    refine ⟨.int way, rfl, rfl, _, rfl, ite2 (fun _ => ?_) (fun _ => ?_)⟩
    · refine ⟨.str z, rfl, .int k, rfl, k, rfl, z, rfl, zf, rfl, fun H3 p xs s3 h3 np ex => ?_⟩
      refine ⟨.ref d, rfl, d, l, 8, rfl, D2.same s3, by decide, by decide, fun H4 v D4 f4 v0 v1 => ?_⟩
      have op := D2.out (Same.refl H2) np
      have h4 := f4 _ _ (fun z => op (by rw [z]; simp)) (fun z => op (by rw [z]; simp)) h3
      obtain ⟨kk, x, _, hx, ha, _, _⟩ := at_some (xs := xs) v0 (by rw [ex.1]; exact v1)
      obtain ⟨t, ht, e⟩ := ex.2 kk x hx
      obtain ⟨a, b, rfl, e1, _⟩ := e.fr (D2.same s3) f4
      have at' := T8_as t (List.mem_of_getElem? ht)
      have c3 := c1.app at'
      refine ⟨p, xs, v, _, rfl, rfl, SqL.of h4, ha, a, _, 0, .str t.1, rfl, rfl, SqT.of e1, rfl, _, _, rfl, rfl, c1.fit2 at' (by omega), .str z, rfl, .int k, rfl, k, rfl, z, rfl, zf, _, _, rfl, rfl, c3.fit2 c4 (by omega), ?_⟩
      exact q _ _ D4 (f12.trans ((Fr.of s3).trans f4)) ((c3.app c4).mono (by omega))
    refine ⟨.int way, rfl, rfl, _, rfl, ite2 (fun _ => ?_) (fun _ => ?_)⟩
    · refine ⟨.str z, rfl, z, rfl, zf, fun y hy hm => ?_⟩
      exact q _ _ D2 f12 ⟨Nat.le_trans hy (Nat.le_trans hz.1 (by omega)), fun c hc => hz.2 c (hm c hc)⟩
    · refine ⟨⟨_, rfl⟩, .ref d, rfl, d, l, 6, rfl, D2, by decide, by decide, fun H3 v D3 f3 v0 v1 => ?_⟩
      refine ⟨v, rfl, ?_, ?_, fun L nL => ?_⟩
      · first | omega | exact Int.le_trans (show v ≤ 64 by omega) (by decide) | exact Int.lt_of_lt_of_le (show v < 64 by omega) (by decide)
      · first | omega | exact Int.le_trans (show v ≤ 64 by omega) (by decide) | exact Int.lt_of_lt_of_le (show v < 64 by omega) (by decide)
      have oL := D3.out (Same.refl H3) nL
      have vn : ((v.toNat : Nat) : Int) = v := Int.toNat_of_nonneg v0
      refine lc_range (lo := 0) (n := v.toNat) (fun j H' => Deck H' d l ∧ Fr d l H3 H' ∧ ∃ cs : List Nat, H' L = some (.lst (cs.map fun c => V.str (one c))) ∧ cs.length = j ∧ ∀ c ∈ cs, c < 128) ⟨D3.same (same_upd nL), Fr.of (same_upd nL), [], upd_same, rfl, fun c hc => by cases hc⟩ ?_ ?_
      · rintro j H4 hj ⟨D4, f4, cs, h4, hl, hcs⟩
        refine ⟨rfl, ?_⟩
        refine ⟨.ref d, rfl, d, l, rfl, D4, fun H5 c D5 f5 hc => ?_⟩
        have h5 := f5 _ _ (fun z => oL (by rw [z]; simp)) (fun z => oL (by rw [z]; simp)) h4
        refine ⟨_, h5, ?_, D5.put oL, (f4.trans f5).put nL, cs ++ [c], ?_, by rw [List.length_append, hl]; rfl, fun x hx => (List.mem_append.mp hx).elim (hcs x) fun z => by rw [List.mem_singleton.mp z]; exact hc⟩
        · rw [List.length_map]
          exact Nat.lt_of_lt_of_le (show cs.length < 64 by omega) (by decide)
        · rw [upd_same, List.map_append]
          rfl
      · rintro H4 ⟨D4, f4, cs, h4, hl, hcs⟩
        have em : (cs.map fun c => V.str (one c)) = (cs.map one).map V.str := by rw [List.map_map]; rfl
        rw [em] at h4
        refine ⟨_, L, cs.map one, rfl, rfl, .inl (SqL.of h4), join_fit (by omega), ?_⟩
        rw [join_one]
        exact q _ _ D4 ((f12.trans f3).trans f4) (As.S (by omega) hcs)
end
end Gk

set_option Elab.async false
set_option linter.all false
set_option maxRecDepth 100000
set_option maxHeartbeats 1000000
namespace Gk
open PySem PySem.Spec PyProof.Rows L2
def hit (d : PyData) (t : Str × W3) : Bool := match d with
  | .str z => decide (t.1 = z)
  | _ => false
theorem T8_word : ∀ t ∈ T8, wordS t.1 = some t.2 := by
  intro t ht
  simp only [T8, T4, List.map_cons, List.map_nil, List.cons_append, List.nil_append, List.mem_cons, List.not_mem_nil, or_false] at ht
  rcases ht with rfl | rfl | rfl | rfl | rfl | rfl | rfl | rfl <;> decide +kernel
theorem wordS_in {z : Str} {c : W3} (h : wordS z = some c) : (z, c) ∈ T8 := by
  have h0 := h
  unfold wordS at h
  cases hx : ix4 (nameOf z) with
  | none => rw [hx] at h; cases h
  | some n =>
    obtain ⟨n4, hn⟩ := ix4_in hx
    have hz : z = nameOf z ∨ z = nameOf z ++ Str.ofString "!" := by
      unfold nameOf
      by_cases f : Txt.endswith z "!" = true
      · rw [if_pos f]; exact .inr (fro_split f)
      · rw [if_neg f]; exact .inl rfl
    have e : n = 0 ∨ n = 1 ∨ n = 2 ∨ n = 3 := by omega
    rcases hz with hz | hz <;> rcases e with rfl | rfl | rfl | rfl <;> rw [← Option.some.inj hn] at hz <;> subst hz <;> revert h0 <;> revert c <;> decide +kernel
theorem hits (d : PyData) : (T8.filter (hit d)).map (·.2) = (wordD d).toList := by
  have no : ∀ d, (∀ t ∈ T8, hit d t = false) → (T8.filter (hit d)).map (·.2) = [] := fun d h => by
    rw [List.filter_eq_nil_iff.mpr (fun t ht => by rw [h t ht]; exact Bool.false_ne_true)]
    rfl
  cases d with
  | str z =>
    show _ = (wordS z).toList
    cases hw : wordS z with
    | none =>
      refine no _ fun t ht => ?_
      show decide (t.1 = z) = false
      refine decide_eq_false fun e => ?_
      have := T8_word t ht
      rw [e, hw] at this
      cases this
    | some c =>
      have hz := wordS_in hw
      clear hw no
      simp only [T8, T4, List.map_cons, List.map_nil, List.cons_append, List.nil_append, List.mem_cons, List.not_mem_nil, or_false, Prod.mk.injEq] at hz
      rcases hz with ⟨rfl, rfl⟩ | ⟨rfl, rfl⟩ | ⟨rfl, rfl⟩ | ⟨rfl, rfl⟩ | ⟨rfl, rfl⟩ | ⟨rfl, rfl⟩ | ⟨rfl, rfl⟩ | ⟨rfl, rfl⟩ <;> decide +kernel
  | _ => exact no _ fun t _ => rfl
theorem W_fine : ∀ t ∈ T8, fineB 4000 10 (.tuple [.int t.2.1, .int t.2.2.1, .bool t.2.2.2]) = true := by
  intro t ht
  simp only [T8, T4, List.map_cons, List.map_nil, List.cons_append, List.nil_append, List.mem_cons, List.not_mem_nil, or_false] at ht
  rcases ht with rfl | rfl | rfl | rfl | rfl | rfl | rfl | rfl <;> decide +kernel
def Wd (H : Hp) (x : V) (c : W3) : Prop := ∃ b, x = .ref b ∧ H b = some (.tup [.int c.1, .int c.2.1, .bl c.2.2])
def Wds (H : Hp) (xs : List V) (cs : List W3) : Prop := xs.length = cs.length ∧ ∀ (i : Nat) (x : V), xs[i]? = some x → ∃ c, cs[i]? = some c ∧ Wd H x c
theorem Wds.snoc {H : Hp} {xs : List V} {cs : List W3} {x : V} {c : W3} {L : Addr} (h : Wds H xs cs) (k : Wd H x c) (hL : H L = some (.lst xs)) : Wds (upd H L (.lst (xs ++ [x]))) (xs ++ [x]) (cs ++ [c]) := by
  have up : ∀ {y : V} {e : W3}, Wd H y e → Wd (upd H L (.lst (xs ++ [x]))) y e := fun {y e} ⟨b, e1, e2⟩ => ⟨b, e1, by rw [upd_ne (fun z => by rw [z, hL] at e2; cases e2)]; exact e2⟩
  refine ⟨by rw [List.length_append, List.length_append, h.1]; rfl, fun i y hy => ?_⟩
  by_cases hi : i < xs.length
  · rw [List.getElem?_append_left hi] at hy
    rw [List.getElem?_append_left (h.1 ▸ hi)]
    obtain ⟨e, h1, h2⟩ := h.2 i y hy
    exact ⟨e, h1, up h2⟩
  · have l1 := h.1
    have : i = xs.length := by
      have := (List.getElem?_eq_some_iff.mp hy).1
      rw [List.length_append] at this
      simp at this
      omega
    subst this
    rw [List.getElem?_append_right (Nat.le_refl _), Nat.sub_self] at hy
    cases Option.some.inj hy
    rw [List.getElem?_append_right (by omega), l1, Nat.sub_self]
    exact ⟨c, rfl, up k⟩
theorem Wds.same {H H' : Hp} {xs : List V} {cs : List W3} (h : Wds H xs cs) (s : Same H H') : Wds H' xs cs :=
  ⟨h.1, fun i x hx => by
    obtain ⟨c, h1, b, e1, e2⟩ := h.2 i x hx
    exact ⟨c, h1, b, e1, s _ _ e2⟩⟩
section
variable {P : Program} {w : World} {K : PySem.W.Frag} {mg : Str → Option Value} {base : Heap}
def sp_right (K : PySem.W.Frag) : Sp := fun vs H Q _ => ∃ (v : V) (d : PyData), vs = [v] ∧ Sh H v d ∧ (∀ z, d = .str z → z.length ≤ 1000) ∧ ∀ H', Same H H' → Q (.bl true) H'
theorem ok_right (T : Tx K mg) : FnG P w K mg base CX0 3 T.f_right T.fd_right ["_law_thing"] (sp_right K) := by
  refine okG0 T.F_right sc_right (fun vs H Q E h => ?_) (fun cdv A outer s H vs Q E nothing hr h => ?_)
  · obtain ⟨v, d, rfl, _⟩ := h
    rfl
  · obtain ⟨v, d, rfl, sh, hz, q⟩ := h
    refine ⟨_, (pss_cons (ps_setLc (i := 1) (own := [("_law_text", 4), ("_law_word", 5)]) (by rfl) sc_right.nd rfl rfl (sw_true rfl rfl rfl (by decide +kernel)) (pi_list (pe_call0 (ok_texts T) (hr.mono (by decide)) (by rfl) T.g_texts T.F_texts.kp T.b_texts .nil pass0)) (blkOk_by (own := [("_law_text", 4), ("_law_word", 5)]) (N := ["_law_thing", "_law_known", "_law_turn", "_law_found", "_law_text", "_law_word"]) (sc := defScope s_right) (by decide +kernel)) (fun _ _ _ _ _ => (show PG _ _ (gTup K 2 _) from pg_tup rfl (pgs_cons (pg_name (i := 4) sc_right.nd rfl (by first | exact .inl rfl | exact .inr rfl)) (pgs_cons (pg_name (i := 5) sc_right.nd rfl (by first | exact .inl rfl | exact .inr rfl)) pgs_nil)))) (fun _ _ _ _ _ => (pts_one (PW.pt (pw_and (pt_val (pe_callB (show CallR _ _ (rIsi K) from call_isi) (by rfl) T.m_isinstance (by decide +kernel) (pa_cons (pv 0) (pa_cons (pe_bltn (v := .ty "str") (u := .type "str") (by rfl) T.m_str (by decide +kernel) rfl) pa_nil)))) (pw_and1 (pt_cmpR op_eq (pv 4) (pv 0) (nomark _))))))) (fun _ _ _ _ _ => (pv 5))) (pss_cons (ps_for PassesOwn.never rfl (pi_range1 (by rfl) T.m_range (pa_cons pe_int pa_nil)) (pg_name (i := 2) sc_right.nd rfl (by first | exact .inl rfl | exact .inr rfl)) (pss_cons (ps_set (i := 3) sc_right.nd rfl (by first | exact .inl rfl | exact .inr rfl) (pe_call (ok_read T) (hr.mono (by decide)) (by rfl) T.g_read T.F_read.kp T.b_read .nil pass0 (pa_cons (pv 0) pa_nil))) (pss_one (ps_if (pt_cmpR (op_eqD hr.units) (pv 1) (pe_lst pa_nil) (nomark _)) (pss_one (ps_if (pt_cmpR (op_neD hr.units) (pv 3) (pe_lst (pa_cons pe_str (pa_cons pe_bl pa_nil))) (nomark _)) (pss_one (ps_ret pe_bl)) pss_nil)) (pss_one (ps_if (pw_or (pt_cmpR op_ne (pe_ix ix_list (pv 3) pe_int (fun _ _ => rfl)) pe_str (nomark _)) (pw_or1 (pt_cmpR op_ne (pe_callB (call_repr nothing hr.units) (by rfl) T.m_repr (by decide +kernel) (pa_cons (pe_ix ix_list (pv 3) pe_int (fun _ _ => rfl)) pa_nil)) (pe_callB (call_repr nothing hr.units) (by rfl) T.m_repr (by decide +kernel) (pa_cons (pe_ix ix_list (pv 1) pe_int (fun _ _ => rfl)) pa_nil)) (nomark _)))).pt (pss_one (ps_ret pe_bl)) pss_nil)))))) (pss_one (ps_ret pe_bl)))), ?_⟩
    refine ⟨rfl, fun H1 p xs s1 h1 np ex => ?_⟩
    refine ⟨p, rfl, ⟨_, SqL.of h1⟩, fun L nL => ?_⟩
    refine lc_list (K := K) (a := p) (xs := xs) (fun i H' => Same H1 H' ∧ ∃ ks, H' L = some (.lst ks) ∧ Wds H' ks (((T8.take i).filter (hit d)).map (·.2))) ⟨same_upd nL, [], upd_same, rfl, fun i x hx => by cases hx⟩ (fun i H' _ ⟨z, _⟩ => SqL.of (z _ _ h1)) ?_ ?_
    · rintro i x H2 hx ⟨s2, ks, h2, kw⟩
      obtain ⟨t, ht, e⟩ := ex.2 i x hx
      obtain ⟨a, b, rfl, e1, e2⟩ := e.same s2
      have et : T8.take (i + 1) = T8.take i ++ [t] := take_ne ht
      have hyes : hit d t = true → ((T8.take (i + 1)).filter (hit d)).map (·.2) = ((T8.take i).filter (hit d)).map (·.2) ++ [t.2] := fun h => by
        rw [et, List.filter_append, List.map_append, List.filter_cons, if_pos h]
        rfl
      have hno : hit d t = false → ((T8.take (i + 1)).filter (hit d)).map (·.2) = ((T8.take i).filter (hit d)).map (·.2) := fun h => by
        rw [et, List.filter_append, List.map_append, List.filter_cons, if_neg (by rw [h]; exact Bool.false_ne_true)]
        exact List.append_nil _
      have few : ks.length < sizeLine := by
        have l1 := kw.1
        rw [List.length_map] at l1
        have l2 := List.length_filter_le (hit d) (T8.take i)
        have l3 : (T8.take i).length ≤ 8 := by rw [List.length_take, T8_len]; omega
        exact Nat.lt_of_lt_of_le (show ks.length < 64 by omega) (by decide)
      refine ⟨a, _, rfl, SqT.of e1, rfl, _, _, rfl, _, _, rfl, rfl, rfl, ?_⟩
      refine ⟨v, rfl, _, _, _, _, _, rfl, .ty _, (sh.same (s1.trans s2)).ty, kit_ty (kitStr d), _, rfl, ite2 (fun e => ?_) (fun e => ?_)⟩
      · have hs : ∃ z, d = .str z := by cases d <;> first | exact ⟨_, rfl⟩ | cases e
        obtain ⟨z, rfl⟩ := hs
        cases sh
        refine ⟨.str t.1, rfl, .str z, rfl, rfl, _, rfl, ?_⟩
        by_cases hzt : t.1 = z
        · rw [decide_eq_true (show V.str t.1 = V.str z by rw [hzt])]
          refine iteT ⟨.ref b, rfl, ks, h2, few, fun c o z => ?_, _, upd_same, ?_⟩
          · rw [upd_ne (fun k => by rw [k, nL] at z; cases z)]
            exact s2 _ _ z
          · rw [hyes (decide_eq_true hzt)]
            exact kw.snoc ⟨b, rfl, e2⟩ h2
        · rw [decide_eq_false (fun k => hzt (V.str.inj k))]
          refine iteF ⟨s2, ks, h2, ?_⟩
          rw [hno (decide_eq_false hzt)]
          exact kw
      · refine iteF ⟨s2, ks, h2, ?_⟩
        rw [hno (by cases d <;> first | rfl | exact absurd rfl e)]
        exact kw
    · rintro H2 ⟨s2, ks, h2, kw⟩
      rw [ex.1, List.take_of_length_le (Nat.le_refl _), hits] at kw
      have s12 := s1.trans s2
      refine ⟨2, rfl, by decide, by decide, for_range (n := 2) (fun j σ H' => ∃ y2 y3 y4 y5, σ = [some v, some (.ref L), y2, y3, y4, y5] ∧ Same H2 H') ⟨_, _, _, _, rfl, Same.refl _⟩ ?_ ?_⟩
      · rintro j σ H3 hj ⟨y2, y3, y4, y5, rfl, s3⟩
        refine ⟨v, rfl, v, d, rfl, sh.same (s12.trans s3), hz, fun H4 r s4 fo => ?_⟩
        have s24 := s3.trans s4
        cases hw : wordD d with
        | none =>
          rw [hw] at kw fo
          have ek : ks = [] := by
            have := kw.1
            exact List.length_eq_zero_iff.mp this
          subst ek
          replace fo : H4 r = some (.lst [.str "refused", .bl true]) := fo
          refine ⟨.ref L, rfl, Nat.zero_le _, fun m nm => ?_⟩
          have s5 := same_upd (o := .lst []) nm
          refine ⟨.list [], .list [], .lst (SqL.of (s5 _ _ (s24 _ _ h2))) .nil, .lst (SqL.of upd_same) .nil, rfl, rfl, _, rfl, iteT ?_⟩
          have h5 := s5 _ _ fo
          refine ⟨.ref r, rfl, sl2, fun m2 nm2 => ?_⟩
          have s6 := same_upd (o := .lst [.str "refused", .bl true]) nm2
          refine ⟨.list [.str "refused", .bool true], .list [.str "refused", .bool true], .lst (SqL.of (s6 _ _ h5)) (.cons (.str _) (.cons (.bl _) .nil)), .lst (SqL.of upd_same) (.cons (.str _) (.cons (.bl _) .nil)), by decide +kernel, by decide +kernel, false, ?_, ?_⟩
          · decide +kernel
          refine iteF ?_
          exact ⟨_, _, _, _, rfl, (s24.trans s5).trans s6⟩
        | some c =>
          rw [hw] at kw fo
          obtain ⟨x, y, f⟩ := c
          obtain ⟨tt, f1, f2⟩ := fo
          have hin : ∃ z, (z, (x, y, f)) ∈ T8 := by
            cases d with
            | str z => exact ⟨z, wordS_in hw⟩
            | _ => cases hw
          obtain ⟨z0, hin⟩ := hin
          have fe : fineB 4000 10 (.tuple [.int x, .int y, .bool f]) = true := W_fine _ hin
          obtain ⟨able, _, _, deep⟩ := fine_iff.mp fe
          have fits := fine_fits fe (by decide)
          have ek : ∃ b, ks = [.ref b] ∧ H2 b = some (.tup [.int x, .int y, .bl f]) := by
            obtain ⟨l1, l2⟩ := kw
            cases ks with
            | nil => cases l1
            | cons k r =>
              cases r with
              | cons _ _ => cases l1
              | nil =>
                obtain ⟨c, hc, b, e1, e2⟩ := l2 0 k rfl
                cases Option.some.inj hc
                exact ⟨b, by rw [e1], e2⟩
          obtain ⟨b, rfl, hb⟩ := ek
          refine ⟨.ref L, rfl, Nat.zero_le _, fun m nm => ?_⟩
          have s5 := same_upd (o := .lst []) nm
          have hb5 := s5 _ _ (s24 _ _ hb)
          have hL5 := s5 _ _ (s24 _ _ h2)
          have f15 := s5 _ _ f1
          have f25 := s5 _ _ f2
          have at5 := upd_same (H := H4) (a := m) (o := .lst [])
          have s25 := s24.trans s5
          generalize upd H4 m (.lst []) = H5 at hb5 hL5 f15 f25 at5 s25 ⊢
          refine ⟨.list [.tuple [.int x, .int y, .bool f]], .list [], .lst (SqL.of hL5) (.cons (.tup (SqT.of hb5) (.cons (.int _) (.cons (.int _) (.cons (.bl _) .nil)))) .nil), .lst (SqL.of at5) .nil, rfl, rfl, _, rfl, iteF ?_⟩
          have w1 : Sh H5 (.ref tt) (.tuple [.int x, .int y, .bool f]) := .tup f25 (.cons (.int _) (.cons (.int _) (.cons (.bl _) .nil)))
          have w2 : Sh H5 (.ref b) (.tuple [.int x, .int y, .bool f]) := .tup hb5 (.cons (.int _) (.cons (.int _) (.cons (.bl _) .nil)))
          refine ⟨.ref r, rfl, r, _, 0, .str "read", rfl, rfl, SqL.of f15, rfl, rfl, _, rfl, iteF ?_⟩
          refine ⟨.ref r, rfl, r, _, 1, .ref tt, rfl, rfl, SqL.of f15, rfl, .ref tt, _, rfl, w1, able, fits, by omega, .ref L, rfl, L, _, 0, .ref b, rfl, rfl, SqL.of hL5, rfl, .ref b, _, rfl, w2, able, fits, by omega, rfl, false, ?_, iteF ?_⟩
          · rw [decide_eq_true rfl]
            rfl
          exact ⟨_, _, _, _, rfl, s25⟩
      · rintro σ H3 ⟨y2, y3, y4, y5, rfl, s3⟩
        exact q _ (s12.trans s3)
end
end Gk

set_option Elab.async false
set_option linter.all false
set_option maxRecDepth 100000
set_option maxHeartbeats 1000000
namespace Gk
open PySem PySem.Spec PyProof.Rows L2
section
variable {P : Program} {w : World} {K : PySem.W.Frag} {mg : Str → Option Value} {base : Heap}
def odd16 : List PyData := [.none, .bool true, .int 0, .int 1, .tuple [], .tuple [.str "0"], .list [.str "up"], .dict [], .tuple [.int 0, .int 1, .bool false], .str "", .str "!", .str "down!!", .int (10 ^ 39)]
theorem odd16_fine : odd16.all (fineB 4000 10) = true := by decide +kernel
theorem odd16_short : ∀ e ∈ odd16, ∀ z, e = .str z → z.length ≤ 1000 := by
  intro e he z hz
  subst hz
  simp only [odd16, List.mem_cons, List.not_mem_nil, or_false, reduceCtorEq, false_or, PyData.str.injEq] at he
  rcases he with rfl | rfl | rfl <;> decide +kernel
theorem As.fine {n : Nat} {x : Str} (h : As n x) (k : n ≤ 1000) : fineB 4000 10 (.str x) = true := by
  refine fine_iff.mpr ⟨rfl, ?_, ?_, Nat.zero_le _⟩
  · exact List.all_eq_true.mpr fun c hc => decide_eq_true (Nat.lt_trans (h.2 c hc) (by decide))
  · show x.cps.size ≤ 4000
    exact Nat.le_trans h.1 (Nat.le_trans k (by decide))
def sp_law (K : PySem.W.Frag) (ts : List Addr) : Sp := fun vs H Q _ => ∃ (a : Addr) (ns : List Int), vs = [.ref a] ∧ SqL K H a (ns.map V.int) ∧ ns.length ≤ 63 ∧ (∀ p ∈ ts, ∃ ps, H p = some (.tbl ps) ∧ True) ∧ ∀ H', Q (.bl true) H'
theorem ok_law (T : Tx K mg) (_ : Tb base T) : FnG P w K mg base CX0 4 T.f_law T.fd_law ["_law_script"] (sp_law K T.tabs) := by
  refine okG0 T.F_law sc_law (fun vs H Q E h => ?_) (fun cdv A outer s H vs Q E nothing hr h => ?_)
  · obtain ⟨a, ns, rfl, _⟩ := h
    rfl
  · obtain ⟨a, ns, rfl, hS, hlen, _, q⟩ := h
    refine ⟨_, (pss_cons (ps_set (i := 1) sc_law.nd rfl (by first | exact .inl rfl | exact .inr rfl) (pe_call (ok_deck T) (hr.mono (by decide)) (by rfl) T.g_deck T.F_deck.kp T.b_deck .nil pass0 (pa_cons (pv 0) pa_nil))) (pss_cons (ps_for PassesOwn.never rfl (pi_list (pe_call0 (ok_texts T) (hr.mono (by decide)) (by rfl) T.g_texts T.F_texts.kp T.b_texts .nil pass0)) (pg_tup rfl (pgs_cons (pg_name (i := 2) sc_law.nd rfl (by first | exact .inl rfl | exact .inr rfl)) (pgs_cons (pg_name (i := 3) sc_law.nd rfl (by first | exact .inl rfl | exact .inr rfl)) pgs_nil))) (pss_cons (ps_set (i := 4) sc_law.nd rfl (by first | exact .inl rfl | exact .inr rfl) (pe_call (ok_show_word T) (hr.mono (by decide)) (by rfl) T.g_show_word T.F_show_word.kp T.b_show_word .nil pass0 (pa_cons (pv 3) pa_nil))) (pss_one (ps_if (pw_or (pt_not (pt_val (pe_callB call_isi (by rfl) T.m_isinstance (by decide +kernel) (pa_cons (pv 4) (pa_cons (pe_bltn (v := .ty "str") (u := .type "str") (by rfl) T.m_str (by decide +kernel) rfl) pa_nil))))) (pw_or (pt_cmpR op_ne (pv 4) (pv 2) (nomark _)) (pw_or1 (pt_not (pt_val (pe_callG (ok_right T) nothing (hr.mono (by decide)) (by rfl) T.g_right T.F_right.kp T.b_right .nil pass0 (pa_cons (pv 2) pa_nil))))))).pt (pss_one (ps_ret pe_bl)) pss_nil)))) (pss_cons (ps_set (i := 5) sc_law.nd rfl (by first | exact .inl rfl | exact .inr rfl) (pe_lstN (pa_cons pe_non (pa_cons pe_bl (pa_cons pe_int (pa_cons pe_int (pa_cons (pe_tup pa_nil) (pa_cons (pe_tup (pa_cons pe_str pa_nil)) (pa_cons (pe_lstN (pa_cons pe_str pa_nil)) (pa_cons pe_dnewK (pa_cons (pe_tup (pa_cons pe_int (pa_cons pe_int (pa_cons pe_bl pa_nil)))) (pa_cons pe_str (pa_cons pe_str (pa_cons pe_str (pa_cons (pe_op op_pow pe_int pe_int) pa_nil))))))))))))))) (pss_cons (ps_for PassesOwn.never rfl (pi_range1 (by rfl) T.m_range (pa_cons pe_int pa_nil)) (pg_name (i := 6) sc_law.nd rfl (by first | exact .inl rfl | exact .inr rfl)) (pss_cons (ps_set (i := 7) sc_law.nd rfl (by first | exact .inl rfl | exact .inr rfl) (pe_call (ok_draw T) (hr.mono (by decide)) (by rfl) T.g_draw T.F_draw.kp T.b_draw .nil pass0 (pa_cons (pv 1) (pa_cons pe_int pa_nil)))) (pss_cons (ps_set (i := 8) sc_law.nd rfl (by first | exact .inl rfl | exact .inr rfl) (pe_call (ok_bent T) (hr.mono (by decide)) (by rfl) T.g_bent T.F_bent.kp T.b_bent .nil pass0 (pa_cons (pv 1) (pa_cons (pe_ix ix_tup (pe_ix ix_list (pe_call0 (ok_texts T) (hr.mono (by decide)) (by rfl) T.g_texts T.F_texts.kp T.b_texts .nil pass0) (pe_call (ok_draw T) (hr.mono (by decide)) (by rfl) T.g_draw T.F_draw.kp T.b_draw .nil pass0 (pa_cons (pv 1) (pa_cons pe_int pa_nil))) (fun _ _ => rfl)) pe_int (fun _ _ => rfl)) pa_nil)))) (C8.pss_cut (ps_if (pt_cmpR op_eq (pv 7) pe_int (nomark _)) (pss_one (ps_set (i := 8) sc_law.nd rfl (by first | exact .inl rfl | exact .inr rfl) (pe_call (ok_bent T) (hr.mono (by decide)) (by rfl) T.g_bent T.F_bent.kp T.b_bent .nil pass0 (pa_cons (pv 1) (pa_cons (pv 8) pa_nil))))) pss_nil) (pss_one (ps_expr (pe_bm PySem.F.plainAttrs_list PySem.F.slot_list_append PySem.F.type_list_append mt_append (pv 5) (pa_cons (pv 8) pa_nil)))))))) (pss_cons (ps_for PassesOwn.never rfl (pi_list (pv 5)) (pg_name (i := 9) sc_law.nd rfl (by first | exact .inl rfl | exact .inr rfl)) (pss_cons (ps_set (i := 10) sc_law.nd rfl (by first | exact .inl rfl | exact .inr rfl) (pe_callB (call_repr nothing hr.units) (by rfl) T.m_repr (by decide +kernel) (pa_cons (pv 9) pa_nil))) (pss_one (ps_if (pw_or (pt_not (pt_val (pe_callG (ok_right T) nothing (hr.mono (by decide)) (by rfl) T.g_right T.F_right.kp T.b_right .nil pass0 (pa_cons (pv 9) pa_nil)))) (pw_or1 (pt_cmpR op_ne (pe_callB (call_repr nothing hr.units) (by rfl) T.m_repr (by decide +kernel) (pa_cons (pv 9) pa_nil)) (pv 10) (nomark _)))).pt (pss_one (ps_ret pe_bl)) pss_nil)))) (pss_one (ps_ret pe_bl))))))), ?_⟩
    refine ⟨.ref a, rfl, a, ns, rfl, hS, hlen, fun H1 d l s1 D1 => ?_⟩
    refine ⟨rfl, fun H2 p xs s2 h2 np ex => ?_⟩
    have D2 := D1.same s2
    refine ⟨p, rfl, ⟨_, SqL.of h2⟩, for_list (K := K) (a := p) (xs := xs) (fun i σ H' => ∃ y2 y3 y4 y5 y6 y7 y8 y9 y10, σ = [some (.ref a), some (.ref d), y2, y3, y4, y5, y6, y7, y8, y9, y10] ∧ Same H2 H') ⟨_, _, _, _, _, _, _, _, _, rfl, Same.refl _⟩ (fun i σ H' _ ⟨_, _, _, _, _, _, _, _, _, _, z⟩ => SqL.of (z _ _ h2)) ?_ ?_⟩
    · rintro i x σ H3 hx ⟨y2, y3, y4, y5, y6, y7, y8, y9, y10, rfl, s3⟩
      obtain ⟨t, ht, e⟩ := ex.2 i x hx
      obtain ⟨ta, tb, rfl, e1, e2⟩ := e.same s3
      have hin := List.mem_of_getElem? ht
      have as := T8_as t hin
      refine ⟨ta, _, rfl, SqT.of e1, rfl, _, _, rfl, _, _, rfl, rfl, ?_⟩
      refine ⟨.ref tb, rfl, tb, t, rfl, hin, e2, ?_⟩
      refine ⟨.str t.1, rfl, _, _, _, _, true, rfl, .ty _, .base (.str _), kit_ty (by decide +kernel), true, rfl, iteF ?_⟩
      refine ⟨.str t.1, rfl, .str t.1, rfl, rfl, false, ?_, iteF ?_⟩
      · rw [decide_eq_true rfl]
        rfl
      refine ⟨.str t.1, rfl, .str t.1, .str t.1, rfl, .str _, (fun z hz => by cases hz; exact Nat.le_trans as.1 (by decide)), fun H4 s4 => ⟨true, rfl, iteF ?_⟩⟩
      exact ⟨_, _, _, _, _, _, _, _, _, rfl, s3.trans s4⟩
    · rintro σ H3 ⟨y2, y3, y4, y5, y6, y7, y8, y9, y10, rfl, s3⟩
      have D3 := D2.same s3
      refine ⟨Nat.zero_le _, fun t1 n1 => ⟨sl1, fun t2 n2 => ⟨sl1, fun t3 n3 m3 => fun t4 n4 => ⟨sl3, fun t5 n5 => ⟨_, _, rfl, rfl, ⟨by decide, by decide, by decide⟩, by show 13 ≤ sizeLine; decide, fun ls nls mls => ?_⟩⟩⟩⟩⟩
      have k1 := same_upd (o := .tup []) n1
      have k2 := same_upd (o := .tup [.str "0"]) n2
      have k3 := same_upd (o := .lst [.str "up"]) n3
      have k4 := same_upd (o := .dK []) n4
      have k5 := same_upd (o := .tup [.int 0, .int 1, .bl false]) n5
      have k6 := same_upd (o := .lst [.non, .bl true, .int 0, .int 1, .ref t1, .ref t2, .ref t3, .ref t4, .ref t5, .str "", .str "!", .str "down!!", .int (10 ^ 39)]) nls
      have g1 := k5 _ _ (k4 _ _ (k3 _ _ (k2 _ _ (upd_same (H := H3) (a := t1) (o := .tup [])))))
      have g2 := k5 _ _ (k4 _ _ (k3 _ _ (upd_same (a := t2) (o := .tup [.str "0"]))))
      have g3 := k5 _ _ (k4 _ _ (upd_same (a := t3) (o := .lst [.str "up"])))
      have g4 := k5 _ _ (upd_same (a := t4) (o := .dK []))
      have g5 := upd_same (H := upd (upd (upd (upd H3 t1 (.tup [])) t2 (.tup [.str "0"])) t3 (.lst [.str "up"])) t4 (.dK [])) (a := t5) (o := .tup [.int 0, .int 1, .bl false])
      have o1 := D3.out (Same.refl _) n1
      have o2 := D3.out k1 n2
      have o3 := D3.out (k1.trans k2) n3
      have o4 := D3.out ((k1.trans k2).trans k3) n4
      have o5 := D3.out (((k1.trans k2).trans k3).trans k4) n5
      have sB := (((k1.trans k2).trans k3).trans k4).trans k5
      have ols := D3.out sB nls
      have D8 := D3.same sB
      generalize hH8 : upd _ t5 _ = H8
      replace g1 : H8 t1 = some (.tup []) := by rw [← hH8]; exact g1
      replace g2 : H8 t2 = some (.tup [.str "0"]) := by rw [← hH8]; exact g2
      replace g3 : H8 t3 = some (.lst [.str "up"]) := by rw [← hH8]; exact g3
      replace g4 : H8 t4 = some (.dK []) := by rw [← hH8]; exact g4
      replace g5 : H8 t5 = some (.tup [.int 0, .int 1, .bl false]) := by rw [← hH8]; exact g5
      replace D8 : Deck H8 d l := by rw [← hH8]; exact D8
      replace nls : H8 ls = none := by rw [← hH8]; exact nls
      clear hH8 k1 k2 k3 k4 k5 k6 n1 n2 n3 n4 n5 sB
      have no : ∀ {t : Addr} {o : HO}, t ∉ [d, l] → H8 t = some o → ∀ o', hid [d, l, ls] (upd H8 ls o') t = some o := fun {t o} ht e o' => by
        have n : t ≠ ls := fun z => by rw [z, nls] at e; cases e
        have : t ∉ [d, l, ls] := fun z => by
          rcases List.mem_cons.mp z with z | z
          · exact ht (by rw [z]; simp)
          · rcases List.mem_cons.mp z with z | z
            · exact ht (by rw [z]; simp)
            · exact n (List.mem_singleton.mp z)
        rw [hid_at this, upd_ne n]
        exact e
      have shF : ShAll (hid [d, l, ls] (upd H8 ls (.lst [.non, .bl true, .int 0, .int 1, .ref t1, .ref t2, .ref t3, .ref t4, .ref t5, .str "", .str "!", .str "down!!", .int (10 ^ 39)]))) [.non, .bl true, .int 0, .int 1, .ref t1, .ref t2, .ref t3, .ref t4, .ref t5, .str "", .str "!", .str "down!!", .int (10 ^ 39)] odd16 :=
        .cons .non (.cons (.bl _) (.cons (.int _) (.cons (.int _) (.cons (.tup (no o1 g1 _) .nil) (.cons (.tup (no o2 g2 _) (.cons (.str _) .nil)) (.cons (.lst (no o3 g3 _) m3 (.cons (.str _) .nil))
          (.cons (show Sh _ (.ref t4) (.dict []) from .dic (no o4 g4 _) .nil) (.cons (.tup (no o5 g5 _) (.cons (.int _) (.cons (.int _) (.cons (.bl _) .nil)))) (.cons (.str _) (.cons (.str _) (.cons (.str _) (.cons (.int _) .nil))))))))))))
      have D9 : Deck (upd H8 ls (.lst [.non, .bl true, .int 0, .int 1, .ref t1, .ref t2, .ref t3, .ref t4, .ref t5, .str "", .str "!", .str "down!!", .int (10 ^ 39)])) d l := D8.put ols
      have h9 := upd_same (H := H8) (a := ls) (o := .lst [.non, .bl true, .int 0, .int 1, .ref t1, .ref t2, .ref t3, .ref t4, .ref t5, .str "", .str "!", .str "down!!", .int (10 ^ 39)])
      clear g1 g2 g3 g4 g5 no
      generalize hH9 : upd H8 ls _ = H9
      replace shF : ShAll (hid [d, l, ls] H9) [.non, .bl true, .int 0, .int 1, .ref t1, .ref t2, .ref t3, .ref t4, .ref t5, .str "", .str "!", .str "down!!", .int (10 ^ 39)] odd16 := by rw [← hH9]; exact shF
      replace D9 : Deck H9 d l := by rw [← hH9]; exact D9
      replace h9 : H9 ls = some (.lst [.non, .bl true, .int 0, .int 1, .ref t1, .ref t2, .ref t3, .ref t4, .ref t5, .str "", .str "!", .str "down!!", .int (10 ^ 39)]) := by rw [← hH9]; exact h9
      clear hH9
      generalize ([.non, .bl true, .int 0, .int 1, .ref t1, .ref t2, .ref t3, .ref t4, .ref t5, .str "", .str "!", .str "down!!", .int (10 ^ 39)] : List V) = fx at shF h9
      have lf : fx.length = 13 := shF.length
      have nd : ls ≠ d := fun z => ols (by rw [z]; simp)
      have nl' : ls ≠ l := fun z => ols (by rw [z]; simp)
      let St : Hp → Nat → Prop := fun H' j => Deck H' d l ∧ Same (hid [d, l, ls] H9) (hid [d, l, ls] H') ∧ ∃ ts : List Str, H' ls = some (.lst (fx ++ ts.map V.str)) ∧ ts.length = j ∧ ∀ z ∈ ts, As 200 z
      have stF : ∀ {Ha Hb : Hp} {j : Nat}, St Ha j → Deck Hb d l → Fr d l Ha Hb → St Hb j := fun {Ha Hb j} ⟨_, b, ts, c, e⟩ Db f => ⟨Db, b.trans (hid_fr f (by simp) (by simp)), ts, f _ _ nd nl' c, e⟩
      refine ⟨12, rfl, by decide, by decide, for_range (n := 12) (fun j σ H' => ∃ y2 y3 y4 y6 y7 y8 y9 y10, σ = [some (.ref a), some (.ref d), y2, y3, y4, some (.ref ls), y6, y7, y8, y9, y10] ∧ St H' j) ⟨_, _, _, _, _, _, _, _, rfl, D9, Same.refl _, [], by rw [List.map_nil, List.append_nil]; exact h9, rfl, fun z hz => by cases hz⟩ ?_ ?_⟩
      · rintro j σ Ha hj ⟨y2, y3, y4, y6, y7, y8, y9, y10, rfl, st⟩
        refine ⟨.ref d, rfl, d, l, 4, rfl, st.1, by decide, by decide, fun Hb way Db fb w0 w1 => ?_⟩
        have stb := stF st Db fb
        refine ⟨.ref d, rfl, rfl, fun Hc p xs sc hc npc exc => ?_⟩
        have stc := stF stb (Db.same sc) (Fr.of sc)
        refine ⟨.ref d, rfl, d, l, 8, rfl, stc.1, by decide, by decide, fun He v De fe v0 v1 => ?_⟩
        have ste := stF stc De fe
        have op := Db.out (Same.refl _) npc
        have he := fe _ _ (fun z => op (by rw [z]; simp)) (fun z => op (by rw [z]; simp)) hc
        obtain ⟨kk, x, _, hx, hax, _, _⟩ := at_some (xs := xs) v0 (by rw [exc.1]; exact v1)
        obtain ⟨t, ht, e⟩ := exc.2 kk x hx
        obtain ⟨ta, tb, rfl, e1, _⟩ := e.fr stc.1 fe
        have as := T8_as t (List.mem_of_getElem? ht)
        refine ⟨p, xs, v, _, rfl, rfl, SqL.of he, hax, ta, _, 0, .str t.1, rfl, rfl, SqT.of e1, rfl, d, l, t.1, 5, rfl, De, as, by decide, fun Hf y Df ff ay => ?_⟩
        have stf := stF ste Df ff
        refine ⟨fun σ' H' => ∃ y', σ' = [some (.ref a), some (.ref d), y2, y3, y4, some (.ref ls), some (.int (0 + (j : Int))), some (.int way), some (.str y'), y9, y10] ∧ St H' j ∧ As 200 y', ?_, ?_⟩
        · refine ⟨.int way, rfl, rfl, _, rfl, ite2 (fun _ => ?_) (fun _ => ?_)⟩
          · refine ⟨.ref d, rfl, .str y, rfl, d, l, y, 20, rfl, Df, ay.mono (by decide), by decide, fun Hg y' Dg fg ay' => ?_⟩
            exact ⟨y', rfl, stF stf Dg fg, ay'.mono (by decide)⟩
          · exact ⟨y, rfl, stf, ay.mono (by decide)⟩
        · rintro σ' Hg ⟨y', rfl, ⟨Dg, sg, ts, hls, hn, hts⟩, ay'⟩
          refine ⟨.ref ls, rfl, .inl ⟨rfl, _, SqL.of hls⟩, .str y', rfl, ls, _, _, rfl, rfl, hls, ?_, ?_⟩
          · rw [List.length_append, List.length_map, lf, hn]
            exact Nat.lt_of_lt_of_le (show 13 + j < 64 by omega) (by decide)
          · refine ⟨_, _, _, _, _, _, _, _, rfl, Dg.put ols, sg.trans (hid_upd (by simp)), ts ++ [y'], ?_, by rw [List.length_append, hn]; rfl, fun z hz => ?_⟩
            · rw [upd_same, List.map_append, List.append_assoc]
              rfl
            · rcases List.mem_append.mp hz with k | k
              · exact hts z k
              · rw [List.mem_singleton.mp k]
                exact ay'
      · rintro σ Ha ⟨y2, y3, y4, y6, y7, y8, y9, y10, rfl, Da, sa, ts, hls, hn, hts⟩
        have shT : ∀ (H' : Hp) (ts : List Str), ShAll H' (ts.map V.str) (ts.map PyData.str) := fun H' ts => by
          induction ts with
          | nil => exact .nil
          | cons x r ih => exact .cons (.str x) ih
        have shA : ShAll Ha (fx ++ ts.map V.str) (odd16 ++ ts.map PyData.str) := (shF.same (sa.trans hid_le)).append (shT Ha ts)
        have fiA : ∀ e ∈ odd16 ++ ts.map PyData.str, fineB 4000 10 e = true ∧ ∀ z, e = .str z → z.length ≤ 1000 := fun e he => by
          rcases List.mem_append.mp he with k | k
          · exact ⟨List.all_eq_true.mp odd16_fine e k, odd16_short e k⟩
          · obtain ⟨z, hz, rfl⟩ := List.mem_map.mp k
            exact ⟨(hts z hz).fine (by decide), fun z' hz' => by cases hz'; exact Nat.le_trans (hts z hz).1 (by decide)⟩
        generalize fx ++ ts.map V.str = zs at hls shA
        refine ⟨.ref ls, rfl, ls, rfl, ⟨_, SqL.of hls⟩, for_list (K := K) (a := ls) (xs := zs) (fun i σ H' => ∃ y2 y3 y4 y6 y7 y8 y9 y10, σ = [some (.ref a), some (.ref d), y2, y3, y4, some (.ref ls), y6, y7, y8, y9, y10] ∧ Same Ha H') ⟨_, _, _, _, _, _, _, _, rfl, Same.refl _⟩ (fun i σ H' _ ⟨_, _, _, _, _, _, _, _, _, z⟩ => SqL.of (z _ _ hls)) ?_ ?_⟩
        · rintro i v σ Hb hv ⟨y2, y3, y4, y6, y7, y8, y9, y10, rfl, sb⟩
          obtain ⟨e, he, sh⟩ := shA.get hv
          obtain ⟨fe, short⟩ := fiA e (List.mem_of_getElem? he)
          obtain ⟨able, _, _, deep⟩ := fine_iff.mp fe
          have fits := fine_fits fe (by decide)
          refine ⟨v, rfl, v, e, rfl, sh.same sb, able, fits, by omega, ?_⟩
          refine ⟨v, rfl, v, e, rfl, sh.same sb, short, fun Hc sc => ⟨true, rfl, iteF ?_⟩⟩
          refine ⟨v, rfl, v, e, rfl, (sh.same sb).same sc, able, fits, by omega, .str e.shown, rfl, rfl, false, ?_, iteF ?_⟩
          · rw [decide_eq_true rfl]
            rfl
          exact ⟨_, _, _, _, _, _, _, _, rfl, sb.trans sc⟩
        · rintro σ Hb ⟨y2, y3, y4, y6, y7, y8, y9, y10, rfl, sb⟩
          exact q Hb
end
def d_show_word : He.DefD := ⟨("show_word", none), "show_word", "show_word", defArgs s_show_word, defBody s_show_word, defScope s_show_word, [], []⟩
def d_read_word : He.DefD := ⟨("read_word", none), "read_word", "read_word", defArgs s_read_word, defBody s_read_word, defScope s_read_word, [], []⟩
def d_deck : He.DefD := ⟨("_law_deck", none), "_law_deck", "_law_deck", defArgs s_deck, defBody s_deck, defScope s_deck, [], []⟩
def d_draw : He.DefD := ⟨("_law_draw", none), "_law_draw", "_law_draw", defArgs s_draw, defBody s_draw, defScope s_draw, [], []⟩
def d_texts : He.DefD := ⟨("_law_texts", none), "_law_texts", "_law_texts", defArgs s_texts, defBody s_texts, defScope s_texts, [], []⟩
def d_sign : He.DefD := ⟨("_law_sign", none), "_law_sign", "_law_sign", defArgs s_sign, defBody s_sign, defScope s_sign, [], []⟩
def d_bent : He.DefD := ⟨("_law_bent", none), "_law_bent", "_law_bent", defArgs s_bent, defBody s_bent, defScope s_bent, [], []⟩
def d_alone : He.DefD := ⟨("_law_alone", none), "_law_alone", "_law_alone", defArgs s_alone, defBody s_alone, defScope s_alone, [], []⟩
def d_read : He.DefD := ⟨("_law_read", none), "_law_read", "_law_read", defArgs s_read, defBody s_read, defScope s_read, [], []⟩
def d_right : He.DefD := ⟨("_law_right", none), "_law_right", "_law_right", defArgs s_right, defBody s_right, defScope s_right, [], []⟩
def d_law : He.DefD := ⟨("law", none), "law", "law", defArgs s_law, defBody s_law, defScope s_law, [], []⟩
def fn : List He.DefD := [d_show_word, d_read_word, d_deck, d_draw, d_texts, d_sign, d_bent, d_alone, d_read, d_right, d_law]
def fa : List He.Fa := [.glo "show_word", .glo "read_word", .glo "_law_deck", .glo "_law_draw", .glo "_law_texts", .glo "_law_sign", .glo "_law_bent", .glo "_law_alone", .glo "_law_read", .glo "_law_right", .glo "law", .free "ValueError", .free "isinstance", .free "len", .free "list", .free "range", .free "repr", .free "str", .free "sum", .glo "NetError", .glo "NoText", .glo "TooMany", .glo "NotFormula", .glo "NoTurn", .glo "NoForms", .glo "NoRow", .glo "NAMES", .exc "NoText"]
def tf : List He.Defn := []
abbrev RR : PySem.W.OpenRow := PySem.W.OpenLaw.row PySem.Challenge.rw_glitchnet_k16_words_written_and_read
def yes : PySem.W.Frag → Bool := fun K => (GxE.excCB K (He.ga K "NoText") && (decide (PySem.W.kitOne K (.ref (He.ga K "NoText")) (.type "ValueError") = some true) && (decide (PySem.W.kitOne K (.ref (He.ga K "NoText")) (.ref (He.ga K "NetError")) = some true) && (decide (PySem.W.exmOne K (.ref (He.ga K "NoText")) (.ref (He.ga K "NetError")) = some true) && (decide (PySem.W.kitOne K (.ref (He.ga K "NoText")) (.ref (He.ga K "NoText")) = some true) && (decide (PySem.W.exmOne K (.ref (He.ga K "NoText")) (.ref (He.ga K "NoText")) = some true) && (decide (PySem.W.kitOne K (.ref (He.ga K "NoText")) (.ref (He.ga K "TooMany")) = some false) && (decide (PySem.W.exmOne K (.ref (He.ga K "NoText")) (.ref (He.ga K "TooMany")) = some false) && (decide (PySem.W.kitOne K (.ref (He.ga K "NoText")) (.ref (He.ga K "NotFormula")) = some false) && (decide (PySem.W.exmOne K (.ref (He.ga K "NoText")) (.ref (He.ga K "NotFormula")) = some false) && (decide (PySem.W.kitOne K (.ref (He.ga K "NoText")) (.ref (He.ga K "NoTurn")) = some false) && (decide (PySem.W.exmOne K (.ref (He.ga K "NoText")) (.ref (He.ga K "NoTurn")) = some false) && (decide (PySem.W.kitOne K (.ref (He.ga K "NoText")) (.ref (He.ga K "NoForms")) = some false) && (decide (PySem.W.exmOne K (.ref (He.ga K "NoText")) (.ref (He.ga K "NoForms")) = some false) && (decide (PySem.W.kitOne K (.ref (He.ga K "NoText")) (.ref (He.ga K "NoRow")) = some false) && (decide (PySem.W.exmOne K (.ref (He.ga K "NoText")) (.ref (He.ga K "NoRow")) = some false) && (GxE.tupB K "NAMES" [Str.ofString "0", Str.ofString "up", Str.ofString "down", Str.ofString "1"] && (GxE.tupB K "NAMES" [Str.ofString "0", Str.ofString "up", Str.ofString "down", Str.ofString "1"] && true))))))))))))))))))
abbrev hk : PySem.W.Hook := He.hookX 4 fa fn [] tf yes
def ob (s : PySem.W.SharedT) : He.AlX := He.obsX 4 fa fn [] tf yes (HandSHeadRun.getT s)
theorem ob_eq (s : PySem.W.SharedT) : ob s = hk.obs s.abs := He.obsX_eq (HandSHeadRun.getT_eq s)
theorem run (w : World) : HandSHeadRun.RunEq RR (PySem.W.view RR.prog [21]) hk ob 3000 [("NetError" : PySem.Str), ("NoText" : PySem.Str), ("TooMany" : PySem.Str), ("NotFormula" : PySem.Str), ("NoTurn" : PySem.Str), ("NoForms" : PySem.Str), ("NoRow" : PySem.Str), ("NAMES" : PySem.Str), ("show_word" : PySem.Str), ("read_word" : PySem.Str), ("_law_deck" : PySem.Str), ("_law_draw" : PySem.Str), ("_law_texts" : PySem.Str), ("_law_sign" : PySem.Str), ("_law_bent" : PySem.Str), ("_law_alone" : PySem.Str), ("_law_read" : PySem.Str), ("_law_right" : PySem.Str)] w := by
  intro os
  kernel_rfl
theorem facts {w : World} {K : PySem.W.Frag} {h : Heap} {mg : Str → Option Value} {f : Addr} (X : K.In h) (G : h.Ns mainGlobals mg) (hfa : mg ("law" : Str) = some (.ref f)) (c : He.SaysX fa fn [] tf yes w h K) : LawAtG PySem.Challenge.rw_glitchnet_k16_words_written_and_read w K CX0 4 63 "_law_script" mg f h := by
  obtain ⟨fd0, D0⟩ := c.t.d.def_ 0 (d := d_show_word) rfl
  have F0 : Fun K "show_word" "show_word" s_show_word (He.fAd K ("show_word", none)) fd0 := fun_of D0
  have b0 := F0.binds (ps := ["word"]) fun _ _ _ _ _ _ us hl => match us, hl with | [_], _ => rfl
  obtain ⟨fd1, D1⟩ := c.t.d.def_ 1 (d := d_read_word) rfl
  have F1 : Fun K "read_word" "read_word" s_read_word (He.fAd K ("read_word", none)) fd1 := fun_of D1
  have b1 := F1.binds (ps := ["text"]) fun _ _ _ _ _ _ us hl => match us, hl with | [_], _ => rfl
  obtain ⟨fd2, D2⟩ := c.t.d.def_ 2 (d := d_deck) rfl
  have F2 : Fun K "_law_deck" "_law_deck" s_deck (He.fAd K ("_law_deck", none)) fd2 := fun_of D2
  have b2 := F2.binds (ps := ["_law_script"]) fun _ _ _ _ _ _ us hl => match us, hl with | [_], _ => rfl
  obtain ⟨fd3, D3⟩ := c.t.d.def_ 3 (d := d_draw) rfl
  have F3 : Fun K "_law_draw" "_law_draw" s_draw (He.fAd K ("_law_draw", none)) fd3 := fun_of D3
  have b3 := F3.binds (ps := ["_law_deck_here", "_law_most"]) fun _ _ _ _ _ _ us hl => match us, hl with | [_, _], _ => rfl
  obtain ⟨fd4, D4⟩ := c.t.d.def_ 4 (d := d_texts) rfl
  have F4 : Fun K "_law_texts" "_law_texts" s_texts (He.fAd K ("_law_texts", none)) fd4 := fun_of D4
  have b4 := F4.binds (ps := []) fun _ _ _ _ _ _ us hl => match us, hl with | [], _ => rfl
  obtain ⟨fd5, D5⟩ := c.t.d.def_ 5 (d := d_sign) rfl
  have F5 : Fun K "_law_sign" "_law_sign" s_sign (He.fAd K ("_law_sign", none)) fd5 := fun_of D5
  have b5 := F5.binds (ps := ["_law_deck_here"]) fun _ _ _ _ _ _ us hl => match us, hl with | [_], _ => rfl
  obtain ⟨fd6, D6⟩ := c.t.d.def_ 6 (d := d_bent) rfl
  have F6 : Fun K "_law_bent" "_law_bent" s_bent (He.fAd K ("_law_bent", none)) fd6 := fun_of D6
  have b6 := F6.binds (ps := ["_law_deck_here", "_law_text"]) fun _ _ _ _ _ _ us hl => match us, hl with | [_, _], _ => rfl
  obtain ⟨fd7, D7⟩ := c.t.d.def_ 7 (d := d_alone) rfl
  have F7 : Fun K "_law_alone" "_law_alone" s_alone (He.fAd K ("_law_alone", none)) fd7 := fun_of D7
  have b7 := F7.binds (ps := ["_law_e"]) fun _ _ _ _ _ _ us hl => match us, hl with | [_], _ => rfl
  obtain ⟨fd8, D8⟩ := c.t.d.def_ 8 (d := d_read) rfl
  have F8 : Fun K "_law_read" "_law_read" s_read (He.fAd K ("_law_read", none)) fd8 := fun_of D8
  have b8 := F8.binds (ps := ["_law_thing"]) fun _ _ _ _ _ _ us hl => match us, hl with | [_], _ => rfl
  obtain ⟨fd9, D9⟩ := c.t.d.def_ 9 (d := d_right) rfl
  have F9 : Fun K "_law_right" "_law_right" s_right (He.fAd K ("_law_right", none)) fd9 := fun_of D9
  have b9 := F9.binds (ps := ["_law_thing"]) fun _ _ _ _ _ _ us hl => match us, hl with | [_], _ => rfl
  obtain ⟨fd10, D10⟩ := c.t.d.def_ 10 (d := d_law) rfl
  have F10 : Fun K "law" "law" s_law (He.fAd K ("law", none)) fd10 := fun_of D10
  have b10 := F10.binds (ps := ["_law_script"]) fun _ _ _ _ _ _ us hl => match us, hl with | [_], _ => rfl
  obtain ⟨q_NoText, kC_NoText, su_NoText, ty_NoText⟩ := He.exc_ok (c.t.d.fact 27 (f := .exc "NoText") rfl)
  have mo := c.more
  obtain ⟨y0, mo⟩ := He.ba mo
  obtain ⟨y1, mo⟩ := He.ba mo
  obtain ⟨y2, mo⟩ := He.ba mo
  obtain ⟨y3, mo⟩ := He.ba mo
  obtain ⟨y4, mo⟩ := He.ba mo
  obtain ⟨y5, mo⟩ := He.ba mo
  obtain ⟨y6, mo⟩ := He.ba mo
  obtain ⟨y7, mo⟩ := He.ba mo
  obtain ⟨y8, mo⟩ := He.ba mo
  obtain ⟨y9, mo⟩ := He.ba mo
  obtain ⟨y10, mo⟩ := He.ba mo
  obtain ⟨y11, mo⟩ := He.ba mo
  obtain ⟨y12, mo⟩ := He.ba mo
  obtain ⟨y13, mo⟩ := He.ba mo
  obtain ⟨y14, mo⟩ := He.ba mo
  obtain ⟨y15, mo⟩ := He.ba mo
  obtain ⟨y16, mo⟩ := He.ba mo
  obtain ⟨y17, mo⟩ := He.ba mo
  have e := hfa.symm.trans (He.glo_ok X G (c.t.d.fact 10 (f := .glo "law") rfl))
  cases e
  let T : Tx K mg := { f_show_word := _, fd_show_word := _, F_show_word := F0, g_show_word := He.glo_ok X G (c.t.d.fact 0 (f := .glo "show_word") rfl), b_show_word := b0, f_read_word := _, fd_read_word := _, F_read_word := F1, g_read_word := He.glo_ok X G (c.t.d.fact 1 (f := .glo "read_word") rfl), b_read_word := b1, f_deck := _, fd_deck := _, F_deck := F2, g_deck := He.glo_ok X G (c.t.d.fact 2 (f := .glo "_law_deck") rfl), b_deck := b2, f_draw := _, fd_draw := _, F_draw := F3, g_draw := He.glo_ok X G (c.t.d.fact 3 (f := .glo "_law_draw") rfl), b_draw := b3, f_texts := _, fd_texts := _, F_texts := F4, g_texts := He.glo_ok X G (c.t.d.fact 4 (f := .glo "_law_texts") rfl), b_texts := b4, f_sign := _, fd_sign := _, F_sign := F5, g_sign := He.glo_ok X G (c.t.d.fact 5 (f := .glo "_law_sign") rfl), b_sign := b5, f_bent := _, fd_bent := _, F_bent := F6, g_bent := He.glo_ok X G (c.t.d.fact 6 (f := .glo "_law_bent") rfl), b_bent := b6, f_alone := _, fd_alone := _, F_alone := F7, g_alone := He.glo_ok X G (c.t.d.fact 7 (f := .glo "_law_alone") rfl), b_alone := b7, f_read := _, fd_read := _, F_read := F8, g_read := He.glo_ok X G (c.t.d.fact 8 (f := .glo "_law_read") rfl), b_read := b8, f_right := _, fd_right := _, F_right := F9, g_right := He.glo_ok X G (c.t.d.fact 9 (f := .glo "_law_right") rfl), b_right := b9, f_law := _, fd_law := _, F_law := F10, g_law := He.glo_ok X G (c.t.d.fact 10 (f := .glo "law") rfl), b_law := b10, m_ValueError := He.free_ok X G (c.t.d.fact 11 (f := .free "ValueError") rfl), m_isinstance := He.free_ok X G (c.t.d.fact 12 (f := .free "isinstance") rfl), m_len := He.free_ok X G (c.t.d.fact 13 (f := .free "len") rfl), m_list := He.free_ok X G (c.t.d.fact 14 (f := .free "list") rfl), m_range := He.free_ok X G (c.t.d.fact 15 (f := .free "range") rfl), m_repr := He.free_ok X G (c.t.d.fact 16 (f := .free "repr") rfl), m_str := He.free_ok X G (c.t.d.fact 17 (f := .free "str") rfl), m_sum := He.free_ok X G (c.t.d.fact 18 (f := .free "sum") rfl), C_NetError := _, gC_NetError := He.glo_ok X G (c.t.d.fact 19 (f := .glo "NetError") rfl), C_NoText := _, gC_NoText := He.glo_ok X G (c.t.d.fact 20 (f := .glo "NoText") rfl), C_TooMany := _, gC_TooMany := He.glo_ok X G (c.t.d.fact 21 (f := .glo "TooMany") rfl), C_NotFormula := _, gC_NotFormula := He.glo_ok X G (c.t.d.fact 22 (f := .glo "NotFormula") rfl), C_NoTurn := _, gC_NoTurn := He.glo_ok X G (c.t.d.fact 23 (f := .glo "NoTurn") rfl), C_NoForms := _, gC_NoForms := He.glo_ok X G (c.t.d.fact 24 (f := .glo "NoForms") rfl), C_NoRow := _, gC_NoRow := He.glo_ok X G (c.t.d.fact 25 (f := .glo "NoRow") rfl), A_NAMES := _, gA_NAMES := He.glo_ok X G (c.t.d.fact 26 (f := .glo "NAMES") rfl), q_NoText := q_NoText, kC_NoText := kC_NoText, su_NoText := su_NoText, ty_NoText := ty_NoText, X_NoText := GxE.excC_ok y0, v_NoText := of_decide_eq_true y1, t_NoText_NetError := of_decide_eq_true y2, x_NoText_NetError := of_decide_eq_true y3, t_NoText_NoText := of_decide_eq_true y4, x_NoText_NoText := of_decide_eq_true y5, t_NoText_TooMany := of_decide_eq_true y6, x_NoText_TooMany := of_decide_eq_true y7, t_NoText_NotFormula := of_decide_eq_true y8, x_NoText_NotFormula := of_decide_eq_true y9, t_NoText_NoTurn := of_decide_eq_true y10, x_NoText_NoTurn := of_decide_eq_true y11, t_NoText_NoForms := of_decide_eq_true y12, x_NoText_NoForms := of_decide_eq_true y13, t_NoText_NoRow := of_decide_eq_true y14, x_NoText_NoRow := of_decide_eq_true y15, sq_NAMES := GxE.tupB_ok y16, tt_NAMES := GxE.tupB_ty y17 }
  refine ⟨fd10, tf.map (He.cT K), sp_law K T.tabs, ?_, ?_, ?_, ?_, ?_, ?_⟩
  · rintro p hp
    obtain ⟨d, hd, rfl⟩ := List.mem_map.mp hp
    exact c.empty d hd
  · rintro p hp
    obtain ⟨d, hd, rfl⟩ := List.mem_map.mp hp
    exact c.out d hd
  · rintro p hp
    obtain ⟨d, hd, rfl⟩ := List.mem_map.mp hp
    exact PySem.W.codeHd_of_K X (c.hd d hd)
  · obtain ⟨oc, od, kV, doc, pm, an, cdv, ct, osl, rfl, lk, hcd⟩ := F10.ex
    exact fun s v => .of_eq rfl
  · intro H a ns hl hbits hT hS
    refine ⟨a, ns, rfl, hS, hl, fun P hP => ?_, fun _ => rfl⟩
    have hP : P ∈ (tf.map (He.cT K)).map (·.2) := hP
    obtain ⟨p, hp, rfl⟩ := List.mem_map.mp hP
    exact ⟨#[], hT p hp, by trivial⟩
  · intro base KB GB hTB
    have B : Tb base T := ⟨⟩
    exact ok_law T B
end Gk
open PySem PySem.W PyProof.Rows
set_option maxRecDepth 100000 in
set_option maxHeartbeats 0 in
theorem PySem.Challenge.cw_glitchnet_k16_words_written_and_read_holds : PySem.Challenge.rw_glitchnet_k16_words_written_and_read.Holds := by
  w_on; o_law
  refine HandSHeadRun.head_any (r := OpenLaw.row PySem.Challenge.rw_glitchnet_k16_words_written_and_read) (q := view (OpenLaw.row PySem.Challenge.rw_glitchnet_k16_words_written_and_read).prog [21]) (H := Gk.hk) (ob := Gk.ob) (M := 3000) (loose := [("NetError" : PySem.Str), ("NoText" : PySem.Str), ("TooMany" : PySem.Str), ("NotFormula" : PySem.Str), ("NoTurn" : PySem.Str), ("NoForms" : PySem.Str), ("NoRow" : PySem.Str), ("NAMES" : PySem.Str), ("show_word" : PySem.Str), ("read_word" : PySem.Str), ("_law_deck" : PySem.Str), ("_law_draw" : PySem.Str), ("_law_texts" : PySem.Str), ("_law_sign" : PySem.Str), ("_law_bent" : PySem.Str), ("_law_alone" : PySem.Str), ("_law_read" : PySem.Str), ("_law_right" : PySem.Str)]) (d := HandSHeadRun.topDef (OpenLaw.row PySem.Challenge.rw_glitchnet_k16_words_written_and_read).prog 21) (kwd := []) Gk.ob_eq
    (by kernel_rfl) (fun s => by kernel_rfl) Gk.run (by kernel_rfl) (by kernel_rfl) (by kernel_rfl) (by rfl) (by first | assumption | decide +kernel) (by decide +kernel) ⟨rfl, rfl, rfl, rfl, rfl, by decide +kernel⟩ ?hw ?hc
  case hw => w_witness2
  case hc =>
    refine Gk.walk_GT (l := PySem.Challenge.rw_glitchnet_k16_words_written_and_read) (n := 63) (k := 4) (x := "_law_script") (CX := fun _ => L2.CX0) rfl (by decide) (by kernel_rfl) ⟨rfl, by decide, by decide⟩ ?F (fun _ _ _ _ _ z => z)
    intro w mg fa h Y G hmg0
    obtain ⟨K, KX, c⟩ := Y
    have hmg : mg ("law" : PySem.Str) = some (.ref fa) := by
      have e : (HandSHeadRun.topDef (OpenLaw.row PySem.Challenge.rw_glitchnet_k16_words_written_and_read).prog 21).name = ("law" : PySem.Str) := by kernel_rfl
      rw [← e]
      exact hmg0
    exact ⟨K, KX, Gk.facts KX G hmg c⟩
