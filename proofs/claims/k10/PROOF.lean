import PyProof.Rows.All
import Wide.All
import OpenK.AllK
import Wide.FinOn
import HandS.ForMost
import HandS.ForExc
import HandS.IsInst
import HandS.ExcIs
import HandS.ExcValue
import HandS.ExcCtx
import HandS.HotCalls
import HandS.ExcInitHot
import HandS.Head0
import HandS.Head1
import HandS.Head2
import HandS.HeadEnd
import HandS.HeadHook1
import HandS.HeadHook2
import HandS.HeadHook3
import HandS.HeadHook4
import HandS.HeadWalk
import HandS.Defaults
import HandS.ReplaceLit
import KE.GoesMore
import HandS.TupLe
import HandS.TupAny
import HandS.TupMul
import HandS.More
import HandS.Codes
import HandS.Conv
import HandS.Deep
import HandS.TupSets
import HandS.Style
import HandS.Strs
import HandS.AnyAll
import HandS.GenList
import HandS.JoinGen
import HandS.Zip
import HandS.Rev
import HandS.SetFor
import HandS.WideBits
import HandS.FStr
import HandS.RevTup
import HandS.SetKeys
import HandS.SortInts
import HandS.TryOnly
import KE.KUnpackStar
import PyProof.ReprLen
import PyProof.ReprRoads
import PyProof.TupleOfStr
import PyProof.ListStr
import PySem.Challenge.RW_glitchnet_k10_great_delays_and_too_many
set_option Elab.async false
set_option linter.all false
set_option maxRecDepth 100000
set_option maxHeartbeats 1000000
namespace Gk
open PySem PySem.Spec PyProof.Rows L2
/-! ### an exception handed on to a def -/
namespace GxE
open PySem PySem.Spec PyProof.Rows L2
/-- a caught exception, as it stands -/
def ExP (a : Addr) (oe : Obj) : HO := .ext fun h => h.get? a = some oe
theorem exP_ok {P : Program} {w : World} {H : Hp} {h : Heap} {a : Addr} {oe : Obj} (e : h.get? a = some oe) : ObjOk P w H h a (ExP a oe) := ⟨e, ⟨oe, e⟩, fun _ _ q k => k _ q⟩
/-- it is seen: told of, or there since the law began -/
def Seen (base : Heap) (H : Hp) (a : Addr) (oe : Obj) : Prop := H a = some (ExP a oe) ∨ base.get? a = some oe
theorem Seen.same {base : Heap} {H H' : Hp} {a : Addr} {oe : Obj} (h : Seen base H a oe) (s : Same H H') : Seen base H' a oe := h.imp (fun e => s _ _ e) id
section
variable {X : Cx} {pins : List (Addr × Obj)} {σ : L2.St} {H : Hp} {s : Shared}
theorem seen_at {a : Addr} {oe : Obj} (I : Inv X pins σ H s) (h : Seen X.base H a oe) : s.heap.get? a = some oe := by
  rcases h with h | h
  · exact (I.hok a _ h).1
  · exact (I.bs a oe h).1
theorem inst_of {h : Heap} {a D : Addr} {oe : Obj} (e : h.get? a = some oe) (hz : Zc (.ref D) none oe) (hf : ∃ vs, oe.data = .fields vs) : PySem.W.InstAt h a oe D none := by
  obtain ⟨vs, hv⟩ := hf
  obtain ⟨oc, od, oda, osl⟩ := oe
  obtain ⟨h1, h2⟩ := hz
  dsimp only at h1 h2 hv
  subst h1 h2 hv
  exact ⟨e, rfl, rfl, trivial⟩
/-- isinstance(e, c) -/
def rIsX (K : PySem.W.Frag) (base : Heap) : List V → Hp → VK → Prop := fun xs H Q => ∃ (a D : Addr) (oe : Obj) (c : V) (cv : Value) (b : Bool), xs = [.ref a, c] ∧ Seen base H a oe ∧ Zc (.ref D) none oe ∧ (∃ vs, oe.data = .fields vs) ∧ ExcC K D ∧ ClsV c cv ∧ PySem.W.kitOne K (.ref D) cv = some b ∧ Q (.bl b) H
theorem call_isX : CallR X (.builtin "isinstance") (rIsX X.K X.base) := by
  intro pins s σ H xs us Q I r h
  obtain ⟨a, D, oe, c, cv, b, rfl, seen, hz, hf, C, k, e, q⟩ := h
  obtain ⟨u1, u2, rfl, r1, r2⟩ := vals2 r
  have e2 := k.eq r2
  subst e2
  cases (show u1 = Value.ref a from r1)
  exact PySem.W.kia_one (PySem.W.handS_kitx_exc C.hg C.hk C.hs C.hd C.ha C.hn C.ht C.hm) I.kIn (inst_of (seen_at I seen) hz hf) e (fun z => nomatch z) fun tk => ⟨.bl b, H, I.tok tk, rfl, q⟩
/-- isinstance(e, (c1, c2, ..)) -/
def rIsXT (K : PySem.W.Frag) (base : Heap) : List V → Hp → VK → Prop := fun xs H Q => ∃ (a D : Addr) (oe : Obj) (tp : Addr) (cs : List V) (us : List Value) (b : Bool), xs = [.ref a, .ref tp] ∧ Seen base H a oe ∧ Zc (.ref D) none oe ∧ (∃ vs, oe.data = .fields vs) ∧ ExcC K D ∧ H tp = some (.tup cs) ∧ Paired ClsV cs us ∧ PySem.W.kitAny K (.ref D) us = some b ∧ Q (.bl b) H
theorem call_isXT : CallR X (.builtin "isinstance") (rIsXT X.K X.base) := by
  intro pins s σ H xs us Q I r h
  obtain ⟨a, D, oe, tp, cs, ws, b, rfl, seen, hz, hf, C, hT, k, e, q⟩ := h
  obtain ⟨u1, u2, rfl, r1, r2⟩ := vals2 r
  cases (show u1 = Value.ref a from r1)
  cases (show u2 = Value.ref tp from r2)
  obtain ⟨_, its, rv, o, h1, h2, n, h3⟩ := (show ObjOk X.prog X.w H s.heap tp (.tup cs) from I.hok tp _ hT)
  have e3 := ClsV.all k rv
  subst e3
  obtain ⟨oc, od, dt, sl⟩ := o
  simp only at h2 h3
  subst h2 h3
  exact PySem.W.kia_tup (PySem.W.handS_kitx_exc C.hg C.hk C.hs C.hd C.ha C.hn C.ht C.hm) I.kIn (inst_of (seen_at I seen) hz hf) h1 e (fun z => nomatch z) fun tk => ⟨.bl b, H, I.tok tk, rfl, q⟩
end
section
variable {P : Program} {w : World} {H H' : Hp} {h h' : Heap} {a : Addr} {oe : Obj}
theorem hok_add (x : HOk P w H h) (n : H a = none) (e : h.get? a = some oe) : HOk P w (upd H a (ExP a oe)) h := HOk.laidN x (fun _ _ z => z) n (exP_ok e)
theorem paired_imp {α β : Type} {R S : α → β → Prop} (f : ∀ a b, R a b → S a b) : ∀ {xs : List α} {ys : List β}, Paired R xs ys → Paired S xs ys
  | _, _, .nil => .nil
  | _, _, .cons r t => .cons (f _ _ r) (paired_imp f t)
/-- without what is only told of -/
theorem objOk_del {φ : Heap → Prop} (ha : H a = some (.ext φ)) : ∀ (u : HO) (b : Addr), ObjOk P w H h b u → ObjOk P w (delH H a) h b u := by
  have tup : ∀ {b xs}, H b = some (.tup xs) → delH H a b = some (.tup xs) := fun {b xs} e => by
    rw [delH_ne (fun z => by rw [z, ha] at e; cases e)]
    exact e
  have own : ∀ {b c}, H b = some (.own c) → delH H a b = some (.own c) := fun {b c} e => by
    rw [delH_ne (fun z => by rw [z, ha] at e; cases e)]
    exact e
  intro u
  induction u with
  | dT kvs =>
    rintro b ⟨h1, h2, xs, p, r⟩
    refine ⟨h1, h2, xs, ?_, r⟩
    exact paired_imp (fun _ _ ⟨q1, q2, q3⟩ => ⟨q1, tup q2, q3⟩) p
  | ins C dx fs =>
    rintro b ⟨h1, r⟩
    exact ⟨own h1, r⟩
  | frz o u ih =>
    rintro b ⟨h1, h2⟩
    exact ⟨h1, ih b h2⟩
  | _ => exact fun b x => x
theorem hok_del {φ : Heap → Prop} (x : HOk P w H h) (ha : H a = some (.ext φ)) : HOk P w (delH H a) h := fun b u e => by
  by_cases hb : b = a
  · rw [hb, delH_same] at e
    cases e
  · rw [delH_ne hb] at e
    exact objOk_del ha u b (x b u e)
end
section
variable {fs : List Addr} {H H2 : Hp} {h h' : Heap} {a : Addr} {oe : Obj}
theorem un_del (u : Un fs [] (upd H a (ExP a oe)) H2 h h') (n : H a = none) (e : h.get? a = some oe) (e' : h'.get? a = some oe) : Un fs [] H (delH H2 a) h h' := by
  have ne : ∀ {b : Addr} {o : HO}, H b = some o → b ≠ a := fun {b o} q z => by rw [z, n] at q; cases q
  refine ⟨fun b o q nb hb hx => ?_, fun b o q nb hb hx => ?_, fun b o q nb hx => ?_, fun b o q hx => u.there b o q hx, fun b xs q => ?_, fun b o v q => ?_, fun b ps q => ?_⟩
  · by_cases hz : b = a
    · rw [hz] at q ⊢
      rw [e] at q
      rw [e', ← q]
    · exact u.keep b o q (by rw [upd_ne hz]; exact nb) hb hx
  · by_cases hz : b = a
    · rw [hz] at q ⊢
      rw [e] at q
      cases q
      exact ⟨oe.slots, e'⟩
    · exact u.slot b o q (by rw [upd_ne hz]; exact nb) hb hx
  · by_cases hz : b = a
    · rw [hz]; exact delH_same
    · rw [delH_ne hz]
      exact u.free b o q (by rw [upd_ne hz]; exact nb) hx
  · rw [delH_ne (ne q)]
    exact u.tups b xs (by rw [upd_ne (ne q)]; exact q)
  · rw [delH_ne (ne q)]
    exact u.frzs b o v (by rw [upd_ne (ne q)]; exact q)
  · rw [delH_ne (ne q)]
    exact u.tbls b ps (by rw [upd_ne (ne q)]; exact q)
end
/-! ### a def that runs also where an exception is handled -/
structure FnR (P : Program) (w : World) (K : PySem.W.Frag) (mg : PySem.Str → Option Value) (base : Heap) (k : Nat) (f : Addr) (fd : FuncData) (ps : List PySem.Str) (sp : Sp) : Prop where
  len : ∀ vs H Q E, sp vs H Q E → vs.length = ps.length
  run : ∀ (A : Around) (outer : List Env) (s : Shared) (H : Hp) (args : Args) (us : List Value) (vs : List V) (Q : VK), L2H.RoomH k A → Env0 P w K mg base A outer s H → BindsTo s fd args (ps.zip us) → Vals vs us → sp vs H Q E0 →
    codeAny (model P w) A (.call (.ref f) args) (CR CX0 outer P w H s Q E0) s
theorem okR {P : Program} {w : World} {K : PySem.W.Frag} {mg : PySem.Str → Option Value} {base : Heap} {x qual : PySem.Str} {st : Stmt} {f : Addr} {fd : FuncData} {N ps : List PySem.Str} {k : Nat} {sp : Sp} (F : Fun K x qual st f fd) (S : FnScope N ps (defScope st)) (len : ∀ vs H Q E, sp vs H Q E → vs.length = ps.length)
    (body : ∀ (cdv : Value) (A : Around) (outer : List Env) (s : Shared) (H : Hp) (vs : List V) (Q : VK) (p : Addr × Obj), L2H.RoomH k (A.deeper (envOfC qual (defScope st) s.heap.objs.size f cdv)) → sp vs H Q E0 →
      ∃ t, PSs (L2H.cxH CX0 P w K mg base N qual (defScope st) f cdv A outer s H E0 p) (defBody st) t ∧ t { nx := fun _ H' => Q .non H', rt := Q } (L2.start N vs) H) : FnR P w K mg base (k + 1) f fd ps sp := by
  obtain ⟨oc, od, kV, doc, pm, an, cdv, ct, osl, rfl, lk, hcd⟩ := F.ex
  refine ⟨len, fun A outer s H args us vs Q hr e0 hb r hsp => ?_⟩
  have kin : K.In s.heap := e0.mod.kin.keeps fun b o e => (e0.bs b o e).1
  have nol : s.heap.NoLimit := e0.mod.nolimit.keeps fun b o e => (e0.bs b o e).1
  obtain ⟨go, ges, gep, hgo, hgx⟩ := id e0.mod.glob
  have pin : L2H.PinOk outer H s (mainGlobals, go) := by
    refine ⟨(e0.bs _ _ hgo).1, (e0.bs _ _ hgo).2, fun hm => ?_, fun v z => ?_⟩
    · have z := (e0.funs.mem hm).1
      rw [hgo] at z
      cases z
    · have z : go.data = .cell v := z
      rw [hgx.1] at z
      cases z
  have places : ∀ y ∈ ps.zip us, (defScope st).names.lookup y.1 = some .local ∨ ((defScope st).names.lookup y.1 = some .cell ∧ ((cellsFrom (s.heap.objs.size + 1) (defScope st).names []).lookup y.1).isSome = true) := fun ⟨n, v⟩ hy => by
    rcases S.par n (List.of_mem_zip hy).1 with q | q
    · exact .inl q
    · exact .inr ⟨q, PySem.W.cellsFrom_some _ _ _ (.inl q)⟩
  refine codeAny_call_function hr.depth (kin _ _ lk) rfl S.co S.gen rfl (PySem.W.codeRec_of kin hcd) (hb _ _ _ _ ?_)
  refine wpAny_newFunctionEnv_cells S.kind places fun env he s1 x => ?_
  subst he
  refine ⟨nol.keeps x.toInCall.keep, codeAny_func ?_⟩
  obtain ⟨t, ht, hq⟩ := body cdv A outer s H vs Q (mainGlobals, go) (hr.deeper _) hsp
  have I := L2H.inv_startH (CX := CX0) (E := E0) (f := f) (cd := cdv) (qual := qual) S pin e0 (len _ _ _ _ hsp) r x
  refine wpAny_mono (ht.run [] s1 (L2.start N vs) H _ I hq) (fun fl s' hs => ?_) fun e s' hs => hs
  cases fl with
  | ret u =>
    obtain ⟨v, σ', H', J, rv, q⟩ := hs
    exact ⟨v, H', J.os, J.bare, J.base, J.hok, rv, q⟩
  | next =>
    obtain ⟨σ', H', J, q⟩ := hs
    exact ⟨.non, H', J.os, J.bare, J.base, J.hok, rfl, q⟩
  | brk =>
    obtain ⟨_, _, _, q⟩ := hs
    exact False.elim q
  | cont =>
    obtain ⟨_, _, _, q⟩ := hs
    exact False.elim q
section
variable {X : Cx} {k : Nat} {f : Addr} {fd : FuncData} {ps : List PySem.Str} {sp : Sp} {x : PySem.Str} {p pos : Pos} {e : Expr} {es : List Expr} {t : TA} {a : Addr} {oe : Obj} {pn : List (Addr × Obj)} {cls : Value} {d : Option Addr}
/-- f(.., e, ..) in an except suite, e the exception -/
def tCallX (base : Heap) (a : Addr) (cls : Value) (d : Option Addr) (sp : Sp) (t : TA) : TE := fun σ H Q => t σ H fun vs H1 => ∀ oe : Obj, Zc cls d oe → (∃ vs, oe.data = .fields vs) →
  (H1 a = none → sp vs (upd H1 a (ExP a oe)) (fun v H2 => H2 a = some (ExP a oe) ∧ Q v (delH H2 a)) E0) ∧ (base.get? a = some oe → sp vs H1 Q E0)
theorem pe_callX (hz : Zc cls d oe) (hf : ∃ vs, oe.data = .fields vs) (F : FnR X.prog X.w X.K X.mg X.base k f fd ps sp) (hr : L2H.RoomH k (X.suite a ((a, oe) :: pn)).A) (hg : Gl X x) (hm : X.mg x = some (.ref f)) (hk : PySem.W.keepIn X.K (.ref f) = true) (hb : Binds X.K fd ps [])
    (ha : PA (X.suite a ((a, oe) :: pn)) (e :: es) t) (hdb : (x == ("__debug__" : PySem.Str)) = false := by decide) (he : starEach (e :: es) X.env = (false, eval e X.env) :: starEach es X.env := by rfl) (hpl : (backTo pos (starEach es X.env)).any (·.1) = false := by rfl) :
    PE (X.suite a ((a, oe) :: pn)) (.Call (.Name x p) (e :: es) [] pos) (tCallX X.base a cls d sp t) := by
  refine ⟨fun pins s σ H Q I h => ?_⟩
  refine wpAny_Call_Name_kw (ld_glob (X := X.suite a ((a, oe) :: pn)) I hg hm ?_ hdb)
  refine PySem.W.callWith_K (h₀ := X.base) I.ok.mod.kin hk (thn (ha.run pos pins s σ H _ I h) fun us s1 ⟨vs, H1, I1, r, q0⟩ => ⟨I1.kIn, ?_⟩) he hpl
  have q := q0 oe hz hf
  have pin := I1.pin (a, oe) (List.mem_append.mpr (.inl List.mem_cons_self))
  have e0 := I1.env0
  have na : H1 a = none := pin.2.1
  have bind : ∀ {H2 : Hp} {Q2 : VK}, sp vs H2 Q2 E0 → BindsTo s1 fd ⟨us, []⟩ (ps.zip us) := fun {H2 Q2} z => by
    have hl : (us ++ ([] : List Value)).length = ps.length := by rw [List.append_nil, ← r.length]; exact F.len _ _ _ _ z
    have y := hb s1 us I1.kIn hl
    rw [List.append_nil] at y
    exact y
  cases hbase : X.base.get? a with
  | some o =>
    have := (e0.bs a o hbase).1
    rw [pin.1] at this
    cases Option.some.inj this
    have h2 := q.2 hbase
    refine wpAny_call (codeAny_mono (F.run _ _ s1 _ ⟨us, []⟩ us vs _ hr e0 (bind h2) r h2) fun r' s' hq => ?_)
    cases r' with
    | error e' => exact False.elim hq
    | ok fl =>
      cases fl with
      | ret u => exact I1.after hq
      | next => exact False.elim hq
      | brk => exact False.elim hq
      | cont => exact False.elim hq
  | none =>
    have h2 := q.1 na
    have E1 : Env0 X.prog X.w X.K X.mg X.base (X.suite a ((a, oe) :: pn)).A (X.suite a ((a, oe) :: pn)).stack s1 (upd H1 a (ExP a oe)) :=
      ⟨e0.frames, e0.mod, fun b o z => ⟨(e0.bs b o z).1, by rw [upd_ne (fun y => by rw [y, hbase] at z; cases z)]; exact (e0.bs b o z).2⟩, e0.bsz, e0.funs, fun b hb' => by
        by_cases y : b = a
        · exfalso
          obtain ⟨_, o, ho, hnf⟩ := e0.funs.mem (show b ∈ frs _ from hb')
          rw [y, pin.1] at ho
          cases ho
          obtain ⟨vs', hv⟩ := hf
          exact hnf vs' hv
        · rw [upd_ne y]; exact e0.frf b hb', hok_add e0.hok na pin.1, e0.bare⟩
    refine wpAny_call (codeAny_mono (F.run _ _ s1 _ ⟨us, []⟩ us vs _ hr E1 (bind h2) r h2) fun r' s' hq => ?_)
    cases r' with
    | error e' => exact False.elim hq
    | ok fl =>
      cases fl with
      | ret u =>
        obtain ⟨v, H', os, bare, un, hok, rv, q1, q2⟩ := hq
        have e' : s'.heap.get? a = some oe := (hok a _ q1).1
        exact I1.after ⟨v, delH H' a, os, bare, un_del un na pin.1 e', hok_del hok q1, rv, q2⟩
      | next => exact False.elim hq
      | brk => exact False.elim hq
      | cont => exact False.elim hq
end
/-! ### defs that raise -/
theorem okN {P : Program} {w : World} {K : PySem.W.Frag} {mg : PySem.Str → Option Value} {base : Heap} {x qual : PySem.Str} {st : Stmt} {f : Addr} {fd : FuncData} {N ps : List PySem.Str} {k : Nat} {sp : Sp} (F : Fun K x qual st f fd) (S : FnScope N ps (defScope st)) (len : ∀ vs H Q E, sp vs H Q E → vs.length = ps.length)
    (body : ∀ (cdv : Value) (A : Around) (outer : List Env) (s : Shared) (H : Hp) (vs : List V) (Q : VK) (E : XK), Room k (A.deeper (envOfC qual (defScope st) s.heap.objs.size f cdv)) → sp vs H Q E →
      ∃ t, PSs (cxOf (L2N.CX P w) P w K mg base N qual (defScope st) f cdv A outer s H E) (defBody st) t ∧ t { nx := fun _ H' => Q .non H', rt := Q } (L2.start N vs) H) : FnOk P w K mg base (L2N.CX P w) (k + 1) f fd ps sp := by
  obtain ⟨oc, od, kV, doc, pm, an, cdv, ct, osl, rfl, lk, hcd⟩ := F.ex
  exact fn_of lk hcd S len fun A outer s H vs Q E hr hsp => body cdv A outer s H vs Q E hr hsp
theorem takesE {P : Program} {w : World} {K : PySem.W.Frag} {mg : PySem.Str → Option Value} {base : Heap} {N : List PySem.Str} {qual : PySem.Str} {sc : Scope} {f : Addr} {cd : Value} {A : Around} {outer : List Env} {s : Shared} {H : Hp} {E : XK} :
    L2N.Takes (cxOf (L2N.CX P w) P w K mg base N qual sc f cd A outer s H E) (fun cls d _ H => E cls d H) := L2N.takes_of rfl rfl rfl rfl
theorem takesN {X : Cx} : L2N.Takes X (fun _ _ _ _ => False) := fun _ _ x => by
  obtain ⟨_, _, _, _, _, _, _, _, _, _, _, _, _, _, _, _, z⟩ := x
  exact z.elim
end GxE
/-! ### what the top says of classes and of tuples of texts -/
namespace GxE
open PySem PySem.Spec PyProof.Rows L2
def excCB (K : PySem.W.Frag) (D : Addr) : Bool :=
  decide (PySem.W.findIn K (.ref D) "__getattribute__" = some (some (.builtin "BaseException.__getattribute__"))) && (decide (PySem.W.findIn K (.ref D) "__getattr__" = some none) &&
  (decide (PySem.W.subIn K (.ref D) (.type "BaseException") = some true) && (PySem.W.hasDictIn K D && (decide (PySem.W.findIn K (.ref D) "__class__" = some (some (.builtin "object.__class__"))) &&
  (decide (PySem.W.specialIn K (.builtin "object.__class__") "__get__" = some (some (.builtin "getset_descriptor.__get__"))) && (decide (PySem.W.takesIn K (.builtin "object.__class__") = some true) && decide (PySem.W.mroIn K D (.type "object") = some true)))))))
theorem excC_ok {K : PySem.W.Frag} {D : Addr} (h : excCB K D = true) : ExcC K D := by
  obtain ⟨h1, h⟩ := He.ba h
  obtain ⟨h2, h⟩ := He.ba h
  obtain ⟨h3, h⟩ := He.ba h
  obtain ⟨h4, h⟩ := He.ba h
  obtain ⟨h5, h⟩ := He.ba h
  obtain ⟨h6, h⟩ := He.ba h
  obtain ⟨h7, h8⟩ := He.ba h
  exact ⟨of_decide_eq_true h1, of_decide_eq_true h2, of_decide_eq_true h3, h4, of_decide_eq_true h5, of_decide_eq_true h6, of_decide_eq_true h7, of_decide_eq_true h8⟩
def strsB : List PySem.Str → List Value → Bool
  | [], [] => true
  | x :: r, .str y _ :: t => decide (y = x) && strsB r t
  | _, _ => false
theorem strsB_ok : ∀ {xs : List PySem.Str} {us : List Value}, strsB xs us = true → Vals (xs.map V.str) us
  | [], [], _ => .nil
  | x :: r, u :: t, h => by
    cases u with
    | str y k =>
      obtain ⟨h1, h2⟩ := He.ba h
      cases of_decide_eq_true h1
      exact .cons ⟨k, rfl⟩ (strsB_ok h2)
    | _ => cases h
  | [], _ :: _, h => by cases h
  | _ :: _, [], h => by cases h
def tupB (K : PySem.W.Frag) (x : PySem.Str) (xs : List PySem.Str) : Bool := match K.lookup (He.ga K x) with
  | some ⟨.type "tuple", none, .seq its _, _⟩ => strsB xs its.toList && decide (its.size ≤ 1000)
  | _ => false
theorem tupB_ok {K : PySem.W.Frag} {x : PySem.Str} {xs : List PySem.Str} (h : tupB K x xs = true) (H : Hp) : SqT K H (He.ga K x) (xs.map V.str) := by
  unfold tupB at h
  split at h
  · rename_i its n sl e
    obtain ⟨h1, h2⟩ := He.ba h
    exact .inr ⟨_, its, n, e, rfl, rfl, Nat.le_trans (of_decide_eq_true h2) (by decide), strsB_ok h1⟩
  · cases h
theorem tupB_ty {K : PySem.W.Frag} {x : PySem.Str} {xs : List PySem.Str} (h : tupB K x xs = true) : ∃ o, K.lookup (He.ga K x) = some o ∧ o.cls = .type "tuple" ∧ o.dict = none := by
  unfold tupB at h
  split at h
  · rename_i its n sl e
    exact ⟨_, e, rfl, rfl⟩
  · cases h
end GxE

/-! ### calls within a def that runs in an except suite; isinstance in the suite itself; X(e) -/
namespace GxE
open PySem PySem.Spec PyProof.Rows L2
section
variable {X : Cx} {k : Nat} {f : Addr} {fd : FuncData} {ps : List PySem.Str} {sp : Sp} {x : PySem.Str} {p pos : Pos} {e : Expr} {es : List Expr} {t : TA} {a : Addr} {oe : Obj} {pn : List (Addr × Obj)} {cls : Value} {d : Option Addr}
def tCallR (sp : Sp) (t : TA) : TE := fun σ H Q => t σ H fun vs H1 => sp vs H1 Q E0
theorem pe_callR (F : FnR X.prog X.w X.K X.mg X.base k f fd ps sp) (hr : L2H.RoomH k X.A) (hg : Gl X x) (hm : X.mg x = some (.ref f)) (hk : PySem.W.keepIn X.K (.ref f) = true) (hb : Binds X.K fd ps [])
    (ha : PA X (e :: es) t) (hdb : (x == ("__debug__" : PySem.Str)) = false := by decide) (he : starEach (e :: es) X.env = (false, eval e X.env) :: starEach es X.env := by rfl) (hpl : (backTo pos (starEach es X.env)).any (·.1) = false := by rfl) :
    PE X (.Call (.Name x p) (e :: es) [] pos) (tCallR sp t) := by
  refine ⟨fun pins s σ H Q I h => ?_⟩
  refine wpAny_Call_Name_kw (ld_glob I hg hm ?_ hdb)
  refine PySem.W.callWith_K (h₀ := X.base) I.ok.mod.kin hk (thn (ha.run pos pins s σ H _ I h) fun us s1 ⟨vs, H1, I1, r, q⟩ => ⟨I1.kIn, ?_⟩) he hpl
  have hl : (us ++ ([] : List Value)).length = ps.length := by rw [List.append_nil, ← r.length]; exact F.len _ _ _ _ q
  have y := hb s1 us I1.kIn hl
  rw [List.append_nil] at y
  refine wpAny_call (codeAny_mono (F.run _ _ s1 _ ⟨us, []⟩ us vs _ hr I1.env0 y r q) fun r' s' hq => ?_)
  cases r' with
  | error e' => exact False.elim hq
  | ok fl =>
    cases fl with
    | ret u => exact I1.after hq
    | next => exact False.elim hq
    | brk => exact False.elim hq
    | cont => exact False.elim hq
/-- isinstance(e, c) in the suite -/
def rIsP (K : PySem.W.Frag) (a : Addr) (cls : Value) (d : Option Addr) : List V → Hp → VK → Prop := fun xs H Q => ∃ (D : Addr) (c : V) (cv : Value) (b : Bool), xs = [.ref a, c] ∧ cls = .ref D ∧ d = none ∧ ExcC K D ∧ ClsV c cv ∧ PySem.W.kitOne K (.ref D) cv = some b ∧ Q (.bl b) H
theorem call_isP (hz : Zc cls d oe) (hf : ∃ vs, oe.data = .fields vs) : CallR (X.suite a ((a, oe) :: pn)) (.builtin "isinstance") (rIsP X.K a cls d) := by
  intro pins s σ H xs us Q I r h
  obtain ⟨D, c, cv, b, rfl, rfl, rfl, C, k, e, q⟩ := h
  obtain ⟨u1, u2, rfl, r1, r2⟩ := vals2 r
  have e2 := k.eq r2
  subst e2
  cases (show u1 = Value.ref a from r1)
  have pin := I.pin (a, oe) (List.mem_append.mpr (.inl List.mem_cons_self))
  exact PySem.W.kia_one (PySem.W.handS_kitx_exc C.hg C.hk C.hs C.hd C.ha C.hn C.ht C.hm) I.kIn (inst_of pin.1 hz hf) e (fun z => nomatch z) fun tk => ⟨.bl b, H, I.tok tk, rfl, q⟩
def rIsPT (K : PySem.W.Frag) (a : Addr) (cls : Value) (d : Option Addr) : List V → Hp → VK → Prop := fun xs H Q => ∃ (D tp : Addr) (cs : List V) (us : List Value) (b : Bool), xs = [.ref a, .ref tp] ∧ cls = .ref D ∧ d = none ∧ ExcC K D ∧ H tp = some (.tup cs) ∧ Paired ClsV cs us ∧ PySem.W.kitAny K (.ref D) us = some b ∧ Q (.bl b) H
theorem call_isPT (hz : Zc cls d oe) (hf : ∃ vs, oe.data = .fields vs) : CallR (X.suite a ((a, oe) :: pn)) (.builtin "isinstance") (rIsPT X.K a cls d) := by
  intro pins s σ H xs us Q I r h
  obtain ⟨D, tp, cs, ws, b, rfl, rfl, rfl, C, hT, k, e, q⟩ := h
  obtain ⟨u1, u2, rfl, r1, r2⟩ := vals2 r
  cases (show u1 = Value.ref a from r1)
  cases (show u2 = Value.ref tp from r2)
  obtain ⟨_, its, rv, o, h1, h2, n, h3⟩ := (show ObjOk X.prog X.w H s.heap tp (.tup cs) from I.hok tp _ hT)
  have e3 := ClsV.all k rv
  subst e3
  obtain ⟨oc, od, dt, sl⟩ := o
  simp only at h2 h3
  subst h2 h3
  have pin := I.pin (a, oe) (List.mem_append.mpr (.inl List.mem_cons_self))
  exact PySem.W.kia_tup (PySem.W.handS_kitx_exc C.hg C.hk C.hs C.hd C.ha C.hn C.ht C.hm) I.kIn (inst_of pin.1 hz hf) h1 e (fun z => nomatch z) fun tk => ⟨.bl b, H, I.tok tk, rfl, q⟩
end
section
variable {X : Cx}
/-- X(e), e a value -/
theorem pmk_one {C : Addr} {bmB : List Value} {B newId initId : String} {x : PySem.Str} {e : Expr} {ta : TE} {p pos : Pos} (F : ExcBaseFacts B newId initId bmB) (q : PySem.W.excIn X.K C bmB newId = true) (gC : X.mg x = some (.ref C)) (kC : PySem.W.keepIn X.K (.ref C) = true) (r : Raises X (.ref C)) (hg : Gl X x)
    (he : PE X e ta) (hs : starEach [e] X.env = (false, eval e X.env) :: starEach [] X.env := by rfl) (hdb : (x == ("__debug__" : PySem.Str)) = false := by decide) :
    L2N.PMk X (.Call (.Name x p) [e] [] pos) (fun σ H Q => ta σ H fun _ H1 => Q (.ref C) none H1) := by
  intro pins s σ H Q I h
  refine wpAny_Call_Name_kw (ld_glob I hg gC ?_ hdb)
  refine PySem.W.callWith_K (h₀ := X.base) I.ok.mod.kin kC ?_ hs (by rfl)
  rw [hs]
  show wpAny _ _ (spliced ((false, eval e X.env) :: backTo pos (starEach [] X.env))) _ _ s
  refine Calls.spliced_cons (thn (he.run pins s σ H _ I h) fun u s1 ⟨v, H1, I1, r1, q1⟩ => ?_)
  refine Calls.spliced_nil ⟨I1.kIn, ?_⟩
  show wpAny _ _ (call (.ref C) [u]) _ _ _
  obtain ⟨bm, N, nm, qn, bs, hdct, sn, sub, ab, col, dd, k0, k1, k2, k3, k5, mN, hC, hN, hni, T⟩ := exc_obj I1.kIn q
  refine wpAny_call_exc_subT F T hC hN hni (fun h' e hm => ?_) (by show 1 ≤ sizeLine; rw [sizeLine_eq]; omega)
  exact L2N.mk_of I1 hm r q1 (I1.hok.gone hm.new)
end
end GxE
theorem GxE.unH {k : Nat} {A : Around} (h : L2H.RoomH k A) : A.units + 64 < cLine := by
  have := h.un
  omega

end Gk

set_option Elab.async false
set_option linter.all false
set_option maxRecDepth 100000
set_option maxHeartbeats 1000000
namespace Gk
open PySem PySem.Spec PyProof.Rows L2
/-! ### the text -/
def topS (i : Nat) : Stmt := PySem.Challenge.pw_glitchnet_k10_great_delays_and_too_many.main.body.getD i (.Pass ⟨0, 0, 0, 0⟩)
abbrev s_table_worth : Stmt := topS 9
abbrev s_waves_of : Stmt := topS 12
abbrev s_input_wave : Stmt := topS 13
abbrev s_later : Stmt := topS 14
abbrev s_gate_wave : Stmt := topS 15
abbrev s_turns_of : Stmt := topS 16
abbrev s_mixed : Stmt := topS 18
abbrev s_deck : Stmt := topS 19
abbrev s_draw : Stmt := topS 20
abbrev s_table : Stmt := topS 21
abbrev s_net : Stmt := topS 22
abbrev s_rows : Stmt := topS 23
abbrev s_delays : Stmt := topS 24
abbrev s_worth : Stmt := topS 25
abbrev s_wave : Stmt := topS 26
abbrev s_due : Stmt := topS 27
abbrev s_doubled : Stmt := topS 28
abbrev s_told : Stmt := topS 29
abbrev s_right : Stmt := topS 30
abbrev s_law : Stmt := topS 31
theorem sc_table_worth : FnScope ["table", "worths", "place", "worth"] ["table", "worths"] (defScope s_table_worth) := ⟨rfl, rfl, rfl, by decide +kernel, rfl, by decide +kernel, by decide +kernel⟩
theorem sc_waves_of : FnScope ["net", "delays", "change", "a", "b", "waves", "table", "ins", "lates", "wave", "before", "after", "wire", "late"] ["net", "delays", "change"] (defScope s_waves_of) := ⟨rfl, rfl, rfl, by decide +kernel, rfl, by decide +kernel, by decide +kernel⟩
theorem sc_input_wave : FnScope ["before", "after", "times"] ["before", "after"] (defScope s_input_wave) := ⟨rfl, rfl, rfl, by decide +kernel, rfl, by decide +kernel, by decide +kernel⟩
theorem sc_later : FnScope ["wave", "delay", "first", "times", "time"] ["wave", "delay"] (defScope s_later) := ⟨rfl, rfl, rfl, by decide +kernel, rfl, by decide +kernel, by decide +kernel⟩
theorem sc_gate_wave : FnScope ["table", "waves", "worths", "first", "now", "times", "time", "places", "place"] ["table", "waves"] (defScope s_gate_wave) := ⟨rfl, rfl, rfl, by decide +kernel, rfl, by decide +kernel, by decide +kernel⟩
theorem sc_turns_of : FnScope ["waves", "places_at", "place", "first", "times", "time"] ["waves"] (defScope s_turns_of) := ⟨rfl, rfl, rfl, by decide +kernel, rfl, by decide +kernel, by decide +kernel⟩
theorem sc_mixed : FnScope ["_law_number"] ["_law_number"] (defScope s_mixed) := ⟨rfl, rfl, rfl, by decide +kernel, rfl, by decide +kernel, by decide +kernel⟩
theorem sc_deck : FnScope ["_law_script", "_law_cells"] ["_law_script"] (defScope s_deck) := ⟨rfl, rfl, rfl, by decide +kernel, rfl, by decide +kernel, by decide +kernel⟩
theorem sc_draw : FnScope ["_law_deck_here", "_law_most", "_law_low", "_law_cell"] ["_law_deck_here", "_law_most"] (defScope s_draw) := ⟨rfl, rfl, rfl, by decide +kernel, rfl, by decide +kernel, by decide +kernel⟩
theorem sc_table : FnScope ["_law_deck_here", "_law_many", "_law_way", "_law_size", "_law_k"] ["_law_deck_here", "_law_many"] (defScope s_table) := ⟨rfl, rfl, rfl, by decide +kernel, rfl, by decide +kernel, by decide +kernel⟩
theorem sc_net : FnScope ["_law_deck_here", "_law_gates", "_law_formula", "_law_many", "_law_free", "_law_made", "_law_k", "_law_ins", "_law_place", "_law_way", "_law_wire", "_law_one"] ["_law_deck_here", "_law_gates", "_law_formula"] (defScope s_net) := ⟨rfl, rfl, rfl, by decide +kernel, rfl, by decide +kernel, by decide +kernel⟩
theorem sc_rows : FnScope ["_law_deck_here", "_law_many", "_law_one", "_law_other", "_law_way", "_law_k", "_law_worth_here"] ["_law_deck_here", "_law_many"] (defScope s_rows) := ⟨rfl, rfl, rfl, by decide +kernel, rfl, by decide +kernel, by decide +kernel⟩
theorem sc_delays : FnScope ["_law_deck_here", "_law_net_here", "_law_most", "_law_made", "_law_table_here", "_law_ins", "_law_wire"] ["_law_deck_here", "_law_net_here", "_law_most"] (defScope s_delays) := ⟨rfl, rfl, rfl, by decide +kernel, rfl, by decide +kernel, by decide +kernel⟩
theorem sc_worth : FnScope ["_law_table_here", "_law_worths", "_law_number", "_law_worth_here"] ["_law_table_here", "_law_worths"] (defScope s_worth) := ⟨rfl, rfl, rfl, by decide +kernel, rfl, by decide +kernel, by decide +kernel⟩
theorem sc_wave : FnScope ["_law_table_here", "_law_waves", "_law_delays_here", "_law_moments", "_law_place", "_law_time", "_law_moment", "_law_worths", "_law_told_here", "_law_times", "_law_wave_here"] ["_law_table_here", "_law_waves", "_law_delays_here"] (defScope s_wave) := ⟨rfl, rfl, rfl, by decide +kernel, rfl, by decide +kernel, by decide +kernel⟩
theorem sc_due : FnScope ["_law_net_here", "_law_delays_here", "_law_change", "_law_waves", "_law_gate", "_law_table_here", "_law_ins", "_law_one", "_law_other", "_law_wire"] ["_law_net_here", "_law_delays_here", "_law_change"] (defScope s_due) := ⟨rfl, rfl, rfl, by decide +kernel, rfl, by decide +kernel, by decide +kernel⟩
theorem sc_doubled : FnScope ["_law_deck_here", "_law_many", "_law_wide", "_law_sizes", "_law_gates", "_law_delays_here", "_law_k", "_law_last"] ["_law_deck_here"] (defScope s_doubled) := ⟨rfl, rfl, rfl, by decide +kernel, rfl, by decide +kernel, by decide +kernel⟩
theorem sc_told : FnScope ["_law_net_here", "_law_delays_here", "_law_change", "_law_found", "e", "_law_others"] ["_law_net_here", "_law_delays_here", "_law_change"] (defScope s_told) := ⟨rfl, rfl, rfl, by decide +kernel, rfl, by decide +kernel, by decide +kernel⟩
theorem sc_right : FnScope ["_law_net_here", "_law_delays_here", "_law_change", "_law_due_here", "_law_again", "_law_found", "_law_refused"] ["_law_net_here", "_law_delays_here", "_law_change"] (defScope s_right) := ⟨rfl, rfl, rfl, by decide +kernel, rfl, by decide +kernel, by decide +kernel⟩
theorem sc_law : FnScope ["_law_script", "_law_deck_here", "_law_turn", "_law_formula", "_law_net_here", "_law_wide", "_law_still", "_law_worth_here", "_law_delays_here"] ["_law_script"] (defScope s_law) := ⟨rfl, rfl, rfl, by decide +kernel, rfl, by decide +kernel, by decide +kernel⟩
structure Tx (K : PySem.W.Frag) (mg : Str → Option Value) where
  f_table_worth : Addr
  fd_table_worth : FuncData
  F_table_worth : Fun K "table_worth" "table_worth" s_table_worth f_table_worth fd_table_worth
  g_table_worth : mg "table_worth" = some (.ref f_table_worth)
  b_table_worth : Binds K fd_table_worth ["table", "worths"] []
  f_waves_of : Addr
  fd_waves_of : FuncData
  F_waves_of : Fun K "waves_of" "waves_of" s_waves_of f_waves_of fd_waves_of
  g_waves_of : mg "waves_of" = some (.ref f_waves_of)
  b_waves_of : Binds K fd_waves_of ["net", "delays", "change"] []
  f_input_wave : Addr
  fd_input_wave : FuncData
  F_input_wave : Fun K "input_wave" "input_wave" s_input_wave f_input_wave fd_input_wave
  g_input_wave : mg "input_wave" = some (.ref f_input_wave)
  b_input_wave : Binds K fd_input_wave ["before", "after"] []
  f_later : Addr
  fd_later : FuncData
  F_later : Fun K "later" "later" s_later f_later fd_later
  g_later : mg "later" = some (.ref f_later)
  b_later : Binds K fd_later ["wave", "delay"] []
  c_later : Addr
  P_later : Addr
  cd_later : fd_later.code = .ref c_later
  f_gate_wave : Addr
  fd_gate_wave : FuncData
  F_gate_wave : Fun K "gate_wave" "gate_wave" s_gate_wave f_gate_wave fd_gate_wave
  g_gate_wave : mg "gate_wave" = some (.ref f_gate_wave)
  b_gate_wave : Binds K fd_gate_wave ["table", "waves"] []
  f_turns_of : Addr
  fd_turns_of : FuncData
  F_turns_of : Fun K "turns_of" "turns_of" s_turns_of f_turns_of fd_turns_of
  g_turns_of : mg "turns_of" = some (.ref f_turns_of)
  b_turns_of : Binds K fd_turns_of ["waves"] []
  f_mixed : Addr
  fd_mixed : FuncData
  F_mixed : Fun K "_law_mixed" "_law_mixed" s_mixed f_mixed fd_mixed
  g_mixed : mg "_law_mixed" = some (.ref f_mixed)
  b_mixed : Binds K fd_mixed ["_law_number"] []
  f_deck : Addr
  fd_deck : FuncData
  F_deck : Fun K "_law_deck" "_law_deck" s_deck f_deck fd_deck
  g_deck : mg "_law_deck" = some (.ref f_deck)
  b_deck : Binds K fd_deck ["_law_script"] []
  f_draw : Addr
  fd_draw : FuncData
  F_draw : Fun K "_law_draw" "_law_draw" s_draw f_draw fd_draw
  g_draw : mg "_law_draw" = some (.ref f_draw)
  b_draw : Binds K fd_draw ["_law_deck_here", "_law_most"] []
  f_table : Addr
  fd_table : FuncData
  F_table : Fun K "_law_table" "_law_table" s_table f_table fd_table
  g_table : mg "_law_table" = some (.ref f_table)
  b_table : Binds K fd_table ["_law_deck_here", "_law_many"] []
  f_net : Addr
  fd_net : FuncData
  F_net : Fun K "_law_net" "_law_net" s_net f_net fd_net
  g_net : mg "_law_net" = some (.ref f_net)
  b_net : Binds K fd_net ["_law_deck_here", "_law_gates", "_law_formula"] []
  f_rows : Addr
  fd_rows : FuncData
  F_rows : Fun K "_law_rows" "_law_rows" s_rows f_rows fd_rows
  g_rows : mg "_law_rows" = some (.ref f_rows)
  b_rows : Binds K fd_rows ["_law_deck_here", "_law_many"] []
  f_delays : Addr
  fd_delays : FuncData
  F_delays : Fun K "_law_delays" "_law_delays" s_delays f_delays fd_delays
  g_delays : mg "_law_delays" = some (.ref f_delays)
  b_delays : Binds K fd_delays ["_law_deck_here", "_law_net_here", "_law_most"] []
  f_worth : Addr
  fd_worth : FuncData
  F_worth : Fun K "_law_worth" "_law_worth" s_worth f_worth fd_worth
  g_worth : mg "_law_worth" = some (.ref f_worth)
  b_worth : Binds K fd_worth ["_law_table_here", "_law_worths"] []
  f_wave : Addr
  fd_wave : FuncData
  F_wave : Fun K "_law_wave" "_law_wave" s_wave f_wave fd_wave
  g_wave : mg "_law_wave" = some (.ref f_wave)
  b_wave : Binds K fd_wave ["_law_table_here", "_law_waves", "_law_delays_here"] []
  f_due : Addr
  fd_due : FuncData
  F_due : Fun K "_law_due" "_law_due" s_due f_due fd_due
  g_due : mg "_law_due" = some (.ref f_due)
  b_due : Binds K fd_due ["_law_net_here", "_law_delays_here", "_law_change"] []
  f_doubled : Addr
  fd_doubled : FuncData
  F_doubled : Fun K "_law_doubled" "_law_doubled" s_doubled f_doubled fd_doubled
  g_doubled : mg "_law_doubled" = some (.ref f_doubled)
  b_doubled : Binds K fd_doubled ["_law_deck_here"] []
  f_told : Addr
  fd_told : FuncData
  F_told : Fun K "_law_told" "_law_told" s_told f_told fd_told
  g_told : mg "_law_told" = some (.ref f_told)
  b_told : Binds K fd_told ["_law_net_here", "_law_delays_here", "_law_change"] []
  f_right : Addr
  fd_right : FuncData
  F_right : Fun K "_law_right" "_law_right" s_right f_right fd_right
  g_right : mg "_law_right" = some (.ref f_right)
  b_right : Binds K fd_right ["_law_net_here", "_law_delays_here", "_law_change"] []
  f_law : Addr
  fd_law : FuncData
  F_law : Fun K "law" "law" s_law f_law fd_law
  g_law : mg "law" = some (.ref f_law)
  b_law : Binds K fd_law ["_law_script"] []
  m_ValueError : mg "ValueError" = none
  m_enumerate : mg "enumerate" = none
  m_int : mg "int" = none
  m_isinstance : mg "isinstance" = none
  m_len : mg "len" = none
  m_list : mg "list" = none
  m_min : mg "min" = none
  m_range : mg "range" = none
  m_repr : mg "repr" = none
  m_sorted : mg "sorted" = none
  m_sum : mg "sum" = none
  m_tuple : mg "tuple" = none
  m_zip : mg "zip" = none
  k_MOST_CHANGES : ∃ t, mg "MOST_CHANGES" = some (.int 200 t)
  C_NetError : Addr
  gC_NetError : mg "NetError" = some (.ref C_NetError)
  C_NoText : Addr
  gC_NoText : mg "NoText" = some (.ref C_NoText)
  C_TooMany : Addr
  gC_TooMany : mg "TooMany" = some (.ref C_TooMany)
  C_NotFormula : Addr
  gC_NotFormula : mg "NotFormula" = some (.ref C_NotFormula)
  C_NoTurn : Addr
  gC_NoTurn : mg "NoTurn" = some (.ref C_NoTurn)
  C_NoForms : Addr
  gC_NoForms : mg "NoForms" = some (.ref C_NoForms)
  C_NoRow : Addr
  gC_NoRow : mg "NoRow" = some (.ref C_NoRow)
  q_TooMany : PySem.W.excIn K C_TooMany He.veBase "ValueError.__new__" = true
  kC_TooMany : PySem.W.keepIn K (.ref C_TooMany) = true
  su_TooMany : PySem.W.subIn K (.ref C_TooMany) (.type "BaseException") = some true
  ty_TooMany : PySem.W.typeIn K (.ref C_TooMany) = some (.type "type")
  X_TooMany : ExcC K C_TooMany
  v_TooMany : PySem.W.kitOne K (.ref C_TooMany) (.type "ValueError") = some true
  t_TooMany_NetError : PySem.W.kitOne K (.ref C_TooMany) (.ref C_NetError) = some true
  x_TooMany_NetError : PySem.W.exmOne K (.ref C_TooMany) (.ref C_NetError) = some true
  t_TooMany_NoText : PySem.W.kitOne K (.ref C_TooMany) (.ref C_NoText) = some false
  x_TooMany_NoText : PySem.W.exmOne K (.ref C_TooMany) (.ref C_NoText) = some false
  t_TooMany_TooMany : PySem.W.kitOne K (.ref C_TooMany) (.ref C_TooMany) = some true
  x_TooMany_TooMany : PySem.W.exmOne K (.ref C_TooMany) (.ref C_TooMany) = some true
  t_TooMany_NotFormula : PySem.W.kitOne K (.ref C_TooMany) (.ref C_NotFormula) = some false
  x_TooMany_NotFormula : PySem.W.exmOne K (.ref C_TooMany) (.ref C_NotFormula) = some false
  t_TooMany_NoTurn : PySem.W.kitOne K (.ref C_TooMany) (.ref C_NoTurn) = some false
  x_TooMany_NoTurn : PySem.W.exmOne K (.ref C_TooMany) (.ref C_NoTurn) = some false
  t_TooMany_NoForms : PySem.W.kitOne K (.ref C_TooMany) (.ref C_NoForms) = some false
  x_TooMany_NoForms : PySem.W.exmOne K (.ref C_TooMany) (.ref C_NoForms) = some false
  t_TooMany_NoRow : PySem.W.kitOne K (.ref C_TooMany) (.ref C_NoRow) = some false
  x_TooMany_NoRow : PySem.W.exmOne K (.ref C_TooMany) (.ref C_NoRow) = some false
structure Tb (base : Heap) {K : PySem.W.Frag} {mg : Str → Option Value} (T : Tx K mg) : Prop where
  TB_later : GxR.TabB base mg T.c_later T.P_later
def Tx.tabs {K : PySem.W.Frag} {mg : Str → Option Value} (T : Tx K mg) : List Addr := [T.P_later]
/-! ### generator expressions whose elements may call -/
theorem inv_moved {X : Cx} {cp : List (Addr × Obj)} {σ : L2.St} {H : Hp} {s s' : Shared} (I : Inv X cp σ H s) (os : s'.os = s.os) (bare : AllBare s'.gens) (k : ∀ b o, s.heap.get? b = some o → s'.heap.get? b = some o) : Inv X cp σ H s' :=
  I.call' (ch := []) os (Un.kept k) (I.hok.kept k) bare fun b hb => absurd hb (by simp)
/-- the context of a generator expression's frame: C its frame, s, H the entry, fp its iterator's objects -/
abbrev gblk (X : Cx) (A : Around) (s : Shared) (H : Hp) (cenv : Env) (fp : List Addr) : Cx :=
  { X with A := A, s_0 := s, H_0 := H, env := cenv, outer := X.stack, stack := cenv :: X.stack, ex := fp, fn := fun _ => false, pn := [], xe := fun _ _ => False }
section
variable {X : Cx} {pins : List (Addr × Obj)} {σ : L2.St} {H : Hp} {s : Shared}
theorem gen_start {scope : Scope} {own : List (Str × Nat)} {fp : List Addr} {A : Around} {code it : Value} {s5 : Shared} {cp : List (Addr × Obj)}
    (I : Inv X pins σ H s) (ok : BlkOk X.N X.env.scope scope own) (nocell : ∀ y ∈ scope.names, y.2 ≠ .cell) (hN : X.N.Nodup) (hfp : ∀ b ∈ fp, FpOk X pins H b ∧ b < s.heap.objs.size)
    (hh : A.handled = none) (hfr : A.frames = some (genEnv scope (cloFrom X.env.cells scope.names []) s.heap.objs.size code builtinsNs X.env :: X.stack))
    (os : s5.os = s.os) (bare : AllBare s5.gens) (kp : ∀ b o, s.heap.get? b = some o → s5.heap.get? b = some o)
    (hns : s5.heap.Ns s.heap.objs.size fun y => if y = ".0" then some it else none)
    (hcp : ∀ p ∈ cp, s.heap.objs.size < p.1 ∧ s5.heap.get? p.1 = some p.2 ∧ ∀ v, p.2.data ≠ .cell v) :
    Inv (gblk X A s H (genEnv scope (cloFrom X.env.cells scope.names []) s.heap.objs.size code builtinsNs X.env) fp) cp (wipe σ (own.map (·.2))) H s5 := by
  have hfree : ∀ y ∈ scope.names, y.2 = .free → ∃ c, X.env.cells.lookup y.1 = some c := fun y hy e => by
    rcases ok.free y hy e with k | k
    · exact I.ok.has _ (.inl k)
    · exact I.ok.has _ (.inr k)
  generalize hcenv : genEnv scope (cloFrom X.env.cells scope.names []) s.heap.objs.size code builtinsNs X.env = cenv at hfr ⊢
  have hL : cenv.locals = s.heap.objs.size := by rw [← hcenv]; rfl
  have hcl : cenv.cells = cloFrom X.env.cells scope.names [] := by rw [← hcenv]; rfl
  have hsc : cenv.scope = scope := by rw [← hcenv]; rfl
  have cm : ∀ {y c}, (y, c) ∈ cloFrom X.env.cells scope.names [] → X.env.cells.lookup y = some c ∧ c < s.heap.objs.size := fun {y c} hm => by
    rcases cloFrom_mem hm with hm | ⟨h1, rfl⟩
    · cases hm
    · obtain ⟨c, hc⟩ := hfree _ h1 rfl
      rw [hc]
      obtain ⟨w, z⟩ := I.cell _ _ hc
      exact ⟨rfl, z.lt⟩
  have mem : ∀ {y c}, cenv.cells.lookup y = some c → X.env.cells.lookup y = some c ∧ c < s.heap.objs.size := fun {y c} e => by
    rw [hcl] at e
    exact cm (PySem.mem_of_lookup e)
  have look : ∀ {y}, scope.names.lookup y = some .free → ∃ c, cenv.cells.lookup y = some c ∧ X.env.cells.lookup y = some c := fun {y} hl => by
    have hy : (y, NameKind.free) ∈ scope.names := PySem.mem_of_lookup hl
    obtain ⟨c', e'⟩ := mem_lookup (cloFrom_has (cells := X.env.cells) (acc := []) hy)
    rw [← hcl] at e'
    exact ⟨c', e', (mem e').1⟩
  have okB : (gblk X A s H cenv fp).Ok := by
    refine ⟨I.ok.mod, by show cenv.scope.kind = _; rw [hsc]; exact ok.kind, by show cenv.globals = _; rw [← hcenv]; exact I.ok.glob, by show cenv.builtins = _; rw [← hcenv]; rfl, by show s.heap.objs.size ≤ cenv.locals; rw [hL]; exact Nat.le_refl _,
      fun y z c e1 e2 => I.ok.inj y z c (mem e1).1 (mem e2).1, fun y hy => ?_, fun y c z e => (by cases z), fun _ => hh, hfr, .inr ⟨rfl, by show cenv.frame = some cenv.locals; rw [← hcenv]; rfl⟩, fun b hb => ⟨?_, fun y c e z => ?_⟩, I.bs, Nat.le_trans I.ok.bsz I.sz, fun b o e hb => ?_, fun b hb z => ?_, I.stack, I.stkFree⟩
    · have hy' : scope.names.lookup y = some .cell ∨ scope.names.lookup y = some .free := by
        rw [← hsc]
        exact hy
      rcases hy' with e | e
      · exact absurd rfl (nocell _ (PySem.mem_of_lookup e))
      · obtain ⟨c, h1, _⟩ := look e
        exact ⟨c, h1⟩
    · show b ≠ cenv.locals
      rw [hL]; exact Nat.ne_of_lt (hfp b hb).2
    · exact (hfp b hb).1.2.2.2.2.1 y c (mem e).1 z
    · rcases (hfp b hb).1.2.2.2.1 with z | z
      · exact I.ok.noex b o e z
      · exact absurd (Nat.lt_of_lt_of_le (Heap.lt_size e) (Nat.le_trans I.ok.bsz z)) (Nat.lt_irrefl _)
    · rcases List.mem_cons.mp (I.stkSub b z) with z | z
      · exact (hfp b hb).1.2.1 z
      · exact (hfp b hb).1.2.2.1 z
  refine ⟨okB, os, bare, Un.kept kp, ⟨_, (by show s5.heap.Ns cenv.locals _; rw [hL]; exact hns), fun i y av e1 e2 e3 => ?_⟩, fun y c e => ?_, ?_, fun y c e => I.freeC y c (mem e).1, fun p hp => ?_, I.hok.kept kp, by rw [wipe_length]; exact I.len⟩
  · obtain ⟨e2, hne⟩ := wipe_some e2
    have e3 : Vis scope y := by rw [← hsc]; exact e3
    have no : ∀ k, scope.names.lookup y = some k → ¬ (k = .local ∨ k = .cell) := fun k e hh => by
      rcases ok.own _ (PySem.mem_of_lookup e) hh with e' | e'
      · obtain ⟨p, hp, hpy⟩ := List.mem_map.mp e'
        have e3 := ok.ix p hp
        have : p.1 = y := hpy
        rw [this] at e3
        exact hne (List.mem_map.mpr ⟨p, hp, nodup_ix hN e3 e1⟩)
      · exact e' (List.mem_of_getElem? e1)
    have hfr2 : scope.names.lookup y = some .free := by
      rcases e3 with e | e | e
      · exact absurd (.inl rfl) (no _ e)
      · exact absurd (.inr rfl) (no _ e)
      · exact e
    obtain ⟨m, hn, hl⟩ := I.loc
    have hvis : Vis X.env.scope y := (ok.free _ (PySem.mem_of_lookup hfr2) rfl).elim (fun k => .inr (.inl k)) (fun k => .inr (.inr k))
    obtain ⟨w, r, q⟩ := hl i y av e1 e2 hvis
    refine ⟨w, r, .inr ⟨.inr (by show cenv.scope.names.lookup y = some .free; rw [hsc]; exact hfr2), ?_⟩⟩
    obtain ⟨c, h1, h2⟩ := look hfr2
    rcases q with ⟨k, _⟩ | ⟨_, c', e', z⟩
    · have k : X.env.scope.names.lookup y = some .local := k
      rcases ok.free _ (PySem.mem_of_lookup hfr2) rfl with k' | k' <;> rw [show X.env.scope.names.lookup y = _ from k'] at k <;> cases k
    · rw [h2] at e'; cases e'
      exact ⟨c, h1, z.keeps kp⟩
  · obtain ⟨w, z⟩ := I.cell y c (mem e).1
    exact ⟨w, z.keeps kp⟩
  · show H cenv.locals = none
    rw [hL]; exact I.hok.fresh (Nat.le_refl _)
  · have hp : p ∈ cp := by simpa using hp
    obtain ⟨h1, h2, h3⟩ := hcp p hp
    refine ⟨h2, I.hok.fresh (Nat.le_of_lt h1), by show p.1 ≠ cenv.locals; rw [hL]; exact Nat.ne_of_gt h1, fun z => ?_, h3⟩
    rcases List.mem_cons.mp (I.stkSub _ z) with z | z
    · exact absurd (Nat.lt_trans I.lt h1) (by rw [z]; exact Nat.lt_irrefl _)
    · exact I.nofs (Nat.le_of_lt h1) z
end
/-! ### the talk of a generator and who asks it -/
section
variable {α : Type}
/-- handed out: x; the asker's state a (laid down in the pins cp) goes to one with Nx -/
def YG (Xg : Cx) (fp : List Addr) (tn : Nat → Heap → Prop) (AC : α → List (Addr × Obj) → Prop) (Yd : α → V → Hp → (α → Hp → Prop) → Prop) : Protocol := fun _ s0 v s kap =>
  ∃ (a : α) (x : V) (σ : L2.St) (H : Hp) (i : Nat) (cp : List (Addr × Obj)) (Nx : α → Hp → Prop), RelV x v ∧ AC a cp ∧ (∀ p ∈ cp, s0.heap.get? p.1 = some p.2) ∧ Inv Xg cp σ H s ∧ tn i s.heap ∧ (∀ b ∈ fp, H b = none) ∧ Yd a x H Nx ∧
    ∀ a' cp' s', Nx a' H → AC a' cp' → Inv Xg cp' σ H s' → tn i s'.heap → kap (.send .none) s'
def RG (Xg : Cx) (AC : α → List (Addr × Obj) → Prop) (End : α → Hp → Prop) : GenEnd := fun _ s0 r s =>
  ((r = .ok (.ret .none) ∨ r = .ok .next) ∧ ∃ (a : α) (σ : L2.St) (H : Hp) (cp : List (Addr × Obj)), AC a cp ∧ (∀ p ∈ cp, s0.heap.get? p.1 = some p.2) ∧ Inv Xg cp σ H s ∧ End a H) ∨ ∃ e, r = .error e ∧ False
/-- a generator's turns -/
def tGx (J : It) (g : TG) (tt : TT) (te : TE) (σ0 : L2.St) (vs : List Nat) (End : α → Hp → Prop) (Yd : α → V → Hp → (α → Hp → Prop) → Prop) (W : Nat → Nat → α → Hp → Prop) : Prop :=
  ∀ i m a H, W i m a H → (J.stop i H ∧ End a H) ∨ (J.go i H ∧ ∃ Nx : α → Hp → Prop, (∀ a' H', Nx a' H' → ∃ m', m' < m ∧ W (i + 1) m' a' H') ∧
    ∀ x H', J.yld i H x H' → g x σ0 H' fun σ2 H2 => wipe σ2 vs = σ0 ∧ tt σ2 H2 fun b H3 => if b = true then te σ2 H3 fun y H4 => Yd a y H4 Nx else Nx a H3)
theorem wipe_wipe_some {σ σ2 : L2.St} {vs : List Nat} (h : wipe σ2 vs = σ) : ∀ (j : Nat) v, σ[j]? = some (some v) → σ2[j]? = some (some v) := fun j v e => by
  rw [← h] at e
  exact (wipe_some e).1
theorem seg_gx {X : Cx} {A A' : Around} {s_0 : Shared} {H_0 : Hp} {elt tg iter : Expr} {ifs : List Expr} {scope : Scope} {pos : Pos} {it : Addr} {fp : List Addr} {tn : Nat → Heap → Prop} {J : It} {cenv : Env} {g : TG} {tt : TT} {te : TE} {σ0 : L2.St} {vs : List Nat}
    {AC : α → List (Addr × Obj) → Prop} {End : α → Hp → Prop} {Yd : α → V → Hp → (α → Hp → Prop) → Prop} {W : Nat → Nat → α → Hp → Prop}
    (hA : A.over (.compLoop (.GeneratorExp elt [⟨tg, iter, ifs, 0⟩] scope pos) 0 (.ref it) .none cenv) [] = A') (hc : X.calm = true) (hco : cenv.scope.isCoroutine = false)
    (T : Turn X.prog X.w X.K tg J fp it tn) (pg : PG (gblk X A' s_0 H_0 cenv fp) tg g) (pt : PTs (gblk X A' s_0 H_0 cenv fp) ifs tt) (pe : PE (gblk X A' s_0 H_0 cenv fp) elt te)
    (hAC : ∀ a cp, AC a cp → ∀ p ∈ cp, ∀ b ∈ fp, p.1 ≠ b) (turn : tGx J g tt te σ0 vs End Yd W) :
    ∀ (m n i : Nat) (a : α) (H : Hp) (s₀ s : Shared) (cp : List (Addr × Obj)), m < n → W i m a H → AC a cp → (∀ p ∈ cp, s₀.heap.get? p.1 = some p.2) → Inv (gblk X A' s_0 H_0 cenv fp) cp σ0 H s → tn i s.heap → (∀ b ∈ fp, H b = none) →
      Seg (model X.prog X.w) A (RG (gblk X A' s_0 H_0 cenv fp) AC End) (YG (gblk X A' s_0 H_0 cenv fp) fp tn AC Yd) n s₀
        (.compLoop (.GeneratorExp elt [⟨tg, iter, ifs, 0⟩] scope pos) 0 (.ref it) .none cenv)
        ((model X.prog X.w).den (.compLoop (.GeneratorExp elt [⟨tg, iter, ifs, 0⟩] scope pos) 0 (.ref it) .none cenv)) [] s := by
  have stat : ∀ {a : α} {cp : List (Addr × Obj)} {σ' : L2.St} {H' : Hp} {s' : Shared}, AC a cp → Inv (gblk X A' s_0 H_0 cenv fp) cp σ' H' s' → (∀ b ∈ fp, H' b = none) → ∀ b ∈ fp, FpOk (gblk X A' s_0 H_0 cenv fp) cp H' b := fun {a cp σ' H' s'} hac I' hn b hb =>
    ⟨hn b hb, (I'.ok.exf b hb).1, I'.ok.exfs b hb, .inl hb, fun x c e => (I'.ok.exf b hb).2 x c e, fun p hp => hAC a cp hac p (by simpa using hp) b hb⟩
  intro m
  induction m using Nat.strongRecOn with
  | ind m ih =>
    intro n i a H s₀ s cp hmn w hac tie I st nf
    show Seg _ A _ _ _ s₀ _ ((compTurn (.GeneratorExp elt [⟨tg, iter, ifs, 0⟩] scope pos) 0 (.ref it) .none cenv).onRaise (leaving cenv)) [] s
    rw [compTurn_gen, Sem.onRaise_eq_wrap]
    refine seg_bind_wrap (wpAny_standAt ?_)
    rcases turn i m a H w with ⟨stop, hend⟩ | ⟨go, Nx, hNx, step⟩
    · refine seg_bind_wrap ?_
      rw [hA]
      refine thnF (T.done (gblk X A' s_0 H_0 cenv fp) rfl rfl rfl hc i cp s σ0 H (fun _ _ => False) I (stat hac I nf) st stop) fun r s1 ⟨hr, I1⟩ => ?_
      subst hr
      exact seg_end (.ok .next) (.inl ⟨.inr rfl, a, _, H, cp, hac, tie, I1, hend⟩)
    · refine seg_bind_wrap ?_
      rw [hA]
      refine thnF (T.item (gblk X A' s_0 H_0 cenv fp) rfl rfl rfl hc i cp s σ0 H (fun _ _ => False) I (stat hac I nf) st go) fun r s1 ⟨u, hr, h1⟩ => ?_
      subst hr
      refine seg_bind_wrap ?_
      rw [hA]
      refine thnF h1 fun _ s2 ⟨x, H2, I2, r2, y2, st2, n2⟩ => ?_
      have I2' := I2.pinned (stat hac I2 n2) (T.obj _ _ st2)
      refine seg_bind_wrap ?_
      rw [hA]
      refine thnF (pg.run _ s2 _ H2 x u _ I2' r2 (step x H2 y2)) fun _ s3 ⟨σ3, H3, I3, hw3, q3⟩ => ?_
      refine seg_bind_wrap ?_
      rw [hA]
      refine thnF (pt.run _ s3 σ3 H3 _ I3 q3) fun b s4 ⟨H4, I4, q4⟩ => ?_
      have hl : σ0.length = σ3.length := by rw [← hw3, wipe_length]
      have fin : ∀ {s' : Shared} {H' : Hp}, Inv (gblk X A' s_0 H_0 cenv fp) (cp ++ pinsAt fp s2.heap) σ3 H' s' → Inv (gblk X A' s_0 H_0 cenv fp) cp σ0 H' s' ∧ tn (i + 1) s'.heap ∧ ∀ b ∈ fp, H' b = none := fun {s' H'} I' => by
        have pin' : ∀ b ∈ fp, ∀ o, s2.heap.get? b = some o → s'.heap.get? b = some o ∧ H' b = none := fun b hb o e =>
          let z := I'.pin (b, o) (List.mem_append_right _ (List.mem_append_right _ (mem_pinsAt hb e)))
          ⟨z.1, z.2.1⟩
        refine ⟨(I'.unpinned (pins := cp)).weak hl (wipe_wipe_some hw3), T.keep _ _ _ st2 fun b hb o e => (pin' b hb o e).1, fun b hb => ?_⟩
        obtain ⟨o, e, _⟩ := T.obj _ _ st2 b hb
        exact (pin' b hb o e).2
      cases b with
      | false =>
        simp only [Bool.false_eq_true, if_false] at q4 ⊢
        obtain ⟨m', hm, w'⟩ := hNx a H4 q4
        obtain ⟨J1, J2, J3⟩ := fin I4
        exact seg_again rfl (ih m' hm n (i + 1) a H4 s₀ s4 cp (by omega) w' hac tie J1 J2 J3)
      | true =>
        simp only [if_true] at q4 ⊢
        have hy : ∀ v, yieldOut cenv v = yieldValue v := fun v => by simp only [yieldOut, hco, Bool.false_eq_true, if_false]
        simp only [hy]
        rw [Sem.bind_eq_wrap', Sem.bind_eq_wrap', Sem.wrap_wrap, Sem.wrap_wrap]
        refine seg_wrap ?_
        rw [hA]
        refine thnF (pe.run _ s4 σ3 H4 _ I4 q4) fun yv s5 ⟨y, H5, I5, r5, q5⟩ => ?_
        obtain ⟨J1, J2, J3⟩ := fin I5
        -- at least one more
        cases n with
        | zero => exact absurd hmn (Nat.not_lt_zero _)
        | succ n =>
          refine seg_at (seg_yield rfl rfl rfl ⟨a, y, σ0, H5, i + 1, cp, Nx, r5, hac, tie, J1, J2, J3, q5, fun a' cp' s' nx hac' I' st' => ?_⟩)
          obtain ⟨m', hm, w'⟩ := hNx a' H5 nx
          exact seg_again rfl (ih m' hm n (i + 1) a' H5 s' s' cp' (by omega) w' hac' (fun p hp => (I'.pin p (List.mem_append_right _ hp)).1) I' st' J3)
end
/-! ### a generator that is made -/
section
variable {X : Cx} {pins : List (Addr × Obj)} {σ : L2.St} {H : Hp} {s : Shared}
def GenObj (o : Obj) (g : Nat) : Prop := ∃ nm qn, o.cls = .type "generator" ∧ o.data = .fields #[.int g 0, nm, qn] ∧ o.slots = #[]
theorem GenObj.isGen {o : Obj} {g : Nat} (h : GenObj o g) {a : Addr} {hp : Heap} (e : hp.get? a = some o) : hp.IsGen a g := by
  obtain ⟨nm, qn, h1, h2, h3⟩ := h
  exact ⟨o, nm, qn, e, h1, h2, h3⟩
/-- the generator u, made and not begun, in the state s5 -/
def Gx (X : Cx) (pins : List (Addr × Obj)) (σ : L2.St) (A : Around) (J : It) (g : TG) (tt : TT) (te : TE) (vs : List Nat) (H4 : Hp) (u : Value) (s5 : Shared) : Prop :=
  ∃ (A' : Around) (s_0 : Shared) (H_0 : Hp) (cenv : Env) (fp : List Addr) (ga : Addr) (gn : Nat) (go : Obj) (tn : Nat → Heap → Prop) (gs : GenState),
    u = .ref ga ∧ GenObj go gn ∧ s5.gens[gn]? = some gs ∧ gs.bare = true ∧ Inv (gblk X A' s_0 H_0 cenv fp) [(ga, go)] (wipe σ vs) H4 s5 ∧ tn 0 s5.heap ∧ (∀ b ∈ fp, H4 b = none) ∧ (∀ b ∈ fp, b < ga) ∧
    (∀ i h h', tn i h → (∀ b ∈ fp, ∀ o, h.get? b = some o → h'.get? b = some o) → tn i h') ∧ (∀ cp σ' H' s', Inv (gblk X A' s_0 H_0 cenv fp) cp σ' H' s' → Inv X pins σ H' s') ∧
    ∀ (α : Type) (AC : α → List (Addr × Obj) → Prop) (End : α → Hp → Prop) (Yd : α → V → Hp → (α → Hp → Prop) → Prop) (W : Nat → Nat → α → Hp → Prop) (m n : Nat) (a : α) (cp : List (Addr × Obj)) (s' : Shared),
      tGx J g tt te (wipe σ vs) vs End Yd W → W 0 m a H4 → m < n → (∀ a cp, AC a cp → ∀ p ∈ cp, ∀ b ∈ fp, p.1 ≠ b) → AC a cp → Inv (gblk X A' s_0 H_0 cenv fp) cp (wipe σ vs) H4 s' → tn 0 s'.heap →
      gs.Goes (model X.prog X.w) A (RG (gblk X A' s_0 H_0 cenv fp) AC End) (YG (gblk X A' s_0 H_0 cenv fp) fp tn AC Yd) n (.send .none) s'
/-- what stands about an asker -/
structure Near (A B : Around) : Prop where
  hd : B.handled = A.handled
  fr : B.frames = A.frames
  gd : B.guards = A.guards
  dp : B.depth = A.depth
  un : B.units ≤ A.units + 8
theorem gx_make {c P : Addr} {elt tg iter : Expr} {ifs : List Expr} {gpos : Pos} {scope : Scope} {own : List (Str × Nat)} {wi : TI} {g : TG} {tt : TT} {te : TE} {k : Nat} {Q' : Value → Shared → Prop} {R : It → Hp → Prop} {A : Around}
    (hr : Room (k + 1) X.A) (near : Near X.A A) (hc : X.calm = true) (hN : X.N.Nodup) (TB : GxR.TabB X.base X.mg c P) (hcode : X.env.code = .ref c) (hco : scope.isCoroutine = false) (hdot : scope.names.lookup (".0" : Str) = some NameKind.local)
    (nocell : ∀ y ∈ scope.names, y.2 ≠ .cell) (ok : BlkOk X.N X.env.scope scope own) (hi : PI X tg iter wi)
    (hg : ∀ (A' : Around) (s : Shared) (H : Hp) (C : Addr) (cl : List (Str × Addr)) (code : Value) (fp : List Addr), Room k A' → A'.guards = X.A.guards → PG (gblk X A' s H (genEnv scope cl C code builtinsNs X.env) fp) tg g)
    (ht : ∀ (A' : Around) (s : Shared) (H : Hp) (C : Addr) (cl : List (Str × Addr)) (code : Value) (fp : List Addr), Room k A' → A'.guards = X.A.guards → PTs (gblk X A' s H (genEnv scope cl C code builtinsNs X.env) fp) ifs tt)
    (he : ∀ (A' : Around) (s : Shared) (H : Hp) (C : Addr) (cl : List (Str × Addr)) (code : Value) (fp : List Addr), Room k A' → A'.guards = X.A.guards → PE (gblk X A' s H (genEnv scope cl C code builtinsNs X.env) fp) elt te)
    (hs : ∀ v, genFold iter X.env v = pure v) (I : Inv X pins σ H s) (h : wi σ H fun J H1 => GxR.TabG H1 P ∧ R J H1)
    (hQ : ∀ J H1 H2 u s5, R J H1 → GxR.Tabbed P H1 H2 → Gx X pins σ A J g tt te (own.map (·.2)) H2 u s5 → Q' u s5) :
    wpAny (model X.prog X.w) X.A (eval (.GeneratorExp elt [⟨tg, iter, ifs, 0⟩] scope gpos) X.env) Q' X.xe s := by
  have hfree : ∀ y ∈ scope.names, y.2 = .free → ∃ c, X.env.cells.lookup y.1 = some c := fun y hy e => by
    rcases ok.free y hy e with k | k
    · exact I.ok.has _ (.inl k)
    · exact I.ok.has _ (.inr k)
  refine wpAny_GeneratorExp_make hco (closure_ok hfree) nocell hdot ok.kind (by have := hr.dp; omega) ?_ hs
  refine thn (hi.run pins s σ H _ I h) fun xv s1 hx => thn hx fun itv s2 h2 => ?_
  obtain ⟨it, fp, tn, J, H2, rfl, I2, T, st2, f2, ⟨ps, hP, ht3⟩, q⟩ := h2
  refine ⟨I2.nolimit, ?_⟩
  have hPs : s2.heap.get? P = some { cls := .none, data := .fields ps } := I2.hok P _ hP
  have cd : PySem.W.CodeHd s2.heap c P := TB.code.keeps fun b u e => I2.bk b u e
  have nP : ∀ b, H2 b = none → b ≠ P := fun b e z => by
    rw [z, hP] at e
    cases e
  have cont : ∀ (code : Value) (h3 : Heap) (tk : Nat) (ps' : Array Value), Heap.ExtBut P s2.heap h3 → s2.heap.objs.size ≤ h3.objs.size → h3.get? P = some { cls := .none, data := .fields ps' } → (∃ more, ps' = ps ++ more) → TriplesOk ps'.toList →
      wpAny (model X.prog X.w) X.A (builtinsFor X.env.globals X.env.builtins) (fun bi s₄ =>
        ∀ h', h'.Ns s₄.heap.objs.size (fun y => if y = ".0" then some (Value.ref it) else none) → Heap.SameBut s₄.heap.objs.size (s₄.heap.push { cls := .type "frame", data := .dict #[] }) h' →
          Q' (.ref h'.objs.size) { s₄ with
            gens := s₄.gens.push (.fresh (.compStart (.GeneratorExp elt [⟨tg, iter, ifs, 0⟩] scope gpos) 0 (.ref it) .none (genEnv scope (cloFrom X.env.cells scope.names []) s₄.heap.objs.size code bi X.env))),
            toks := s₄.toks + 1 + 1 + 1,
            heap := h'.push { cls := .type "generator", data := .fields #[.int s₄.gens.size 0, .str "<genexpr>" (s₄.toks + 1), .str (X.env.qual ++ "<genexpr>") (s₄.toks + 1 + 1)] } }) X.xe { s2 with heap := h3, toks := tk } := by
    rintro code h3 tk ps' hx hsz hP3 ⟨more, rfl⟩ ht4
    obtain ⟨bm, ob, e1, e2, e3, e4, e5, e6, e7, e8⟩ := TB.bm
    refine wpAny_builtinsFor (m := X.mg) (by rw [I2.ok.glob]; exact (I2.mod.glob.keeps I2.bk).extBut hx TB.gP) e1 e2 (hx _ _ e4 (I2.bk _ _ e5)) e6 e7 e8 ?_
    intro h' hns hsb
    have I3 : Inv X pins σ (upd H2 P (.tbl (ps ++ more))) { s2 with heap := h3, toks := tk } := GxR.inv_tab (g' := s2.gens) (d' := s2.drawn) I2 hP (fun b o hb e => hx b o hb e) hP3 I2.bare
    have lt2 : ∀ b ∈ fp, b < s2.heap.objs.size := fun b hb => by
      obtain ⟨o, e, _⟩ := T.obj _ _ st2 b hb
      exact Heap.lt_size e
    have f3 : ∀ b ∈ fp, FpOk X pins (upd H2 P (.tbl (ps ++ more))) b ∧ b < ({ s2 with heap := h3, toks := tk } : Shared).heap.objs.size := fun b hb => by
      refine ⟨⟨?_, (f2 b hb).2⟩, Nat.lt_of_lt_of_le (lt2 b hb) hsz⟩
      rw [upd_ne (nP b (f2 b hb).1)]
      exact (f2 b hb).1
    have st3 : tn 0 h3 := T.keep _ _ _ st2 fun b hb o e => hx b o (nP b (f2 b hb).1) e
    generalize hs4 : ({ s2 with heap := h3, toks := tk } : Shared) = s4 at I3 f3 hns hsb ⊢
    have h4 : s4.heap = h3 := by rw [← hs4]
    have hsz4 : h'.objs.size = s4.heap.objs.size + 1 := by rw [hsb.1, Heap.size_push]
    have keep' : ∀ b o, s4.heap.get? b = some o → h'.get? b = some o := fun b o e => hsb.extBut b o (Nat.ne_of_lt (Heap.lt_size e)) (Heap.get?_push_of_some _ e)
    generalize hgo : ({ cls := .type "generator", data := .fields #[.int s4.gens.size 0, .str "<genexpr>" (s4.toks + 1), .str (X.env.qual ++ "<genexpr>") (s4.toks + 1 + 1)] } : Obj) = go
    have hGO : GenObj go s4.gens.size := by rw [← hgo]; exact ⟨_, _, rfl, rfl, rfl⟩
    have k5 : ∀ b o, s4.heap.get? b = some o → (h'.push go).get? b = some o := fun b o e => Heap.get?_push_of_some _ (keep' b o e)
    have pg := fun A' => hg A' s4 (upd H2 P (.tbl (ps ++ more))) s4.heap.objs.size (cloFrom X.env.cells scope.names []) code fp
    have pt := fun A' => ht A' s4 (upd H2 P (.tbl (ps ++ more))) s4.heap.objs.size (cloFrom X.env.cells scope.names []) code fp
    have pe := fun A' => he A' s4 (upd H2 P (.tbl (ps ++ more))) s4.heap.objs.size (cloFrom X.env.cells scope.names []) code fp
    generalize hce : genEnv scope (cloFrom X.env.cells scope.names []) s4.heap.objs.size code builtinsNs X.env = cenv at pg pt pe ⊢
    have hscn : cenv.scope = scope := by rw [← hce]; rfl
    generalize hA' : A.over (.compLoop (.GeneratorExp elt [⟨tg, iter, ifs, 0⟩] scope gpos) 0 (.ref it) .none cenv) [] = A'
    have hfrA : A'.frames = some (cenv :: X.stack) := by
      rw [← hA']
      show pushEnvs [cenv] A.frames = _
      rw [near.fr, I2.ok.frames]
      rfl
    have hhd : A'.handled = none := by
      rw [← hA']
      show A.handled = none
      rw [near.hd]
      exact hr.hd
    have rm : Room k A' := by
      refine ⟨hhd, ?_, ?_⟩
      · have := hr.dp
        have := near.dp
        rw [← hA']
        show A.depth + 0 + 1 + 3 * k + 5 < _
        omega
      · have := hr.un
        have := near.un
        rw [← hA']
        show A.units + 0 + 3 + 16 * k + 200 < _
        omega
    have gdA : A'.guards = X.A.guards := by
      rw [← hA']
      show pushGuards [] A.guards = _
      rw [near.gd]
      rfl
    have I5 : Inv (gblk X A' s4 (upd H2 P (.tbl (ps ++ more))) cenv fp) [(h'.objs.size, go)] (wipe σ (own.map (·.2))) (upd H2 P (.tbl (ps ++ more)))
        { s4 with gens := s4.gens.push (.fresh (.compStart (.GeneratorExp elt [⟨tg, iter, ifs, 0⟩] scope gpos) 0 (.ref it) .none cenv)), toks := s4.toks + 1 + 1 + 1, heap := h'.push go } := by
      subst hce
      refine gen_start (it := .ref it) I3 ok nocell hN f3 hhd hfrA rfl (I3.bare.push rfl) k5 (hns.push _) fun p hp => ?_
      have e : p = (h'.objs.size, go) := by simpa using hp
      subst e
      refine ⟨by show s4.heap.objs.size < h'.objs.size; omega, Heap.get?_push_size _ (by rw [← hgo]; rfl), fun v z => ?_⟩
      rw [← hgo] at z
      cases z
    refine hQ J H2 _ _ _ q ⟨⟨_, upd_same, ht4⟩, fun b hb => upd_ne hb⟩ ⟨A', s4, _, cenv, fp, h'.objs.size, s4.gens.size, go, tn, _, rfl, hGO, Array.getElem?_push_size .., rfl, I5, ?_, fun b hb => (f3 b hb).1.1, fun b hb => ?_, T.keep, fun cp σ' H' s' I' => ?_, ?_⟩
    · exact T.keep _ _ _ st3 fun b _ o e => k5 b o (by rw [h4]; exact e)
    · have := (f3 b hb).2
      rw [hsz4]
      exact Nat.lt_succ_of_lt this
    · exact I3.call' (ch := fp) I'.os I'.base I'.hok I'.bare fun b hb => ⟨(f3 b hb).1.2.2.2.1, (f3 b hb).1.2.1, (f3 b hb).1.2.2.2.2.1, (f3 b hb).1.2.2.2.2.2⟩
    · intro α AC End Yd W m n a cp s' turn w hmn hAC hac I' st'
      refine ⟨rfl, ?_⟩
      have loop := seg_gx (A := A) (pos := gpos) (iter := iter) (scope := scope) hA' hc (by rw [hscn]; exact hco) T (pg A' rm gdA) (pt A' rm gdA) (pe A' rm gdA) hAC turn m n 0 a _ s' s' cp hmn w hac (fun p hp => (I'.pin p (List.mem_append_right _ hp)).1) I' st' fun b hb => (f3 b hb).1.1
      show Seg _ A _ _ _ s' _ ((compStart (.GeneratorExp elt [⟨tg, iter, ifs, 0⟩] scope gpos) 0 (.ref it) .none cenv).onRaise (leaving cenv)) [] s'
      unfold compStart
      rw [Sem.onRaise_eq_wrap]
      show Seg _ A _ _ _ s' _ ((ask >>= _).wrap _ _ _ _) [] s'
      refine seg_bind_wrap (wpAny_askSetting ?_)
      split
      · exact seg_again rfl loop
      · first
          | exact seg_bind_wrap (wpAny_rule (seg_bind_wrap (wpAny_standAt (seg_bind_wrap (T.self _ 0 s' _ _ st' (seg_again rfl loop))))))
          | (refine seg_bind_wrap (wpAny_rule ?_); show Seg _ A _ _ _ s' _ ((standAt iter.pos >>= _).wrap _ _ _ _) [] s'; exact seg_bind_wrap (wpAny_standAt (seg_bind_wrap (T.self _ 0 s' _ _ st' (seg_again rfl loop)))))
  cases hf : codeAmong gpos ps.toList with
  | none =>
    refine wpAny_genexprCodeX hcode (cd.code hPs ht3) (cd.tab hPs) hf fun c' h' tk hx hge hlt hco' _ htab' _ => ?_
    obtain ⟨o1, vs, f1, tf, fl, tg, inF, tx, tt, op, _, _, _, _, _, _, _, _, _, htr, _⟩ := hco'
    exact cont _ h' tk _ hx (Nat.le_trans hge (Nat.le_of_lt hlt)) htab'.2 ⟨_, rfl⟩ htr
  | some cv =>
    refine wpAny_genexprCode_hit hcode (cd.code hPs ht3) hf ?_
    exact cont cv s2.heap s2.toks ps (Heap.ExtBut.refl _ _) (Nat.le_refl _) hPs ⟨#[], by simp⟩ ht3
end
/-! ### asking -/
section
variable {α : Type} {X : Cx} {A A' : Around} {s_0 : Shared} {H_0 : Hp} {cenv : Env} {fp : List Addr} {tn : Nat → Heap → Prop} {AC : α → List (Addr × Obj) → Prop} {End : α → Hp → Prop} {Yd : α → V → Hp → (α → Hp → Prop) → Prop} {ga : Addr} {gn n : Nat} {go : Obj}
theorem next_gx2 {gs : GenState} {s : Shared} {Q : Option Value → Shared → Prop} {E : Value → Shared → Prop} (hh : A.handled = none) (hroom : A.depth < recursionLimit) (hl : s.heap.NoLimit) (hG : GenObj go gn) (e : s.heap.get? ga = some go) (hgs : s.gens[gn]? = some gs)
    (hgo : gs.Goes (model X.prog X.w) A.in1 (RG (gblk X A' s_0 H_0 cenv fp) AC End) (YG (gblk X A' s_0 H_0 cenv fp) fp tn AC Yd) n (.send .none) (s.setGen gn .running))
    (item : ∀ (a : α) (x : V) (σ : L2.St) (H : Hp) (i : Nat) (cp : List (Addr × Obj)) (Nx : α → Hp → Prop) (v : Value) (s1 : Shared) (gs' : GenState), RelV x v → AC a cp → (∀ p ∈ cp, s.heap.get? p.1 = some p.2) → Inv (gblk X A' s_0 H_0 cenv fp) cp σ H s1 → tn i s1.heap → Yd a x H Nx → s1.gens[gn]? = some gs' →
      (∀ a' cp' s', Nx a' H → AC a' cp' → Inv (gblk X A' s_0 H_0 cenv fp) cp' σ H s' → tn i s'.heap → ∃ m, n = m + 1 ∧ gs'.Goes (model X.prog X.w) A.in1 (RG (gblk X A' s_0 H_0 cenv fp) AC End) (YG (gblk X A' s_0 H_0 cenv fp) fp tn AC Yd) m (.send .none) s') → Q (some v) s1)
    (done : ∀ (a : α) (σ : L2.St) (H : Hp) (cp : List (Addr × Obj)) (s1 : Shared), AC a cp → (∀ p ∈ cp, s.heap.get? p.1 = some p.2) → Inv (gblk X A' s_0 H_0 cenv fp) cp σ H s1 → End a H → Q none s1) :
    wpAny (model X.prog X.w) A (pyNext (.ref ga)) Q E s := by
  have hgl : gn < s.gens.size := (Array.getElem?_eq_some_iff.mp hgs).1
  refine GenW.wpAny_gsz (n := gn + 1) hgl (next_genG (Er := fun _ _ => False) hh hl hroom (hG.isGen e) hgs hgo (fun v s₁ gs' hbare hv => ?_) (fun s₁ hp h' hk => ?_) fun e s₁ he => he.elim)
  · intro hsz
    obtain ⟨a, x, σ, H, i, cp, Nx, r, hac, tie, I, st, nf, hy, kap⟩ := hv
    have hsz1 : gn < s₁.gens.size := by
      have q : (s₁.setGen gn gs').gens.size = s₁.gens.size := GenW.setGen_size _ _ _
      have hsz' : gn + 1 ≤ (s₁.setGen gn gs').gens.size := hsz
      omega
    refine item a x σ H i cp Nx v (s₁.setGen gn gs') gs' r hac tie (inv_moved I rfl (allBare_setGen I.bare hbare) fun _ _ q => q) st hy (setGen_at hsz1) fun a' cp' s' nx hac' I' st' => ?_
    have z := kap a' cp' s' nx hac' I' st'
    cases n with
    | zero => exact z.elim
    | succ m => exact ⟨m, rfl, z⟩
  · intro _
    obtain ⟨a, σ, H, cp, hac, tie, I, q⟩ := hp
    exact done a σ H cp _ hac tie (inv_moved I rfl (allBare_setGen I.bare rfl) hk) q
theorem next_gx {gs : GenState} {s : Shared} {Q : Option Value → Shared → Prop} {E : Value → Shared → Prop} (hh : A.handled = none) (hroom : A.depth < recursionLimit) (hl : s.heap.NoLimit) (hG : GenObj go gn) (e : s.heap.get? ga = some go) (hgs : s.gens[gn]? = some gs)
    (hgo : gs.Goes (model X.prog X.w) A.in1 (RG (gblk X A' s_0 H_0 cenv fp) AC End) (YG (gblk X A' s_0 H_0 cenv fp) fp tn AC Yd) n (.send .none) (s.setGen gn .running))
    (item : ∀ (a : α) (x : V) (σ : L2.St) (H : Hp) (i : Nat) (cp : List (Addr × Obj)) (Nx : α → Hp → Prop) (v : Value) (s1 : Shared) (gs' : GenState), RelV x v → AC a cp → Inv (gblk X A' s_0 H_0 cenv fp) cp σ H s1 → tn i s1.heap → Yd a x H Nx → s1.gens[gn]? = some gs' →
      (∀ a' cp' s', Nx a' H → AC a' cp' → Inv (gblk X A' s_0 H_0 cenv fp) cp' σ H s' → tn i s'.heap → ∃ m, n = m + 1 ∧ gs'.Goes (model X.prog X.w) A.in1 (RG (gblk X A' s_0 H_0 cenv fp) AC End) (YG (gblk X A' s_0 H_0 cenv fp) fp tn AC Yd) m (.send .none) s') → Q (some v) s1)
    (done : ∀ (a : α) (σ : L2.St) (H : Hp) (cp : List (Addr × Obj)) (s1 : Shared), AC a cp → Inv (gblk X A' s_0 H_0 cenv fp) cp σ H s1 → End a H → Q none s1) :
    wpAny (model X.prog X.w) A (pyNext (.ref ga)) Q E s :=
  next_gx2 hh hroom hl hG e hgs hgo (fun a x σ H i cp Nx v s1 gs' r hac _ I st hy at_ kap => item a x σ H i cp Nx v s1 gs' r hac I st hy at_ kap) fun a σ H cp s1 hac _ I q => done a σ H cp s1 hac I q
/-- all(..) asks on -/
theorem all_gx {R : Result → Shared → Prop} {Stop : Hp → Prop} {End : Unit → Hp → Prop} (hh : A.handled = none) (hroom : A.depth < recursionLimit) (hG : GenObj go gn)
    (yes : ∀ (σ : L2.St) (H : Hp) (cp : List (Addr × Obj)) (s1 : Shared), Inv (gblk X A' s_0 H_0 cenv fp) cp σ H s1 → End () H → R (.ok (.ret (.bool true))) s1)
    (no : ∀ (σ : L2.St) (H : Hp) (cp : List (Addr × Obj)) (s1 : Shared), Inv (gblk X A' s_0 H_0 cenv fp) cp σ H s1 → Stop H → R (.ok (.ret (.bool false))) s1) :
    ∀ (n : Nat) (s : Shared), s.heap.NoLimit → s.heap.get? ga = some go → (∃ gs, s.gens[gn]? = some gs ∧ gs.Goes (model X.prog X.w) A.in1.in1 (RG (gblk X A' s_0 H_0 cenv fp) (fun _ cp => cp = [(ga, go)]) End)
      (YG (gblk X A' s_0 H_0 cenv fp) fp tn (fun _ cp => cp = [(ga, go)]) (fun _ y H Nx => ∃ b : Bool, y = .bl b ∧ if b = true then Nx () H else Stop H)) n (.send .none) (s.setGen gn .running)) →
      codeAny (model X.prog X.w) A (.builtin "all.loop" ⟨[.ref ga], []⟩) R s := by
  intro n
  induction n with
  | zero =>
    rintro s hl e ⟨gs, hgs, hgo⟩
    refine codeAny_builtin F.entry_all_loop ?_
    rw [Around.under_plainId F.plain_all_loop _]
    show wpAny _ A.in1 (pyNext (.ref ga) >>= _) _ _ s
    refine wpAny_bind (next_gx (A := A.in1) hh hroom hl hG e hgs hgo (fun a x σ H i cp Nx v s1 gs' r hac I st hy at_ kap => ?_) fun a σ H cp s1 hac I q => ?_)
    · obtain ⟨b, rfl, hb⟩ := hy
      cases (show v = Value.bool b from r)
      refine wpAny_bind (wpAny_holding (wpAny_truthy_bool ?_))
      refine wpAny_bind (wpAny_letGo ?_)
      cases b with
      | true =>
        obtain ⟨m, hm, _⟩ := kap () cp s1 hb hac I st
        cases hm
      | false =>
        simp only [Bool.false_eq_true, if_false] at hb ⊢
        exact wpAny_bind (wpAny_rule (wpAny_pure (no σ H cp s1 I hb)))
    · exact wpAny_bind (wpAny_rule (wpAny_pure (yes σ H cp s1 I q)))
  | succ n ih =>
    rintro s hl e ⟨gs, hgs, hgo⟩
    refine codeAny_builtin F.entry_all_loop ?_
    rw [Around.under_plainId F.plain_all_loop _]
    show wpAny _ A.in1 (pyNext (.ref ga) >>= _) _ _ s
    refine wpAny_bind (next_gx (A := A.in1) hh hroom hl hG e hgs hgo (fun a x σ H i cp Nx v s1 gs' r hac I st hy at_ kap => ?_) fun a σ H cp s1 hac I q => ?_)
    · obtain ⟨b, rfl, hb⟩ := hy
      cases (show v = Value.bool b from r)
      refine wpAny_bind (wpAny_holding (wpAny_truthy_bool ?_))
      refine wpAny_bind (wpAny_letGo ?_)
      cases b with
      | true =>
        simp only [if_true] at hb ⊢
        subst hac
        refine wpAny_pure ⟨plainId_quiet F.plain_all_loop _, ih s1 I.nolimit (I.pin (ga, go) (List.mem_append_right _ List.mem_cons_self)).1 ⟨gs', at_, ?_⟩⟩
        obtain ⟨m, hm, z⟩ := kap () [(ga, go)] (s1.setGen gn .running) hb rfl (inv_moved I rfl (allBare_setGen I.bare rfl) fun _ _ q => q) st
        cases hm
        exact z
      | false =>
        simp only [Bool.false_eq_true, if_false] at hb ⊢
        exact wpAny_bind (wpAny_rule (wpAny_pure (no σ H cp s1 I hb)))
    · exact wpAny_bind (wpAny_rule (wpAny_pure (yes σ H cp s1 I q)))
end
section
variable {X : Cx}
/-- all(elt for tg in iter ..) -/
def tAllX (P : Addr) (wi : TI) (g : TG) (tt : TT) (te : TE) (vs : List Nat) : TE := fun σ H Q => wi σ H fun J H1 => GxR.TabG H1 P ∧ ∀ H2, GxR.Tabbed P H1 H2 → ∃ W : Nat → Nat → Unit → Hp → Prop, (∃ m, W 0 m () H2) ∧
  tGx J g tt te (wipe σ vs) vs (fun _ H => Q (.bl true) H) (fun _ y H Nx => ∃ b : Bool, y = .bl b ∧ if b = true then Nx () H else Q (.bl false) H) W
theorem pe_allX {c P : Addr} {elt tg iter : Expr} {ifs : List Expr} {p pos gpos : Pos} {scope : Scope} {own : List (Str × Nat)} {wi : TI} {g : TG} {tt : TT} {te : TE} {k : Nat}
    (hr : Room (k + 1) X.A) (hc : X.calm = true) (hN : X.N.Nodup) (hgl : Gl X "all") (hm : X.mg "all" = none) (hb : bootBuiltins "all" = some (.builtin "all")) (TB : GxR.TabB X.base X.mg c P) (hcode : X.env.code = .ref c)
    (hco : scope.isCoroutine = false) (hdot : scope.names.lookup (".0" : Str) = some NameKind.local) (nocell : ∀ y ∈ scope.names, y.2 ≠ .cell) (ok : BlkOk X.N X.env.scope scope own) (hi : PI X tg iter wi)
    (hg : ∀ (A' : Around) (s : Shared) (H : Hp) (C : Addr) (cl : List (Str × Addr)) (code : Value) (fp : List Addr), Room k A' → A'.guards = X.A.guards → PG (gblk X A' s H (genEnv scope cl C code builtinsNs X.env) fp) tg g)
    (ht : ∀ (A' : Around) (s : Shared) (H : Hp) (C : Addr) (cl : List (Str × Addr)) (code : Value) (fp : List Addr), Room k A' → A'.guards = X.A.guards → PTs (gblk X A' s H (genEnv scope cl C code builtinsNs X.env) fp) ifs tt)
    (he : ∀ (A' : Around) (s : Shared) (H : Hp) (C : Addr) (cl : List (Str × Addr)) (code : Value) (fp : List Addr), Room k A' → A'.guards = X.A.guards → PE (gblk X A' s H (genEnv scope cl C code builtinsNs X.env) fp) elt te)
    (hs : ∀ v, genFold iter X.env v = pure v)
    (hst : starEach [.GeneratorExp elt [⟨tg, iter, ifs, 0⟩] scope gpos] X.env = (false, eval (.GeneratorExp elt [⟨tg, iter, ifs, 0⟩] scope gpos) X.env) :: starEach [] X.env := by rfl) :
    PE X (.Call (.Name "all" p) [.GeneratorExp elt [⟨tg, iter, ifs, 0⟩] scope gpos] [] pos) (tAllX P wi g tt te (own.map (·.2))) := by
  refine ⟨fun pins s σ H Q I h => ?_⟩
  refine wpAny_Call_Name_kw (ld_blt I hgl hm hb ?_)
  refine PyProof.Rows.callWith_builtin1 ?_ hst (by rfl)
  rw [hst]
  show wpAny _ _ (spliced ((false, eval (.GeneratorExp elt [⟨tg, iter, ifs, 0⟩] scope gpos) X.env) :: backTo pos (starEach [] X.env))) _ _ s
  refine Calls.spliced_cons (gx_make (A := X.A.in1.in1) hr ⟨rfl, rfl, rfl, rfl, (by show X.A.units + 1 + 1 ≤ _; omega)⟩ hc hN TB hcode hco hdot nocell ok hi hg ht he hs I h fun J H1 H2 u s5 hR hT hG => ?_)
  obtain ⟨A', s_0, H_0, cenv, fp, ga, gn, go, tn, gs, rfl, hGO, hgs, hbare, I5, st5, nf, hlt, keep, back, goes⟩ := hG
  obtain ⟨W, ⟨m, w0⟩, turn⟩ := hR H2 hT
  refine Calls.spliced_nil ?_
  have pin5 := (I5.pin (ga, go) (List.mem_append_right _ List.mem_cons_self)).1
  refine call_function_tree F.kind_all F.plain_all F.entry_all (F.args_all1 _) ?_
  unfold Builtin.«all»
  refine wpAny_bind (m := oneArg "all" _) (wpAny_pure ?_)
  refine wpAny_bind (wpAny_pyIter_gen (hGO.isGen pin5) ?_)
  refine wpAny_pure ⟨plainId_quiet F.plain_all_loop _, all_gx (A' := A') (s_0 := s_0) (H_0 := H_0) (cenv := cenv) (fp := fp) (tn := tn) (go := go) (gn := gn) (Stop := fun H => Q (.bl false) H) (End := fun _ H => Q (.bl true) H) hr.hd hr.depth hGO
    (fun σ' H' cp s1 I1 q => ⟨.bl true, H', back _ _ _ _ I1, rfl, q⟩) (fun σ' H' cp s1 I1 q => ⟨.bl false, H', back _ _ _ _ I1, rfl, q⟩) (m + 1) s5 I5.nolimit pin5 ⟨gs, hgs, ?_⟩⟩
  refine goes Unit _ _ _ W m (m + 1) () [(ga, go)] _ turn w0 (Nat.lt_succ_self _) (fun a cp hac p hp b hb z => ?_) rfl (inv_moved I5 rfl (allBare_setGen I5.bare rfl) fun _ _ q => q) st5
  subst hac
  have e : p = (ga, go) := by simpa using hp
  subst e
  exact absurd (hlt b hb) (by rw [← z]; exact Nat.lt_irrefl _)
end
/-! ### tuple(..) -/
section
variable {X : Cx} {A A' : Around} {s_0 : Shared} {H_0 : Hp} {cenv : Env} {fp : List Addr} {tn : Nat → Heap → Prop} {ga S : Addr} {gn n : Nat} {go : Obj}
/-- the asker's list S holds what is out -/
def ACl (ga : Addr) (go : Obj) (S : Addr) (ys : List V) (cp : List (Addr × Obj)) : Prop := ∃ (acc : Array Value) (c : Nat), cp = [(ga, go), (S, lstObj acc c)] ∧ Vals ys acc.toList
def YdL (ys : List V) (y : V) (H : Hp) (Nx : List V → Hp → Prop) : Prop := ys.length < sizeLine ∧ Nx (ys ++ [y]) H
theorem ext_gx {R : Result → Shared → Prop} {End : List V → Hp → Prop} {res : Value} (hh : A.handled = none) (hroom : A.depth < recursionLimit) (hG : GenObj go gn) (hSa : S ≠ ga) (far : (gblk X A' s_0 H_0 cenv fp).s_0.heap.objs.size ≤ S) (hSc : ∀ x c, cenv.cells.lookup x = some c → c ≠ S)
    (keep : ∀ i h h', tn i h → (∀ b ∈ fp, ∀ o, h.get? b = some o → h'.get? b = some o) → tn i h') (hSf : ∀ b ∈ fp, b ≠ S)
    (yes : ∀ (σ : L2.St) (H : Hp) (ys : List V) (acc : Array Value) (c : Nat) (s1 : Shared), Inv (gblk X A' s_0 H_0 cenv fp) [(ga, go), (S, lstObj acc c)] σ H s1 → Vals ys acc.toList → End ys H → R (.ok (.ret res)) s1) :
    ∀ (n : Nat) (s : Shared), s.heap.NoLimit → s.heap.get? ga = some go → (∃ gs, s.gens[gn]? = some gs ∧ gs.Goes (model X.prog X.w) A.in1.in1 (RG (gblk X A' s_0 H_0 cenv fp) (ACl ga go S) End)
      (YG (gblk X A' s_0 H_0 cenv fp) fp tn (ACl ga go S) YdL) n (.send .none) (s.setGen gn .running)) →
      codeAny (model X.prog X.w) A (.builtin "list.extend.loop" ⟨[.ref S, .ref ga, res], []⟩) R s := by
  intro n
  induction n with
  | zero =>
    rintro s hl e ⟨gs, hgs, hgo⟩
    refine codeAny_builtin F.entry_extend_loop ?_
    rw [Around.under_plainId F.plain_extend_loop _]
    show wpAny _ A.in1 (pyNext (.ref ga) >>= _) _ _ s
    refine wpAny_bind (next_gx (A := A.in1) hh hroom hl hG e hgs hgo (fun ys x σ H i cp Nx v s1 gs' r hac I st hy at_ kap => ?_) fun ys σ H cp s1 hac I q => ?_)
    · obtain ⟨acc, c, rfl, rv⟩ := hac
      have pS := I.pin (S, lstObj acc c) (List.mem_append_right _ (List.mem_cons_of_mem _ List.mem_cons_self))
      have I0 : Inv (gblk X A' s_0 H_0 cenv fp) [(ga, go)] σ H s1 := I.pins_of fun p hp => I.pin p (List.mem_append_right _ (by rw [List.mem_singleton.mp hp]; exact List.mem_cons_self))
      have I1 := I0.turned (t' := s1.toks) (h' := s1.heap.update S (Obj.mapSeq (·.push v))) (it := S) (fun b o hb q => (Heap.get?_update_other _ _ (Ne.symm hb)).trans q) pS.2.1 pS.2.2.1 (.inr far) hSc (fun p hp => by rw [List.mem_singleton.mp (show p ∈ [(ga, go)] by simpa using hp)]; exact Ne.symm hSa)
      have e2 := Heap.get?_update_self (Obj.mapSeq (·.push v)) pS.1 rfl
      obtain ⟨m, hm, _⟩ := kap (ys ++ [x]) [(ga, go), (S, _)] _ hy.2 ⟨acc.push v, _, rfl, by rw [Array.toList_push]; exact rv.append (.cons r .nil)⟩ (I1.pins_of fun p hp => by
        rcases List.mem_cons.mp hp with z | z
        · rw [z]; exact I1.pin (ga, go) (List.mem_append_right _ List.mem_cons_self)
        · rw [List.mem_singleton.mp z]; exact ⟨e2, pS.2.1, pS.2.2.1, pS.2.2.2.1, fun v q => by cases q⟩) (keep _ _ _ st fun b hb o q => (Heap.get?_update_other _ _ (Ne.symm (hSf b hb))).trans q)
      cases hm
    · obtain ⟨acc, c, rfl, rv⟩ := hac
      exact wpAny_pure (yes σ H ys acc c s1 I rv q)
  | succ n ih =>
    rintro s hl e ⟨gs, hgs, hgo⟩
    refine codeAny_builtin F.entry_extend_loop ?_
    rw [Around.under_plainId F.plain_extend_loop _]
    show wpAny _ A.in1 (pyNext (.ref ga) >>= _) _ _ s
    refine wpAny_bind (next_gx (A := A.in1) hh hroom hl hG e hgs hgo (fun ys x σ H i cp Nx v s1 gs' r hac I st hy at_ kap => ?_) fun ys σ H cp s1 hac I q => ?_)
    · obtain ⟨acc, c, rfl, rv⟩ := hac
      have pS := I.pin (S, lstObj acc c) (List.mem_append_right _ (List.mem_cons_of_mem _ List.mem_cons_self))
      have I0 : Inv (gblk X A' s_0 H_0 cenv fp) [(ga, go)] σ H s1 := I.pins_of fun p hp => I.pin p (List.mem_append_right _ (by rw [List.mem_singleton.mp hp]; exact List.mem_cons_self))
      have I1 := I0.turned (t' := s1.toks) (h' := s1.heap.update S (Obj.mapSeq (·.push v))) (it := S) (fun b o hb q => (Heap.get?_update_other _ _ (Ne.symm hb)).trans q) pS.2.1 pS.2.2.1 (.inr far) hSc (fun p hp => by rw [List.mem_singleton.mp (show p ∈ [(ga, go)] by simpa using hp)]; exact Ne.symm hSa)
      have e2 := Heap.get?_update_self (Obj.mapSeq (·.push v)) pS.1 rfl
      have hln := rv.length
      have hlt : acc.size < sizeLine := by
        have := hy.1
        rw [hln] at this
        simpa using this
      have pG := I1.pin (ga, go) (List.mem_append_right _ List.mem_cons_self)
      show wpAny _ A.in1 (updateSeq S (·.push v) >>= _) _ _ _
      refine wpAny_bind ?_
      refine wpAny_updateSeq pS.1 rfl (wpAny_pure ⟨plainId_quiet F.plain_extend_loop _, ih _ I1.nolimit pG.1 ⟨gs', at_, ?_⟩⟩) (Nat.le_of_lt hlt) (by show (acc.push v).size ≤ sizeLine + 1; rw [Array.size_push]; omega)
      obtain ⟨m, hm, z⟩ := kap (ys ++ [x]) [(ga, go), (S, _)] (({ s1 with heap := s1.heap.update S (Obj.mapSeq (·.push v)) } : Shared).setGen gn .running) hy.2 ⟨acc.push v, _, rfl, by rw [Array.toList_push]; exact rv.append (.cons r .nil)⟩ (inv_moved (I1.pins_of fun p hp => by
        rcases List.mem_cons.mp hp with z | z
        · rw [z]; exact pG
        · rw [List.mem_singleton.mp z]; exact ⟨e2, pS.2.1, pS.2.2.1, pS.2.2.2.1, fun v q => by cases q⟩) rfl (allBare_setGen (s := { s1 with heap := s1.heap.update S (Obj.mapSeq (·.push v)) }) I1.bare rfl) fun _ _ q => q) (keep _ _ _ st fun b hb o q => (Heap.get?_update_other _ _ (Ne.symm (hSf b hb))).trans q)
      cases hm
      exact z
    · obtain ⟨acc, c, rfl, rv⟩ := hac
      exact wpAny_pure (yes σ H ys acc c s1 I rv q)
end
section
variable {X : Cx} {pins : List (Addr × Obj)} {σ : L2.St} {s5 : Shared} {J : It} {g : TG} {tt : TT} {te : TE} {vs : List Nat} {H4 : Hp} {u : Value}
/-- all that a generator hands out, in a list of the asker's own -/
theorem collect_gx {A : Around} {E : Value → Shared → Prop} {Q : List Value → Shared → Prop} {End : List V → Hp → Prop} {W : Nat → Nat → List V → Hp → Prop} {m : Nat} (hh : A.handled = none) (hroom : A.depth < recursionLimit) (G : Gx X pins σ A.in1.in1 J g tt te vs H4 u s5)
    (w0 : W 0 m [] H4) (turn : tGx J g tt te (wipe σ vs) vs End YdL W)
    (hQ : ∀ (s' : Shared) (acc : Array Value) (ys : List V) (H' : Hp), Inv X pins σ H' s' → Vals ys acc.toList → End ys H' → Q acc.toList s') : wpAny (model X.prog X.w) A (collect u) Q E s5 := by
  obtain ⟨A', s_0, H_0, cenv, fp, ga, gn, go, tn, gs, rfl, hGO, hgs, hbare, I5, st5, nf, hlt, keep, back, goes⟩ := G
  have pin5 := I5.pin (ga, go) (List.mem_append_right _ List.mem_cons_self)
  have glt : ga < s5.heap.objs.size := Heap.lt_size pin5.1
  have hSI : s5.heap.objs.size ≠ ga := Nat.ne_of_gt glt
  unfold collect
  refine wpAny_bind (wpAny_runValue (codeAny_builtin F.entry_proto_collect ?_))
  rw [Around.under_plainId F.plain_proto_collect _]
  show wpAny _ A.in1 (newList [] >>= fun l => again (.builtin "list.__iadd__" ⟨[l, .ref ga], []⟩)) _ _ s5
  refine wpAny_bind (wpAny_newObj_type ?_)
  refine wpAny_pure ⟨plainId_quiet F.plain_list_iadd _, codeAny_builtin F.entry_list_iadd ?_⟩
  rw [Around.under_plainId F.plain_list_iadd _]
  show wpAny _ A.in1 (Builtin.List.listExtendWith (.ref s5.heap.objs.size) (.ref ga) (.ref s5.heap.objs.size)) _ _ _
  unfold Builtin.List.listExtendWith
  have k1 : ∀ b o, s5.heap.get? b = some o → (s5.heap.push { cls := .type "list", data := .seq ([] : List Value).toArray }).get? b = some o := fun b o e => Heap.get?_push_of_some _ e
  have hT : Shared.TypeIs { s5 with heap := s5.heap.push { cls := .type "list", data := .seq ([] : List Value).toArray } } (.ref ga) "generator" := Heap.IsGen.typeIs (s := { s5 with heap := _ }) (hGO.isGen (k1 _ _ pin5.1))
  refine wpAny_bind (wpAny_typeOf hT ?_)
  have h1 : Builtin.List.listSameRef (.ref s5.heap.objs.size) (.ref ga) = false := by simp [Builtin.List.listSameRef, hSI]
  have h2 : (Value.type "generator" == Value.type "list") = false := by decide
  have h3 : (Value.type "generator" == Value.type "tuple") = false := by decide
  simp only [h1, h2, h3, Bool.or_false, Bool.false_eq_true, if_false]
  refine wpAny_bind (wpAny_pyIter_gen (s := { s5 with heap := _ }) (hGO.isGen (k1 _ _ pin5.1)) ?_)
  refine wpAny_bind (wpAny_holding ?_)
  unfold Builtin.List.listLengthHint
  refine wpAny_bind (wpAny_specialOf hT F.gen_no_len ?_)
  show wpAny _ A.in1 (specialOf (Value.ref ga) (Str.ofString "__length_hint__") >>= _) _ _ _
  refine wpAny_bind (wpAny_specialOf hT F.gen_no_hint ?_)
  refine wpAny_pure ?_
  show wpAny _ A.in1 (rule "list.extend.makes-room" >>= fun _ => Builtin.List.listTouch (.ref s5.heap.objs.size) >>= fun _ =>
    again (.builtin "list.extend.loop" ⟨[.ref s5.heap.objs.size, .ref ga, .ref s5.heap.objs.size], []⟩)) _ _ _
  refine wpAny_bind (wpAny_rule ?_)
  have hS₁ : (s5.heap.push { cls := .type "list", data := .seq ([] : List Value).toArray }).get? s5.heap.objs.size = some { cls := .type "list", data := .seq ([] : List Value).toArray } := Heap.get?_push_size _ rfl
  refine wpAny_bind ?_
  show wpAny _ A.in1 (updateSeq s5.heap.objs.size (·.push .none) >>= fun _ => updateSeq s5.heap.objs.size (·.pop)) _ _ _
  refine wpAny_bind (wpAny_updateSeq hS₁ rfl ?_)
  have hS₂ := Heap.get?_update_self (Obj.mapSeq (·.push Value.none)) hS₁ rfl
  refine wpAny_updateSeq hS₂ rfl ?_
  have hS₃ := Heap.get?_update_self (Obj.mapSeq (·.pop)) hS₂ rfl
  obtain ⟨c3, hS₄⟩ : ∃ c, (((s5.heap.push { cls := .type "list", data := .seq ([] : List Value).toArray }).update s5.heap.objs.size (Obj.mapSeq (·.push Value.none))).update s5.heap.objs.size (Obj.mapSeq (·.pop))).get? s5.heap.objs.size = some (lstObj #[] c) := ⟨_, hS₃⟩
  have k3 : ∀ b o, s5.heap.get? b = some o → (((s5.heap.push { cls := .type "list", data := .seq ([] : List Value).toArray }).update s5.heap.objs.size (Obj.mapSeq (·.push Value.none))).update s5.heap.objs.size (Obj.mapSeq (·.pop))).get? b = some o :=
    fun b o e => (Heap.get?_update_other _ _ (Ne.symm (Nat.ne_of_lt (Heap.lt_size e)))).trans ((Heap.get?_update_other _ _ (Ne.symm (Nat.ne_of_lt (Heap.lt_size e)))).trans (k1 b o e))
  have fS : FpOk (gblk X A' s_0 H_0 cenv fp) [(ga, go)] H4 s5.heap.objs.size := I5.fpOk (Nat.le_refl _) (I5.hok.fresh (Nat.le_refl _))
  have hfS : ∀ b ∈ fp, b ≠ s5.heap.objs.size := fun b hb => Nat.ne_of_lt (Nat.lt_trans (hlt b hb) glt)
  have I6 := inv_moved (s' := { s5 with heap := ((s5.heap.push { cls := .type "list", data := .seq ([] : List Value).toArray }).update s5.heap.objs.size (Obj.mapSeq (·.push Value.none))).update s5.heap.objs.size (Obj.mapSeq (·.pop)) }) I5 rfl I5.bare k3
  refine wpAny_pure ⟨plainId_quiet F.plain_extend_loop _, ext_gx (A := A) (A' := A') (s_0 := s_0) (H_0 := H_0) (cenv := cenv) (fp := fp) (tn := tn) (go := go) (gn := gn) (End := End) hh hroom hGO hSI ?_ fS.2.2.2.2.1 keep hfS
    (fun σ' H' ys acc c s1 I1 rv q => ?_) (m + 1) _ I6.nolimit (k3 _ _ pin5.1) ⟨gs, hgs, ?_⟩⟩
  · exact Nat.le_trans I5.sz (Nat.le_refl _)
  · show wpAny _ A (load s5.heap.objs.size >>= _) _ _ s1
    have pS := (I1.pin (s5.heap.objs.size, lstObj acc c) (List.mem_append_right _ (List.mem_cons_of_mem _ List.mem_cons_self))).1
    refine wpAny_bind (wpAny_load pS ?_)
    exact wpAny_pure (hQ s1 acc ys H' (back _ _ _ _ I1) rv q)
  · refine goes (List V) (ACl ga go s5.heap.objs.size) End YdL W m (m + 1) [] [(ga, go), (s5.heap.objs.size, lstObj #[] c3)] _ turn w0 (Nat.lt_succ_self _) (fun ys cp hac p hp b hb z => ?_) ⟨#[], c3, rfl, .nil⟩
      (inv_moved (I6.pins_of fun p hp => ?_) rfl (allBare_setGen (s := { s5 with heap := _ }) I5.bare rfl) fun _ _ q => q) (keep _ _ _ st5 fun b hb o q => k3 b o q)
    · obtain ⟨acc, c, rfl, _⟩ := hac
      rcases List.mem_cons.mp hp with e | e
      · rw [e] at z
        exact absurd (hlt b hb) (by rw [← z]; exact Nat.lt_irrefl _)
      · rw [List.mem_singleton.mp e] at z
        exact hfS b hb z.symm
    · rcases List.mem_cons.mp hp with e | e
      · rw [e]
        exact I6.pin (ga, go) (List.mem_append_right _ List.mem_cons_self)
      · rw [List.mem_singleton.mp e]
        exact ⟨hS₄, fS.1, fS.2.1, fS.2.2.1, fun v q => by cases q⟩
end
section
variable {X : Cx}
/-- tuple(elt for tg in iter ..) -/
def tTupX (P : Addr) (wi : TI) (g : TG) (tt : TT) (te : TE) (vs : List Nat) : TE := fun σ H Q => wi σ H fun J H1 => GxR.TabG H1 P ∧ ∀ H2, GxR.Tabbed P H1 H2 → ∃ W : Nat → Nat → List V → Hp → Prop, (∃ m, W 0 m [] H2) ∧
  tGx J g tt te (wipe σ vs) vs (fun ys H => ys.length ≤ sizeLine ∧ ∀ p, H p = none → Q (.ref p) (upd H p (.tup ys))) YdL W
theorem pe_tupX {c P : Addr} {elt tg iter : Expr} {ifs : List Expr} {p pos gpos : Pos} {scope : Scope} {own : List (Str × Nat)} {wi : TI} {g : TG} {tt : TT} {te : TE} {k : Nat}
    (hr : Room (k + 1) X.A) (hc : X.calm = true) (hN : X.N.Nodup) (hgl : Gl X "tuple") (hm : X.mg "tuple" = none) (hb : bootBuiltins "tuple" = some (.type "tuple")) (TB : GxR.TabB X.base X.mg c P) (hcode : X.env.code = .ref c)
    (hco : scope.isCoroutine = false) (hdot : scope.names.lookup (".0" : Str) = some NameKind.local) (nocell : ∀ y ∈ scope.names, y.2 ≠ .cell) (ok : BlkOk X.N X.env.scope scope own) (hi : PI X tg iter wi)
    (hg : ∀ (A' : Around) (s : Shared) (H : Hp) (C : Addr) (cl : List (Str × Addr)) (code : Value) (fp : List Addr), Room k A' → A'.guards = X.A.guards → PG (gblk X A' s H (genEnv scope cl C code builtinsNs X.env) fp) tg g)
    (ht : ∀ (A' : Around) (s : Shared) (H : Hp) (C : Addr) (cl : List (Str × Addr)) (code : Value) (fp : List Addr), Room k A' → A'.guards = X.A.guards → PTs (gblk X A' s H (genEnv scope cl C code builtinsNs X.env) fp) ifs tt)
    (he : ∀ (A' : Around) (s : Shared) (H : Hp) (C : Addr) (cl : List (Str × Addr)) (code : Value) (fp : List Addr), Room k A' → A'.guards = X.A.guards → PE (gblk X A' s H (genEnv scope cl C code builtinsNs X.env) fp) elt te)
    (hs : ∀ v, genFold iter X.env v = pure v)
    (hst : starEach [.GeneratorExp elt [⟨tg, iter, ifs, 0⟩] scope gpos] X.env = (false, eval (.GeneratorExp elt [⟨tg, iter, ifs, 0⟩] scope gpos) X.env) :: starEach [] X.env := by rfl) :
    PE X (.Call (.Name "tuple" p) [.GeneratorExp elt [⟨tg, iter, ifs, 0⟩] scope gpos] [] pos) (tTupX P wi g tt te (own.map (·.2))) := by
  refine ⟨fun pins s σ H Q I h => ?_⟩
  refine wpAny_Call_Name_kw (ld_blt I hgl hm hb ?_)
  refine PyProof.Rows.callWith_type1 ?_ hst (by rfl)
  rw [hst]
  show wpAny _ _ (spliced ((false, eval (.GeneratorExp elt [⟨tg, iter, ifs, 0⟩] scope gpos) X.env) :: backTo pos (starEach [] X.env))) _ _ s
  refine Calls.spliced_cons (gx_make (A := X.A.in1.in1.in1.in1) hr ⟨rfl, rfl, rfl, rfl, (by show X.A.units + 1 + 1 + 1 + 1 ≤ _; omega)⟩ hc hN TB hcode hco hdot nocell ok hi hg ht he hs I h fun J H1 H2 u s5 hR hT hG => ?_)
  obtain ⟨W, ⟨m, w0⟩, turn⟩ := hR H2 hT
  refine Calls.spliced_nil ?_
  have ⟨A', s_0, H_0, cenv, fp, ga, gn, go, tn, gs, eu, hGO, hgs, hbare, I5, st5, nf, hlt, keep, back, goes⟩ := hG
  have pin5 := (I5.pin (ga, go) (List.mem_append_right _ List.mem_cons_self)).1
  rw [eu] at hG ⊢
  refine callType_codes (Q₁ := fun obj s₁ => s₁.TypeIs obj "tuple" ∧ EP X pins σ Q obj s₁) F.called_tuple (F.typeCall_tuple_1 _) F.entry_object_init ?_ fun obj s₁ h₁ =>
    ⟨h₁.1, F.args_object_init_2 obj _, object_init_meets F.called_tuple.init.lookup F.called_tuple.made (by decide) X.prog X.w X.A.in1 _ s₁ ⟨h₁.1, rfl, h₁.2⟩⟩
  refine codeAny_of_tree ?_
  show wpAny _ X.A.in1.in1 (do checkBuiltinCall "tuple.__new__" ⟨[.type "tuple", .ref ga], []⟩; again (.builtin "tuple.__new__" ⟨[.type "tuple", .ref ga], []⟩)) _ _ s5
  refine wpAny_bind (wpAny_of_eq (F.newCall_tuple_1 _) (wpAny_pure ⟨plainId_quiet F.plain_tuple_new _, codeAny_builtin F.entry_tuple_new ?_⟩))
  rw [Around.under_plainId F.plain_tuple_new _]
  have hsub := sub_tuple_self
  have hinit := init_tuple_lookup
  have hmh := madeHere_tuple
  have hTI : s5.TypeIs (.ref ga) "generator" := (hGO.isGen pin5).typeIs
  have col : ∀ {Q0 : List Value → Shared → Prop} {E0 : Value → Shared → Prop}, (∀ (s' : Shared) (acc : Array Value), (∃ (ys : List V) (H' : Hp), Inv X pins σ H' s' ∧ Vals ys acc.toList ∧ ys.length ≤ sizeLine ∧ ∀ p, H' p = none → Q (.ref p) (upd H' p (.tup ys))) → Q0 acc.toList s') →
      wpAny (model X.prog X.w) X.A.in1.in1 (collect (.ref ga)) Q0 E0 s5 := fun hq => collect_gx hr.hd hr.depth hG w0 turn (fun s' acc ys H' I' rv q => hq s' acc ⟨ys, H', I', rv, q.1, q.2⟩)
  wp_walk using wpAny_typeOf hTI, col
  rintro s' acc ⟨ys, H', I', rv, small, q⟩
  show wpAny _ _ (Builtin.Tuple.tupleExact acc.toList.toArray >>= fun v => ret v) _ _ _
  unfold Builtin.Tuple.tupleExact
  refine wpAny_bind (wpAny_newObj_type ?_ (by show acc.toList.toArray.size ≤ sizeLine; rw [List.size_toArray, ← rv.length]; exact small))
  refine wpAny_pure ?_
  have free : H' s'.heap.objs.size = none := I'.hok.fresh (Nat.le_refl _)
  refine ⟨⟨_, Heap.get?_push_size _ rfl, rfl⟩, .ref s'.heap.objs.size, upd H' s'.heap.objs.size (.tup ys), I'.laid (t' := s'.toks) (fun b u z => Heap.get?_push_of_some _ z) (Nat.le_refl _) ⟨small, acc.toList, rv, ?_⟩, rfl, q _ free⟩
  exact ⟨_, Heap.get?_push_size _ rfl, rfl, 0, rfl⟩
end
/-! ### a def by its body, its code object known -/
theorem okC {P : Program} {w : World} {K : PySem.W.Frag} {mg : Str → Option Value} {base : Heap} {x qual : Str} {st : Stmt} {f : Addr} {fd : FuncData} {N ps : List Str} {k : Nat} {sp : Sp} (F : Fun K x qual st f fd) (S : FnScope N ps (defScope st)) (len : ∀ vs H Q E, sp vs H Q E → vs.length = ps.length)
    (body : ∀ (A : Around) (outer : List Env) (s : Shared) (H : Hp) (vs : List V) (Q : VK) (E : XK), Room k (A.deeper (envOfC qual (defScope st) s.heap.objs.size f fd.code)) → sp vs H Q E →
      ∃ t, PSs (cxOf CX0 P w K mg base N qual (defScope st) f fd.code A outer s H E).nox (defBody st) t ∧ t { nx := fun _ H' => Q .non H', rt := Q } (start N vs) H) : FnOk P w K mg base CX0 (k + 1) f fd ps sp := by
  obtain ⟨oc, od, kV, doc, pm, an, cdv, ct, osl, rfl, lk, hcd⟩ := F.ex
  refine fn_of lk hcd S len fun A outer s H vs Q E hr hsp => ?_
  obtain ⟨t, h, q⟩ := body A outer s H vs Q E hr hsp
  exact ⟨t, h.nox, q⟩
/-! ### from the head's facts -/
theorem fun_of {K : PySem.W.Frag} {x qual : Str} {st : Stmt} {f : Addr} {fd : FuncData} (F : FunD K x qual (defArgs st) (defBody st) (defScope st) [] [] f fd) : Fun K x qual st f fd := by
  obtain ⟨oc, od, dV, kV, doc, pm, an, cdv, ct, osl, rfl, lk, hcd, hd, _⟩ := F.ex
  rcases hd with ⟨_, rfl⟩ | ⟨z, _⟩
  · exact ⟨⟨oc, od, kV, doc, pm, an, cdv, ct, osl, rfl, lk, hcd⟩, F.kp⟩
  · exact absurd rfl z
theorem code_of {K : PySem.W.Frag} {x qual : Str} {st : Stmt} {p : He.Defn} {fd : FuncData} (F : Fun K x qual st (He.fAd K p) fd) : fd.code = .ref (He.cT K p).1 := by
  obtain ⟨oc, od, kV, doc, pm, an, cdv, ct, osl, rfl, lk, hcd⟩ := F.ex
  obtain ⟨c, rfl⟩ := He.codeIn_ref hcd
  show Value.ref c = Value.ref (He.codeOf K p)
  rw [He.codeOf_eq lk rfl]
theorem tab_of {base : Heap} {mg : Str → Option Value} {c P : Addr} (h : LamX.TabB base mg c P) : GxR.TabB base mg c P := ⟨h.code, h.bm, h.gP⟩
/-! ### heaps whose tables grow -/
def Tabs (H : Hp) (Ps : List Addr) : Prop := ∀ P ∈ Ps, GxR.TabG H P
/-- what is no table stays; tables stay tables -/
def Gr (H H' : Hp) : Prop := (∀ b o, (∀ ps, o ≠ HO.tbl ps) → H b = some o → H' b = some o) ∧ ∀ b, GxR.TabG H b → GxR.TabG H' b
theorem Gr.refl {H : Hp} : Gr H H := ⟨fun _ _ _ e => e, fun _ e => e⟩
theorem Gr.trans {H H1 H2 : Hp} (a : Gr H H1) (b : Gr H1 H2) : Gr H H2 := ⟨fun c o n e => b.1 c o n (a.1 c o n e), fun c e => b.2 c (a.2 c e)⟩
theorem Gr.of {H H' : Hp} (h : ∀ b o, H b = some o → H' b = some o) : Gr H H' := ⟨fun b o _ e => h b o e, fun b ⟨ps, e, t⟩ => ⟨ps, h _ _ e, t⟩⟩
theorem Gr.tab {P : Addr} {H H' : Hp} (t : GxR.TabG H P) (h : GxR.Tabbed P H H') : Gr H H' := by
  obtain ⟨ps, e, _⟩ := t
  refine ⟨fun b o n q => ?_, fun b q => ?_⟩
  · by_cases hb : b = P
    · rw [hb, e] at q
      exact absurd (Option.some.inj q).symm (n ps)
    · rw [h.2 b hb]; exact q
  · by_cases hb : b = P
    · rw [hb]; exact h.1
    · obtain ⟨ps', e', t'⟩ := q
      exact ⟨ps', by rw [h.2 b hb]; exact e', t'⟩
theorem Gr.tup {H H' : Hp} (g : Gr H H') {a : Addr} {xs : List V} (h : H a = some (.tup xs)) : H' a = some (.tup xs) := g.1 a _ (fun _ z => by cases z) h
theorem Gr.lst {H H' : Hp} (g : Gr H H') {a : Addr} {xs : List V} (h : H a = some (.lst xs)) : H' a = some (.lst xs) := g.1 a _ (fun _ z => by cases z) h
theorem Gr.tabs {H H' : Hp} (g : Gr H H') {Ps : List Addr} (h : Tabs H Ps) : Tabs H' Ps := fun P hP => g.2 P (h P hP)
theorem Gr.none {H : Hp} {a : Addr} {o : HO} (n : H a = Option.none) : Gr H (upd H a o) := Gr.of fun b u e => by
  rw [upd_ne (ne_of_none e n)]
  exact e
namespace CwR
/-- behind it a token is out -/
def PEp (X : Cx) (e : Expr) (t : TE) : Prop := ∀ (pins : List (Addr × Obj)) (s : Shared) (σ : L2.St) (H : Hp) (Q : VK), Inv X pins σ H s → t σ H Q → wpAny (model X.prog X.w) X.A (eval e X.env) (fun u s' => 1 ≤ s'.toks ∧ EP X pins σ Q u s') X.xe s
theorem pep_ix {X : Cx} {a : Expr} {i : Int} {j : Nat} {p pos : Pos} {ta : TE} {r : R2} (hr : IxR X r) (ha : PE X a ta) (hs : PlainIx (.Constant (.int i) j p)) : PEp X (.Subscript a (.Constant (.int i) j p) pos) (tOp r ta (tC (.int i))) := by
  intro pins s σ H Q I h
  refine Subscript_ (thn (ha.run pins s σ H _ I h) fun v s1 ⟨x, H1, I1, r1, q1⟩ => wpAny_Constant_int ?_)
  refine wpAny_mono (PySem.wpAny_toks (hr a _ pins { s1 with toks := s1.toks + 1 } σ H1 x (.int i) v (.int i s1.toks) Q (I1.tok _) r1 ⟨_, rfl⟩ q1 (hs _ _))) (fun u s2 q => ⟨?_, q.2⟩) fun _ _ z => z.2
  have h1 : s1.toks + 1 ≤ s2.toks := q.1
  omega
theorem pep_repl {X : Cx} {o : Expr} {to : TE} {y z : Str} {j k : Nat} {c0 c1 apos pos : Pos} (ho : PEp X o to) (hyz : (y == z) = false := by decide)
    (hst : starEach [.Constant (.str y) j c0, .Constant (.str z) k c1] X.env = [(false, eval (.Constant (.str y) j c0) X.env), (false, eval (.Constant (.str z) k c1) X.env)] := by rfl)
    (hbase : attributeBase o "replace" X.env (eval o X.env) = eval o X.env := by rfl) (hline : (apos.endLine == pos.line) = true := by rfl) :
    PEp X (.Call (.Attribute o "replace" apos) [.Constant (.str y) j c0, .Constant (.str z) k c1] [] pos) (CwR.tReplC to y z) := by
  intro pins s σ H Q I h
  refine PySem.Call_method2 hbase hst hline (wpAny_mono (ho pins s σ H _ I h) (fun v s1 q => ?_) fun _ _ z => z)
  obtain ⟨hk, v', H1, I1, r1, x, e1, hb, q⟩ := q
  subst e1
  obtain ⟨tx, e2⟩ := r1
  subst e2
  refine ⟨"str", _, PySem.F.plainAttrs_str, PySem.F.slot_str_replace, PySem.F.type_str_replace, typeIs_str _ _ _, (fun _ e => nomatch e), Calls.callWith_builtin rfl (Calls.evalArgs_plain (Calls.spliced_cons ?_))⟩
  refine Calls.Constant_str (Calls.spliced_cons (Calls.Constant_str (Calls.spliced_nil ?_)))
  refine wpAny_mono (PySem.wpAny_toks (PySem.SC.replace (Q := fun u s' => EP X pins σ Q u s') (by show s1.toks ≠ 0; omega) (by show s1.toks + 1 ≠ 0; omega) (by show s1.toks ≠ s1.toks + 1; omega) hyz hb fun t' k => ⟨.str (Txt.replace x y z), H1, I1.tok k, ⟨t', rfl⟩, q⟩)) (fun u s2 q => ⟨?_, q.2⟩) fun _ _ z => z.2
  have h1 : s1.toks + 1 + 1 ≤ s2.toks := q.1
  omega
theorem pe_replP {X : Cx} {e : Expr} {t : TE} (h : PEp X e t) : PE X e t := ⟨fun pins s σ H Q I q => wpAny_mono (h pins s σ H Q I q) (fun _ _ z => z.2) fun _ _ z => z⟩
end CwR

/-! ### heaps -/
theorem same_upd {H : Hp} {p : Addr} {o : HO} (h : H p = none) : Same H (upd H p o) := fun b x e => by
  rw [upd_ne (ne_of_none e h)]
  exact e
def Fr (d l : Addr) (H H' : Hp) : Prop := ∀ b o, b ≠ d → b ≠ l → H b = some o → H' b = some o
theorem Fr.trans {d l : Addr} {H H1 H2 : Hp} (a : Fr d l H H1) (b : Fr d l H1 H2) : Fr d l H H2 := fun c o h1 h2 h => b c o h1 h2 (a c o h1 h2 h)
theorem Fr.refl {d l : Addr} {H : Hp} : Fr d l H H := fun _ _ _ _ h => h
theorem Fr.new {d l p : Addr} {H : Hp} {o : HO} (h : H p = none) : Fr d l H (upd H p o) := fun b x _ _ e => same_upd h b x e
theorem Fr.of {d l : Addr} {H H' : Hp} (h : Same H H') : Fr d l H H' := fun b x _ _ e => h b x e
theorem Fr.d {d l : Addr} {H : Hp} {o : HO} : Fr d l H (upd H d o) := fun b x h1 _ e => by rw [upd_ne h1]; exact e
theorem Fr.l {d l : Addr} {H : Hp} {o : HO} : Fr d l H (upd H l o) := fun b x _ h2 e => by rw [upd_ne h2]; exact e
def Deck (H : Hp) (d l : Addr) : Prop := d ≠ l ∧ ∃ (cs : List Int) (z : Int), H d = some (.lst [.ref l, .int z]) ∧ H l = some (.lst (cs.map V.int)) ∧ cs.length ≤ 63 ∧ 0 ≤ z ∧ z < 4294967296
theorem Deck.same {H H' : Hp} {d l : Addr} (D : Deck H d l) (s : Same H H') : Deck H' d l := by
  obtain ⟨ne, cs, z, hd, hl, r⟩ := D
  exact ⟨ne, cs, z, s _ _ hd, s _ _ hl, r⟩
theorem Deck.new {H : Hp} {d l p : Addr} {o : HO} (D : Deck H d l) (h : H p = none) : Deck (upd H p o) d l := D.same (same_upd h)
theorem Deck.ne_new {H : Hp} {d l p : Addr} (D : Deck H d l) (h : H p = none) : p ≠ d ∧ p ≠ l := by
  obtain ⟨ne, cs, z, hd, hl, r⟩ := D
  exact ⟨(ne_of_none hd h).symm, (ne_of_none hl h).symm⟩
theorem p29 : (0 : Int) < 2147483629 := by decide
theorem p47 : (0 : Int) < 2147483647 := by decide
theorem p87 : (0 : Int) < 2147483587 := by decide
theorem sl1 : 1 ≤ sizeLine := by decide
theorem sl2 : 2 ≤ sizeLine := by decide
theorem sl3 : 3 ≤ sizeLine := by decide
theorem sl4 : 4 ≤ sizeLine := by decide
theorem seqIx0 {α : Type} (x : α) (xs : List α) : seqIndex? 0 (x :: xs).length = some 0 := by
  refine (ixN_seq (n := (x :: xs).length) (i := 0) (j := 0) ?_).1
  unfold ixN
  rw [if_pos (by decide), if_pos (by rw [List.length_cons]; omega)]
  rfl
theorem dpInts {K : PySem.W.Frag} {H : Hp} : ∀ cs : List Int, DpAll K H (cs.map V.int) (cs.map PyData.int)
  | [] => .nil
  | c :: r => .cons (.int c) (dpInts r)
theorem shInts (ns : List Int) : SeqAt.shaped (.list (ns.map PyData.int)) = true := by
  unfold SeqAt.shaped
  rw [Bool.and_eq_true]
  refine ⟨?_, ?_⟩
  · simp only [PyData.canLay0, canLayAll_ints]
  · simp only [PyData.depth, depthAll_ints]
    decide
theorem at_pick {xs : List V} {j : Int} (h0 : 0 ≤ j) (h1 : j < xs.length) : ∃ x, atI xs j = some x ∧ x ∈ xs := by
  obtain ⟨k, rfl⟩ : ∃ k : Nat, j = (k : Int) := ⟨j.toNat, (Int.toNat_of_nonneg h0).symm⟩
  have hk : k < xs.length := by omega
  exact ⟨xs[k], atI_nat (List.getElem?_eq_getElem hk), List.getElem_mem hk⟩
theorem units65 {k : Nat} {A : Around} (r : Room k A) : A.units + 65 < cLine := by have := r.un; omega
def rLenK (K : PySem.W.Frag) : List V → Hp → VK → Prop := fun xs H Q => ∃ p ys, xs = [.ref p] ∧ (SqL K H p ys ∨ SqT K H p ys) ∧ Q (.int ys.length) H
def rTupK (K : PySem.W.Frag) : List V → Hp → VK → Prop := fun xs H Q => ∃ p ys, xs = [.ref p] ∧ ((SqL K H p ys ∧ ∀ l, H l = none → Q (.ref l) (upd H l (.tup ys))) ∨ (SqT K H p ys ∧ Q (.ref p) H))
def rLstK (K : PySem.W.Frag) : List V → Hp → VK → Prop := fun xs H Q => ∃ p ys, xs = [.ref p] ∧ (SqL K H p ys ∨ SqT K H p ys) ∧ ∀ l, H l = none → Q (.ref l) (upd H l (.lst ys))
/-- joining ways behind a test, behind an expression -/
def tCutT (t : TT) : TT := fun σ H Q => ∃ Mid : Bool → Hp → Prop, t σ H Mid ∧ ∀ b H1, Mid b H1 → Q b H1
theorem pt_cut {X : Cx} {e : Expr} {t : TT} (h : PT X e t) : PT X e (tCutT t) := ⟨fun pins s σ H Q I hw => by
  obtain ⟨Mid, h1, q⟩ := hw
  exact thn (h.run pins s σ H _ I h1) fun c s1 ⟨H1, I1, m⟩ => ⟨H1, I1, q _ _ m⟩⟩
def tCutE (t : TE) : TE := fun σ H Q => ∃ Mid : VK, t σ H Mid ∧ ∀ v H1, Mid v H1 → Q v H1
theorem pe_cut {X : Cx} {e : Expr} {t : TE} (h : PE X e t) : PE X e (tCutE t) := ⟨fun pins s σ H Q I hw => by
  obtain ⟨Mid, h1, q⟩ := hw
  exact thn (h.run pins s σ H _ I h1) fun u s1 ⟨v, H1, I1, r, m⟩ => ⟨v, H1, I1, r, q _ _ m⟩⟩

/-! ### defs called where nothing is being shown (so that repr tells what stands there) -/
structure FnG (P : Program) (w : World) (K : PySem.W.Frag) (mg : Str → Option Value) (bs : Heap) (CX : CXT) (k : Nat) (f : Addr) (fd : FuncData) (ps : List Str) (sp : Sp) : Prop where
  many : ∀ vs H Q E, sp vs H Q E → vs.length = ps.length
  go : ∀ A : Around, A.guards = some [] → Room k A → ∀ (fr : List Env) (s : Shared) (H : Hp) (ar : Args) (us : List Value) (vs : List V) (Q : VK) (E : XK), Env0 P w K mg bs A fr s H → BindsTo s fd ar (ps.zip us) → Vals vs us → sp vs H Q E → codeAny (model P w) A (.call (.ref f) ar) (CR CX fr P w H s Q E) s
theorem FnG.of {P : Program} {w : World} {K : PySem.W.Frag} {mg : Str → Option Value} {bs : Heap} {CX : CXT} {k : Nat} {f : Addr} {fd : FuncData} {ps : List Str} {sp : Sp} (F : FnOk P w K mg bs CX k f fd ps sp) : FnG P w K mg bs CX k f fd ps sp :=
  ⟨F.len, fun A _ room fr s H ar us vs Q E e0 b r h => F.run A fr s H ar us vs Q E room e0 b r h⟩
theorem okG {CX : CXT} {P : Program} {w : World} {K : PySem.W.Frag} {mg : Str → Option Value} {bs : Heap} {x qual : Str} {st : Stmt} {f : Addr} {fd : FuncData} {N ps : List Str} {k : Nat} {sp : Sp} (F : Fun K x qual st f fd) (S : FnScope N ps (defScope st))
    (many : ∀ vs H Q E, sp vs H Q E → vs.length = ps.length)
    (body : ∀ (cdv : Value) (A : Around) (fr : List Env) (s : Shared) (H : Hp) (vs : List V) (Q : VK) (E : XK), A.guards = some [] → Room k (A.deeper (envOfC qual (defScope st) s.heap.objs.size f cdv)) → sp vs H Q E →
      ∃ t, PSs (cxOf CX P w K mg bs N qual (defScope st) f cdv A fr s H E) (defBody st) t ∧ t ⟨fun _ H' => Q .non H', Q, fun _ _ => False, fun _ _ => False⟩ (start N vs) H) : FnG P w K mg bs CX (k + 1) f fd ps sp := by
  obtain ⟨oc, od, kV, doc, pm, an, cdv, ct, osl, rfl, lk, code⟩ := F.ex
  refine ⟨many, fun A nothing room fr s H ar us vs Q E e0 bound rel told => ?_⟩
  have stays : ∀ b o, bs.get? b = some o → s.heap.get? b = some o := fun b o z => (e0.bs b o z).1
  have inK : K.In s.heap := e0.mod.kin.keeps stays
  have places : ∀ y ∈ ps.zip us, (defScope st).names.lookup y.1 = some .local ∨ ((defScope st).names.lookup y.1 = some .cell ∧ ((cellsFrom (s.heap.objs.size + 1) (defScope st).names []).lookup y.1).isSome = true) := by
    rintro ⟨n, v⟩ hy
    exact (S.par n (List.of_mem_zip hy).1).imp id fun c => ⟨c, PySem.W.cellsFrom_some _ _ _ (Or.inl c)⟩
  refine codeAny_call_function room.depth (inK _ _ lk) rfl S.co S.gen rfl (PySem.W.codeRec_of inK code) (bound _ _ _ _
    (wpAny_newFunctionEnv_cells S.kind places fun env he s1 made => ?_))
  subst he
  obtain ⟨t, runs, holds⟩ := body cdv A fr s H vs Q E nothing (room.deeper _) told
  refine ⟨(e0.mod.nolimit.keeps stays).keeps made.toInCall.keep, codeAny_func (wpAny_mono (runs.run [] s1 (start N vs) H _ (inv_start S room.hd e0 (many _ _ _ _ told) rel made) holds) (fun fl s2 z => ?_) fun _ _ z => z)⟩
  match fl, z with
  | .ret _, ⟨v, _, H', J, rv, q⟩ => exact ⟨v, H', J.os, J.bare, J.base, J.hok, rv, q⟩
  | .next, ⟨_, H', J, q⟩ => exact ⟨V.non, H', J.os, J.bare, J.base, J.hok, rfl, q⟩
  | .brk, ⟨_, _, _, q⟩ => exact q.elim
  | .cont, ⟨_, _, _, q⟩ => exact q.elim
theorem okG0 {P : Program} {w : World} {K : PySem.W.Frag} {mg : Str → Option Value} {bs : Heap} {x qual : Str} {st : Stmt} {f : Addr} {fd : FuncData} {N ps : List Str} {k : Nat} {sp : Sp} (F : Fun K x qual st f fd) (S : FnScope N ps (defScope st))
    (many : ∀ vs H Q E, sp vs H Q E → vs.length = ps.length)
    (body : ∀ (cdv : Value) (A : Around) (fr : List Env) (s : Shared) (H : Hp) (vs : List V) (Q : VK) (E : XK), A.guards = some [] → Room k (A.deeper (envOfC qual (defScope st) s.heap.objs.size f cdv)) → sp vs H Q E →
      ∃ t, PSs (cxOf CX0 P w K mg bs N qual (defScope st) f cdv A fr s H E).nox (defBody st) t ∧ t ⟨fun _ H' => Q .non H', Q, fun _ _ => False, fun _ _ => False⟩ (start N vs) H) : FnG P w K mg bs CX0 (k + 1) f fd ps sp :=
  okG F S many fun cdv A fr s H vs Q E g r h => by
    obtain ⟨t, p, q⟩ := body cdv A fr s H vs Q E g r h
    exact ⟨t, p.nox, q⟩
section
variable {X : Cx} {CX : CXT} {k : Nat} {f : Addr} {fd : FuncData} {ps : List Str} {sp : Sp} {ds : List Value} {dvs : List V} {E : XK}
theorem runG {pins : List (Addr × Obj)} {σ : L2.St} {H : Hp} {s : Shared} {Q : VK} {us : List Value} {vs : List V} (F : FnG X.prog X.w X.K X.mg X.base CX k f fd ps sp) (nothing : X.A.guards = some []) (room : Room k X.A) (hb : Binds X.K fd ps ds)
    (hd : Vals dvs ds) (out : Passes CX X E) (I : Inv X pins σ H s) (r : Vals vs us) (told : sp (vs ++ dvs) H Q E) : wpAny (model X.prog X.w) X.A (call (.ref f) us) (EP X pins σ Q) X.xe s := by
  have rel : Vals (vs ++ dvs) (us ++ ds) := r.append hd
  have size : (us ++ ds).length = ps.length := rel.length ▸ F.many _ _ _ _ told
  refine wpAny_call (codeAny_mono (F.go X.A nothing room X.stack s H _ _ _ Q E I.env0 (hb s us I.kIn size) rel told) fun res s2 z => ?_)
  match res, z with
  | .error e, z => exact out pins σ H s e s2 I z
  | .ok (.ret u), z => exact I.after z
  | .ok .next, z => exact z.elim
  | .ok .brk, z => exact z.elim
  | .ok .cont, z => exact z.elim
theorem pe_callG {x : Str} {p pos : Pos} {e : Expr} {es : List Expr} {t : TA} (F : FnG X.prog X.w X.K X.mg X.base CX k f fd ps sp) (nothing : X.A.guards = some []) (room : Room k X.A) (hg : Gl X x) (hm : X.mg x = some (.ref f)) (kp : PySem.W.keepIn X.K (.ref f) = true)
    (hb : Binds X.K fd ps ds) (hd : Vals dvs ds) (out : Passes CX X E) (ha : PA X (e :: es) t) (nd : (x == ("__debug__" : Str)) = false := by decide) (he : starEach (e :: es) X.env = (false, eval e X.env) :: starEach es X.env := by rfl)
    (hpl : (backTo pos (starEach es X.env)).any (·.1) = false := by rfl) : PE X (.Call (.Name x p) (e :: es) [] pos) (tCall sp dvs E t) := by
  refine ⟨fun pins s σ H Q I told => wpAny_Call_Name_kw (ld_glob I hg hm ?_ nd)⟩
  refine PySem.W.callWith_K (h₀ := X.base) I.ok.mod.kin kp (thn (ha.run pos pins s σ H _ I told) ?_) he hpl
  rintro us s1 ⟨vs, H1, J, r, q⟩
  exact ⟨J.kIn, runG F nothing room hb hd out J r q⟩
end
/-! ### what is shown by repr: plain data, whose lists and dicts were made by the law -/
def kD : Key → PyData
  | .inl i => .int i
  | .inr x => .str x
mutual
inductive Sh (H : Hp) : V → PyData → Prop
  | non : Sh H .non .none
  | bl (b : Bool) : Sh H (.bl b) (.bool b)
  | int (i : Int) : Sh H (.int i) (.int i)
  | str (x : Str) : Sh H (.str x) (.str x)
  | lst {a : Addr} {xs : List V} {ds : List PyData} : H a = some (.lst xs) → a ≠ sysModules → ShAll H xs ds → Sh H (.ref a) (.list ds)
  | tup {a : Addr} {xs : List V} {ds : List PyData} : H a = some (.tup xs) → ShAll H xs ds → Sh H (.ref a) (.tuple ds)
  | dic {a : Addr} {kvs : List (Key × V)} {ds : List PyData} : H a = some (.dK kvs) → ShAll H (kvs.map (·.2)) ds → Sh H (.ref a) (.dict ((kvs.map fun kv => kD kv.1).zip ds))
inductive ShAll (H : Hp) : List V → List PyData → Prop
  | nil : ShAll H [] []
  | cons {v : V} {vs : List V} {d : PyData} {ds : List PyData} : Sh H v d → ShAll H vs ds → ShAll H (v :: vs) (d :: ds)
end
theorem ShAll.length {H : Hp} : ∀ {vs : List V} {ds : List PyData}, ShAll H vs ds → vs.length = ds.length
  | _, _, .nil => rfl
  | _, _, .cons _ t => by rw [List.length_cons, List.length_cons, t.length]
mutual
theorem Sh.same {H H' : Hp} (s : Same H H') : ∀ {v : V} {d : PyData}, Sh H v d → Sh H' v d
  | _, _, .non => .non
  | _, _, .bl b => .bl b
  | _, _, .int i => .int i
  | _, _, .str x => .str x
  | _, _, .lst h n t => .lst (s _ _ h) n (t.same s)
  | _, _, .tup h t => .tup (s _ _ h) (t.same s)
  | _, _, .dic h t => .dic (s _ _ h) (t.same s)
theorem ShAll.same {H H' : Hp} (s : Same H H') : ∀ {vs : List V} {ds : List PyData}, ShAll H vs ds → ShAll H' vs ds
  | _, _, .nil => .nil
  | _, _, .cons h t => .cons (h.same s) (t.same s)
end
/-- the name of the class of such data -/
def tyD : PyData → String
  | .none => "NoneType"
  | .bool _ => "bool"
  | .int _ => "int"
  | .str _ => "str"
  | .list _ => "list"
  | .tuple _ => "tuple"
  | .dict _ => "dict"
theorem Sh.ty {K : PySem.W.Frag} {H : Hp} {v : V} {d : PyData} (h : Sh H v d) : TyX K H v (.type (tyD d)) := by
  cases h with
  | non => exact .base .non
  | bl b => exact .base (.bl b)
  | int i => exact .base (.int i)
  | str x => exact .base (.str x)
  | lst h _ _ => exact .base (.lst h)
  | tup h _ => exact .base (.tup h)
  | dic h _ => exact .base (.dK h)
section
variable {X : Cx} {pins : List (Addr × Obj)} {σ : L2.St} {H : Hp} {s : Shared}
theorem pairs_keys {P : Program} {w : World} {h : Heap} : ∀ {es : List DictEntry} {kvs : List (Key × Value)}, Pairs (mixKind P w) es kvs → ReadsAll h (es.map (·.key)) (kvs.map fun kv => kD kv.1) []
  | _, _, .nil => .nil
  | _, _, .cons (kv := kv) hk _ t => by
    have r := pairs_keys (h := h) t
    rcases keyIs_shape (k := kv.1) hk with ⟨i, u, e1, e2⟩ | ⟨x, u, e1, e2⟩
    · rw [List.map_cons, List.map_cons, e1, e2]
      exact ReadsAll.cons (as := []) (.int i u) r
    · rw [List.map_cons, List.map_cons, e1, e2]
      exact ReadsAll.cons (as := []) (.str x u) r
theorem pairs_vals {P : Program} {w : World} : ∀ {es : List DictEntry} {kvs : List (Key × Value)}, Pairs (mixKind P w) es kvs → es.map (·.val) = kvs.map (·.2)
  | _, _, .nil => rfl
  | _, _, .cons _ hv t => by rw [List.map_cons, List.map_cons, hv, pairs_vals t]
theorem kv_rel : ∀ {kvs : List (Key × V)} {vs : List (Key × Value)}, KV kvs vs → kvs.map (·.1) = vs.map (·.1) ∧ Vals (kvs.map (·.2)) (vs.map (·.2))
  | _, _, .nil => ⟨rfl, .nil⟩
  | _, _, .cons h t => by
    obtain ⟨a, b⟩ := kv_rel t
    exact ⟨by rw [List.map_cons, List.map_cons, a, h.1], .cons h.2 b⟩
mutual
theorem Sh.reads (I : Inv X pins σ H s) : ∀ (v : V) (d : PyData) (u : Value), Sh H v d → RelV v u → ∃ as, Reads s.heap u d as ∧ sysModules ∉ as
  | _, _, _, .non, r => by cases r; exact ⟨_, .none, List.not_mem_nil⟩
  | _, _, _, .bl b, r => by cases r; exact ⟨_, .bool b, List.not_mem_nil⟩
  | _, _, _, .int i, r => by obtain ⟨t, rfl⟩ := r; exact ⟨_, .int i t, List.not_mem_nil⟩
  | _, _, _, .str x, r => by obtain ⟨t, rfl⟩ := r; exact ⟨_, .str x t, List.not_mem_nil⟩
  | _, _, _, .lst (a := a) (xs := xs) h n t, r => by
    cases r
    obtain ⟨_, its, c, rv, ho⟩ := (show ObjOk X.prog X.w H s.heap a (.lst xs) from I.hok a _ h)
    obtain ⟨as, q, m⟩ := ShAll.reads I _ _ its t rv
    exact ⟨_, .list ho rfl rfl (by simpa using q), fun z => (List.mem_cons.mp z).elim (fun e => n e.symm) m⟩
  | _, _, _, .tup (a := a) (xs := xs) h t, r => by
    cases r
    obtain ⟨_, its, rv, o, ho, hc, c, hd⟩ := (show ObjOk X.prog X.w H s.heap a (.tup xs) from I.hok a _ h)
    obtain ⟨as, q, m⟩ := ShAll.reads I _ _ its t rv
    exact ⟨_, .tuple ho hc hd (by simpa using q), m⟩
  | _, _, _, .dic (a := a) (kvs := kvs) (ds := ds) h t, r => by
    cases r
    obtain ⟨_, low, vs, rel, o, es, ep, ho, hx, hd, _, hp, _⟩ := (show ObjOk X.prog X.w H s.heap a (.dK kvs) from I.hok a _ h)
    obtain ⟨rk, rv⟩ := kv_rel rel
    obtain ⟨as, q, m⟩ := ShAll.reads I _ _ (vs.map (·.2)) t rv
    have k1 : (kvs.map fun kv => kD kv.1) = vs.map fun kv => kD kv.1 := by
      have := congrArg (List.map kD) rk
      rw [List.map_map, List.map_map] at this
      exact this
    have ln : (kvs.map fun kv => kD kv.1).length = ds.length := by
      have := t.length
      rw [List.length_map] at this
      rw [List.length_map, this]
    refine ⟨_, .dict (as := []) (bs := as) ho hx.1 hd ?_ ?_, ?_⟩
    · rw [List.map_fst_zip (Nat.le_of_eq ln), k1]
      exact pairs_keys hp
    · rw [List.map_snd_zip (Nat.le_of_eq ln.symm), pairs_vals hp]
      exact q
    · intro z
      rcases List.mem_cons.mp z with e | e
      · exact absurd low (by rw [← e]; simp)
      · exact m e
theorem ShAll.reads (I : Inv X pins σ H s) : ∀ (vs : List V) (ds : List PyData) (us : List Value), ShAll H vs ds → Vals vs us → ∃ as, ReadsAll s.heap us ds as ∧ sysModules ∉ as
  | _, _, _, .nil, r => by cases r; exact ⟨_, .nil, List.not_mem_nil⟩
  | _, _, _, .cons h t, r => by
    cases r with
    | cons r1 r2 =>
      obtain ⟨as, q1, m1⟩ := Sh.reads I _ _ _ h r1
      obtain ⟨bs, q2, m2⟩ := ShAll.reads I _ _ _ t r2
      exact ⟨_, .cons q1 q2, fun z => (List.mem_append.mp z).elim m1 m2⟩
end
end
def rRepr : List V → Hp → VK → Prop := fun xs H Q => ∃ x d, xs = [x] ∧ Sh H x d ∧ d.showable = true ∧ d.shown.length ≤ sizeLine ∧ d.depth ≤ 50 ∧ Q (.str d.shown) H
theorem call_repr {X : Cx} (nothing : X.A.guards = some []) (hu : X.A.units + 64 < cLine) : CallR X (.builtin "repr") rRepr := by
  intro pins s σ H xs us Q I r h
  obtain ⟨x, d, rfl, sh, able, fits, deep, q⟩ := h
  cases r with
  | @cons _ u _ _ r1 r2 =>
    cases r2
    obtain ⟨as, rd, low⟩ := Sh.reads I _ _ _ sh r1
    have fin : ∀ h' t tk, (∀ b o, s.heap.get? b = some o → h'.get? b = some o) → EP X pins σ Q (.str d.shown t) { s with heap := h', toks := tk } := fun h' t tk kept => ⟨.str d.shown, H, I.kept kept, ⟨t, rfl⟩, q⟩
    cases sh with
    | non => cases r1; exact PySem.P.repr_of_none (fin _ _ _ fun _ _ z => z)
    | bl b => cases r1; exact PySem.P.repr_of_bool (fin _ _ _ fun _ _ z => z)
    | int i => obtain ⟨t, rfl⟩ := r1; exact PySem.P.repr_of_int (of_decide_eq_true able) (fin _ _ _ fun _ _ z => z)
    | str x => obtain ⟨t, rfl⟩ := r1; exact PySem.P.repr_of_str (fin _ _ _ fun _ _ z => z) fits
    | lst _ _ _ => cases r1; exact repr_of_reads' rd able (fun _ => low) nothing (by omega) (fun _ _ z => z) fin fits
    | tup _ _ => cases r1; exact repr_of_reads' rd able (fun _ => low) nothing (by omega) (fun _ _ z => z) fin fits
    | dic _ _ => cases r1; exact repr_of_reads' rd able (fun _ => low) nothing (by omega) (fun _ _ z => z) fin fits
/-- a display's list is none of the interpreter's own -/
def tLstN (t : TA) : TE := fun σ H Q => t σ H fun xs H1 => xs.length ≤ sizeLine ∧ ∀ p, H1 p = none → p ≠ sysModules → Q (.ref p) (upd H1 p (.lst xs))
theorem pe_lstN {X : Cx} {es : List Expr} {t : TA} {pos : Pos} (h : PA X es t) : PE X (.List es pos) (tLstN t) := by
  refine ⟨fun pins s σ H Q I told => wpAny_List_spliced (thn (h.run pos pins s σ H _ I told) ?_)⟩
  rintro us s1 ⟨xs, H1, J, r, small, q⟩
  have free : H1 s1.heap.objs.size = none := J.hok.fresh (Nat.le_refl _)
  refine ⟨by rw [← r.length]; exact small, .ref s1.heap.objs.size, upd H1 s1.heap.objs.size (.lst xs), J.laid (t' := s1.toks) (fun b u z => Heap.get?_push_of_some _ z) (Nat.le_refl _) ⟨small, us, 0, r, Heap.get?_push_size _ rfl⟩, rfl, q _ free (Nat.ne_of_gt J.big)⟩
/-! ### the end of a law whose defs are called where nothing is being shown -/
theorem law_G {P : Program} {w : World} {K : PySem.W.Frag} {mg mb : Str → Option Value} {CX : CXT} {k : Nat} {fa a : Addr} {fd : FuncData} {x : Str} {sp : Sp} {s : Shared} {vs : List Value} {ns : List Int}
    (inK : K.In s.heap) (gl : s.heap.Ns mainGlobals mg) (bl : s.heap.Ns builtinsNs mb) (boot : ∀ y : Str, y ≠ "__name__" → mb y = bootBuiltins y) (lim : s.heap.NoLimit) (ng : s.gens = #[])
    (at_ : s.heap.get? a = some { cls := .type "list", data := .seq vs.toArray }) (are : IntsAre vs ns) (small : ns.length ≤ sizeLine) (room : Room k callerA)
    (F : ∀ bs : Heap, K.In bs → bs.Ns mainGlobals mg → FnG P w K mg bs CX k fa fd [x] sp) (bound : ∀ (s : Shared) (u : Value), BindsTo s fd ⟨[u], []⟩ [(x, u)])
    (told : ∀ H : Hp, Only H → SqL K H a (ns.map V.int) → sp [.ref a] H (fun v _ => v = .bl true) fun _ _ _ => False)
    (noX : ∀ H e s', CX [] H s (fun _ _ _ => False) e s' → False) :
    codeAny (model P w) callerA (.call (.ref fa) ⟨[.ref a], []⟩) (fun r s' => r = .ok (.ret (.bool true)) ∧ OldK s.heap s'.heap ∧ s'.os = s.os ∧ AllBare s'.gens) s := by
  have main : ∀ H : Hp, Only H → SqL K H a (ns.map V.int) → HOk P w H s.heap → (∀ b, H b ≠ none → b = a) → (H a ≠ none → K.lookup a = none) →
      codeAny (model P w) callerA (.call (.ref fa) ⟨[.ref a], []⟩) (fun r s' => r = .ok (.ret (.bool true)) ∧ OldK s.heap s'.heap ∧ s'.os = s.os ∧ AllBare s'.gens) s := by
    intro H only list ok alone out
    have seen : ∀ {b : Addr} {o : Obj}, s.heap.get? b = some o → H b = none → (hidT s.heap H).get? b = some o := fun z n => hidT_get z n
    have dict : ∀ {b : Addr} {o : Obj} {es : Array DictEntry} {ep : Nat}, s.heap.get? b = some o → o.data = .dict es ep → H b = none := by
      intro b o es ep z dz
      refine Classical.byContradiction fun some_ => ?_
      have eb := alone b some_
      rw [eb, at_] at z
      cases z
      cases (show Data.seq vs.toArray _ = Data.dict es ep from dz)
    have names : ∀ {b : Addr} {m : Str → Option Value}, s.heap.Ns b m → (hidT s.heap H).Ns b m := by
      rintro b m ⟨o, es, ep, z, dz, rest⟩
      exact ⟨o, es, ep, seen z (dict z dz), dz, rest⟩
    have inB : K.In (hidT s.heap H) := by
      intro b o z
      refine seen (inK b o z) (Classical.byContradiction fun some_ => ?_)
      have eb := alone b some_
      subst eb
      rw [out some_] at z
      cases z
    obtain ⟨ml, l1, l2⟩ := lim
    have mod : Mod K mg (hidT s.heap H) := ⟨inB, names gl, ⟨mb, names bl, boot⟩, ⟨ml, names l1, l2⟩⟩
    have env : Env0 P w K mg (hidT s.heap H) callerA [] s H := { frames := rfl, mod := mod, bs := fun b o z => of_hidT z, bsz := Nat.le_of_eq (hidT_size _ _), funs := trivial, frf := (fun b hb => by cases (show b ∈ ([] : List Addr) from hb)), hok := ok, bare := .of_eq ng }
    refine codeAny_mono ((F _ inB (names gl)).go callerA rfl room [] s H _ [.ref a] [.ref a] _ _ env (bound s (.ref a)) (.cons rfl .nil) (told H only list)) fun r s2 z => ?_
    match r, z with
    | .error e, z => exact (noX H e s2 z).elim
    | .ok .next, z => exact z.elim
    | .ok .brk, z => exact z.elim
    | .ok .cont, z => exact z.elim
    | .ok (.ret u), ⟨v, H2, os, bare, un, ok2, rel, q⟩ =>
      cases (show v = V.bl true from q)
      cases (show u = Value.bool true from rel)
      refine ⟨rfl, OldK.of_keep fun b o z => ?_, os, bare⟩
      by_cases hb : H b = none
      · exact un.keep b o z hb (fun m => by cases (show b ∈ ([] : List Addr) from m)) (fun m => by cases m)
      · rcases only b with n | ⟨ob, xs, f⟩
        · exact absurd n hb
        · have o1 := (ok b _ f).1
          have o2 := (ok2 b _ (un.frzs b ob _ f)).1
          rw [z] at o1
          rw [Option.some.inj o1]
          exact o2
  have rel := vals_ints are
  cases hk : K.lookup a with
  | some o =>
    have z := inK a o hk
    rw [at_] at z
    cases z
    exact main (fun _ => none) (fun _ => .inl rfl) (.inr ⟨_, vs.toArray, _, hk, rfl, rfl, rfl, by rw [List.size_toArray, are.length]; exact small, by simpa using rel⟩) (fun b u z => by cases z) (fun b z => absurd rfl z) fun z => absurd rfl z
  | none =>
    have on : ∀ b : Addr, b = a → (if b = a then some (HO.frz { cls := .type "list", data := .seq vs.toArray } (.lst (ns.map V.int))) else none) = some (HO.frz { cls := .type "list", data := .seq vs.toArray } (.lst (ns.map V.int))) := fun b e => if_pos e
    refine main (fun b => if b = a then some (.frz { cls := .type "list", data := .seq vs.toArray } (.lst (ns.map V.int))) else none) (fun b => ?_) (.inl (.inr ⟨_, on a rfl⟩)) (fun b u z => ?_) (fun b z => ?_) fun _ => hk
    · rcases Classical.em (b = a) with e | e
      · exact .inr ⟨_, _, on b e⟩
      · exact .inl (if_neg e)
    · rcases Classical.em (b = a) with e | e
      · have := (on b e).symm.trans z
        cases this
        subst e
        exact ⟨at_, by rw [List.length_map]; exact small, vs, _, rel, at_⟩
      · have := (if_neg e).symm.trans z
        cases this
    · exact Classical.byContradiction fun e => z (if_neg e)
theorem walk_G {l : PySem.W.OpenLaw} {n k : Nat} {q : Program} {loose : List Str} {XP : (Str → Option Value) → Heap → Prop} {YP : World → Heap → Prop} {d : DefRec} {K : Params → PySem.W.Frag} {CX : World → CXT} {sp : World → Sp} {x : Str}
    (most : l.most = some n) (small : n ≤ sizeLine) (nodef : d.params.defaults = []) (room : Room k callerA) (inK : ∀ (w : World) (h : Heap), YP w h → (K w.params).In h)
    (F : ∀ (w : World) (mg : Str → Option Value) (fa : Addr) (h : Heap), (K w.params).In h → h.Ns mainGlobals mg → mg d.name = some (.ref fa) →
      ∃ fd : FuncData, (∀ (s : Shared) (u : Value), BindsTo s fd ⟨[u], []⟩ [(x, u)]) ∧ ∀ bs : Heap, (K w.params).In bs → bs.Ns mainGlobals mg → FnG l.prog w (K w.params) mg bs (CX w) k fa fd [x] (sp w))
    (told : ∀ (w : World) (H : Hp) (a : Addr) (ns : List Int), ns.length ≤ n → Only H → SqL (K w.params) H a (ns.map V.int) → sp w [.ref a] H (fun v _ => v = .bl true) fun _ _ _ => False)
    (noX : ∀ (w : World) (H : Hp) (s : Shared) (e : Value) (s' : Shared), CX w [] H s (fun _ _ _ => False) e s' → False) :
    PySem.W.WalkO q loose XP YP l.row.toRowW d [] (fun f vs => PySem.call f vs) := by
  refine Att.attach_call most nodef fun w s₀ s₁ mg mb fa o pm cd doc a vs ns G Y ho hd hcd hmg hobj hints hlen hg => ?_
  obtain ⟨fd, bound, FG⟩ := F w mg fa _ (inK w _ Y) G.T.g hmg
  exact law_G (inK w _ Y) G.T.g G.T.b G.T.builtins G.T.nolimit hg hobj hints (Nat.le_trans hlen small) room FG bound (fun H only list => told w H a ns hlen only list) fun H e s2 => noX w H s₁ e s2

/-! ### the end of a law whose defs are called where nothing is being shown, with tables of code objects -/
def LawAtG (l : PySem.W.OpenLaw) (w : World) (K : PySem.W.Frag) (CX : CXT) (k n : Nat) (x : Str) (mg : Str → Option Value) (f : Addr) (top : Heap) : Prop :=
  ∃ (fd : FuncData) (ts : List (Addr × Addr)) (sp : Sp), (∀ t ∈ ts, top.get? t.2 = some { cls := .none, data := .fields #[] }) ∧ (∀ t ∈ ts, K.lookup t.2 = none) ∧ (∀ t ∈ ts, PySem.W.CodeHd top t.1 t.2) ∧ (∀ (st : Shared) (v : Value), BindsTo st fd ⟨[v], []⟩ [(x, v)]) ∧
    (∀ (H : Hp) (p : Addr) (zs : List Int), zs.length ≤ n → (∀ z ∈ zs, Builtin.Int.intBits z ≤ 1048576) → (∀ t ∈ ts, H t.2 = some (.tbl #[])) → SqL K H p (zs.map V.int) → sp [.ref p] H (fun v _ => v = .bl true) fun _ _ _ => False) ∧
    ∀ under : Heap, K.In under → under.Ns mainGlobals mg → (∀ t ∈ ts, LamX.TabB under mg t.1 t.2) → FnG l.prog w K mg under CX k f fd [x] sp
theorem law_GT {P : Program} {w : World} {K : PySem.W.Frag} {mg mb : Str → Option Value} {CX : CXT} {k : Nat} {f p : Addr} {ts : List (Addr × Addr)} {fd : FuncData} {x : Str} {sp : Sp} {s : Shared} {us : List Value} {zs : List Int}
    (inK : K.In s.heap) (gl : s.heap.Ns mainGlobals mg) (bl : s.heap.Ns builtinsNs mb) (boot : ∀ y : Str, y ≠ "__name__" → mb y = bootBuiltins y) (lim : s.heap.NoLimit) (ng : s.gens = #[])
    (bare : ∀ t ∈ ts, s.heap.get? t.2 = some { cls := .none, data := .fields #[] }) (out : ∀ t ∈ ts, K.lookup t.2 = none) (code : ∀ t ∈ ts, PySem.W.CodeHd s.heap t.1 t.2)
    (bmod : ∃ (m : Addr) (o : Obj), mg "__builtins__" = some (.ref m) ∧ m ≠ builtinsNs ∧ s.heap.get? m = some o ∧ o.cls = .type "module" ∧ o.dict = some builtinsNs ∧ o.data = .plain)
    (script : s.heap.get? p = some { cls := .type "list", data := .seq us.toArray }) (are : IntsAre us zs) (small : zs.length ≤ sizeLine) (room : Room k callerA)
    (F : ∀ under : Heap, K.In under → under.Ns mainGlobals mg → (∀ t ∈ ts, LamX.TabB under mg t.1 t.2) → FnG P w K mg under CX k f fd [x] sp) (bound : ∀ (st : Shared) (v : Value), BindsTo st fd ⟨[v], []⟩ [(x, v)])
    (told : ∀ H : Hp, (∀ t ∈ ts, H t.2 = some (.tbl #[])) → SqL K H p (zs.map V.int) → sp [.ref p] H (fun v _ => v = .bl true) fun _ _ _ => False)
    (noX : ∀ H e st, CX [] H s (fun _ _ _ => False) e st → False) :
    codeAny (model P w) callerA (.call (.ref f) ⟨[.ref p], []⟩) (fun r st => r = .ok (.ret (.bool true)) ∧ OldK s.heap st.heap ∧ st.os = s.os ∧ AllBare st.gens) s := by
  have tabAt : ∀ c ∈ ts.map Prod.snd, s.heap.get? c = some { cls := .none, data := .fields #[] } := by
    intro c hc
    obtain ⟨t, ht, rfl⟩ := List.mem_map.mp hc
    exact bare t ht
  have inTs : ∀ {t : Addr × Addr}, t ∈ ts → t.2 ∈ ts.map Prod.snd := fun ht => List.mem_map_of_mem ht
  have pNo : ¬ p ∈ ts.map Prod.snd := by
    intro hp
    have both := (tabAt p hp).symm.trans script
    have kinds := congrArg (fun o : Option Obj => o.map Obj.cls) both
    simp at kinds
  have main : ∀ H : Hp, (∀ t ∈ ts, H t.2 = some (.tbl #[])) → (∀ c, H c = none ∨ c ∈ ts.map Prod.snd ∨ ∃ o ys, H c = some (.frz o (.lst ys))) → SqL K H p (zs.map V.int) → HOk P w H s.heap → (∀ c, H c ≠ none → c = p ∨ c ∈ ts.map Prod.snd) → (H p ≠ none → K.lookup p = none) →
      codeAny (model P w) callerA (.call (.ref f) ⟨[.ref p], []⟩) (fun r st => r = .ok (.ret (.bool true)) ∧ OldK s.heap st.heap ∧ st.os = s.os ∧ AllBare st.gens) s := by
    intro H tabs kinds list ok alone off
    have free : ∀ {c : Addr} {o : Obj}, s.heap.get? c = some o → (∀ ys m, ¬ o.data = .seq ys m) → ¬ o.data = .fields #[] → H c = none := by
      intro c o ho n1 n2
      refine Classical.byContradiction fun some_ => ?_
      rcases alone c some_ with rfl | hc
      · cases Option.some.inj (ho.symm.trans script)
        exact n1 _ _ rfl
      · cases Option.some.inj (ho.symm.trans (tabAt c hc))
        exact n2 rfl
    have names : ∀ {c : Addr} {m : Str → Option Value}, s.heap.Ns c m → (hidT s.heap H).Ns c m := by
      rintro c m ⟨o, es, ep, ho, dz, more⟩
      refine ⟨o, es, ep, hidT_get ho (free ho (fun ys j z => ?_) fun z => ?_), dz, more⟩ <;> exact Data.noConfusion (dz.symm.trans z)
    have inB : K.In (hidT s.heap H) := by
      intro c o ho
      refine hidT_get (inK c o ho) (Classical.byContradiction fun some_ => ?_)
      rcases alone c some_ with rfl | hc
      · exact absurd (ho.symm.trans (off some_)) (by simp)
      · obtain ⟨t, ht, rfl⟩ := List.mem_map.mp hc
        exact absurd (ho.symm.trans (out t ht)) (by simp)
    obtain ⟨ml, l1, l2⟩ := lim
    have mod : L2.Mod K mg (hidT s.heap H) := ⟨inB, names gl, ⟨mb, names bl, boot⟩, ⟨ml, names l1, l2⟩⟩
    have tables : ∀ t ∈ ts, LamX.TabB (hidT s.heap H) mg t.1 t.2 := by
      intro t ht
      constructor
      · obtain ⟨o, ys, file, tf, flags, tg, inF, text, tt, c1, c2, c3, c4, c5, c6, c7, c8, c9, c10⟩ := code t ht
        refine ⟨o, ys, file, tf, flags, tg, inF, text, tt, hidT_get c1 (free c1 (fun us j z => Data.noConfusion (c3.symm.trans z)) fun z => ?_), c2, c3, c4, c5, c6, c7, c8, c9, c10⟩
        have z2 := c3.symm.trans z
        cases z2
        simp at c4
      · obtain ⟨m, o, b1, b2, b3, b4, b5, b6⟩ := bmod
        refine ⟨m, o, b1, b2, fun z => ?_, fun z => ?_, hidT_get b3 (free b3 (fun us j z => Data.noConfusion (b6.symm.trans z)) fun z => Data.noConfusion (b6.symm.trans z)), b4, b5, b6⟩
        · obtain ⟨o', es, ep, ho, dz, _⟩ := gl
          subst z
          cases Option.some.inj (b3.symm.trans ho)
          exact Data.noConfusion (b6.symm.trans dz)
        · subst z
          cases Option.some.inj (b3.symm.trans (bare t ht))
          exact Data.noConfusion b6
      · intro z
        obtain ⟨o', es, ep, ho, dz, _⟩ := gl
        rw [z] at ho
        cases Option.some.inj (ho.symm.trans (bare t ht))
        exact Data.noConfusion dz
    have env : Env0 P w K mg (hidT s.heap H) callerA [] s H := { frames := rfl, mod := mod, bs := fun c o z => of_hidT z, bsz := Nat.le_of_eq (hidT_size _ _), funs := trivial, frf := (fun c hc => by cases (show c ∈ ([] : List Addr) from hc)), hok := ok, bare := .of_eq ng }
    refine codeAny_mono ((F _ inB (names gl) tables).go callerA rfl room [] s H _ [.ref p] [.ref p] _ _ env (bound s (.ref p)) (.cons rfl .nil) (told H tabs list)) fun r st z => ?_
    match r, z with
    | .error e, z => exact (noX H e st z).elim
    | .ok .next, z => exact z.elim
    | .ok .brk, z => exact z.elim
    | .ok .cont, z => exact z.elim
    | .ok (.ret u), ⟨v, H2, os, bg, un, ok2, rel, q⟩ =>
      cases (show v = V.bl true from q)
      cases (show u = Value.bool true from rel)
      have old : ∀ c o, ¬ c ∈ ts.map Prod.snd → s.heap.get? c = some o → st.heap.get? c = some o := by
        intro c o nc ho
        by_cases hc : H c = none
        · exact un.keep c o ho hc (fun m => by cases (show c ∈ ([] : List Addr) from m)) (fun m => by cases m)
        · rcases kinds c with n | n | ⟨ob, ys, fz⟩
          · exact absurd n hc
          · exact absurd n nc
          · have o1 := (ok c _ fz).1
            have o2 := (ok2 c _ (un.frzs c ob _ fz)).1
            rw [ho] at o1
            rw [Option.some.inj o1]
            exact o2
      have grown : ∀ c ∈ ts.map Prod.snd, ∃ more : Array Value, st.heap.get? c = some { cls := .none, data := .fields more } := by
        intro c hc
        obtain ⟨t, ht, rfl⟩ := List.mem_map.mp hc
        obtain ⟨more, hm⟩ := un.tbls t.2 #[] (tabs t ht)
        exact ⟨_, ok2 t.2 _ hm⟩
      refine ⟨rfl, ⟨fun c o ho => ?_, fun c o ho => ?_⟩, os, bg⟩
      · by_cases hc : c ∈ ts.map Prod.snd
        · obtain ⟨more, hm⟩ := grown c hc
          obtain ⟨t, ht, rfl⟩ := List.mem_map.mp hc
          cases Option.some.inj (ho.symm.trans (bare t ht))
          exact .inr (.inl ⟨((code t ht).tab (bare t ht)).isCodeTable, rfl, #[], more, rfl, by rw [Array.empty_append]; exact hm⟩)
        · exact .inl (old c o hc ho)
      · by_cases hc : c ∈ ts.map Prod.snd
        · obtain ⟨more, hm⟩ := grown c hc
          exact ⟨_, hm⟩
        · exact ⟨o, old c o hc ho⟩
  have rel := vals_ints are
  let base : Hp := fun c => if c ∈ ts.map Prod.snd then some (.tbl #[]) else none
  have onT : ∀ {c : Addr}, c ∈ ts.map Prod.snd → base c = some (.tbl #[]) := fun hc => if_pos hc
  have offT : ∀ {c : Addr}, ¬ c ∈ ts.map Prod.snd → base c = none := fun hc => if_neg hc
  cases hk : K.lookup p with
  | some o =>
    cases Option.some.inj ((inK p o hk).symm.trans script)
    refine main base (fun t ht => onT (inTs ht)) (fun c => ?_) (.inr ⟨_, us.toArray, _, hk, rfl, rfl, rfl, by rw [List.size_toArray, are.length]; exact small, by simpa using rel⟩) (fun c u z => ?_) (fun c z => ?_) fun z => absurd (offT pNo) z
    · rcases Classical.em (c ∈ ts.map Prod.snd) with hc | hc
      · exact .inr (.inl hc)
      · exact .inl (offT hc)
    · rcases Classical.em (c ∈ ts.map Prod.snd) with hc | hc
      · cases Option.some.inj ((onT hc).symm.trans z)
        exact tabAt c hc
      · exact absurd ((offT hc).symm.trans z) (by simp)
    · exact .inr (Classical.byContradiction fun hc => z (offT hc))
  | none =>
    let frz : HO := .frz { cls := .type "list", data := .seq us.toArray } (.lst (zs.map V.int))
    have onP : (fun c => if c = p then some frz else base c) p = some frz := if_pos rfl
    have offP : ∀ {c : Addr}, ¬ c = p → (fun c => if c = p then some frz else base c) c = base c := fun hc => if_neg hc
    refine main (fun c => if c = p then some frz else base c) (fun t ht => ?_) (fun c => ?_) (.inl (.inr ⟨_, onP⟩)) (fun c u z => ?_) (fun c z => ?_) fun _ => hk
    · refine (offP fun e => pNo ?_).trans (onT (inTs ht))
      rw [← e]
      exact inTs ht
    · rcases Classical.em (c = p) with rfl | e
      · exact .inr (.inr ⟨_, _, onP⟩)
      · rcases Classical.em (c ∈ ts.map Prod.snd) with hc | hc
        · exact .inr (.inl hc)
        · exact .inl ((offP e).trans (offT hc))
    · rcases Classical.em (c = p) with rfl | e
      · cases Option.some.inj (onP.symm.trans z)
        exact ⟨script, by rw [List.length_map]; exact small, us, _, rel, script⟩
      · have z := (offP e).symm.trans z
        rcases Classical.em (c ∈ ts.map Prod.snd) with hc | hc
        · cases Option.some.inj ((onT hc).symm.trans z)
          exact tabAt c hc
        · exact absurd ((offT hc).symm.trans z) (by simp)
    · rcases Classical.em (c = p) with e | e
      · exact .inl e
      · exact .inr (Classical.byContradiction fun hc => z ((offP e).trans (offT hc)))
theorem walk_GT {l : PySem.W.OpenLaw} {n k : Nat} {q : Program} {loose : List Str} {XP : (Str → Option Value) → Heap → Prop} {YP : World → Heap → Prop} {d : DefRec} {CX : World → CXT} {x : Str}
    (most : l.most = some n) (small : n ≤ sizeLine) (nodef : d.params.defaults = []) (room : Room k callerA)
    (F : ∀ (w : World) (mg : Str → Option Value) (f : Addr) (top : Heap), YP w top → top.Ns mainGlobals mg → mg d.name = some (.ref f) → ∃ K : PySem.W.Frag, K.In top ∧ LawAtG l w K (CX w) k n x mg f top)
    (noX : ∀ (w : World) (H : Hp) (s : Shared) (e : Value) (st : Shared), CX w [] H s (fun _ _ _ => False) e st → False) :
    PySem.W.WalkO q loose XP YP l.row.toRowW d [] (fun f vs => PySem.call f vs) := by
  refine Att.attach_callB most nodef fun w s0 s mg mb f o pm cd doc p us zs G Y ho hd hcd named script are few bits ng => ?_
  obtain ⟨K, inK, fd, ts, sp, bare, out, code, bound, told, FG⟩ := F w mg f _ Y G.T.g named
  exact law_GT inK G.T.g G.T.b G.T.builtins G.T.nolimit ng bare out code G.T.bmain script are (Nat.le_trans few small) room FG bound (fun H tabs list => told H p zs few bits tabs list) fun H e st => noX w H s e st

/-! ### data made by the law or the program: numbers, truths, texts, lists and tuples of these -/
mutual
inductive Tk (H : Hp) : V → PyData → Prop
  | bl (b : Bool) : Tk H (.bl b) (.bool b)
  | int (i : Int) : Tk H (.int i) (.int i)
  | str (x : Str) : Tk H (.str x) (.str x)
  | lst {a : Addr} {xs : List V} {ds : List PyData} : H a = some (.lst xs) → TkAll H xs ds → Tk H (.ref a) (.list ds)
  | tup {a : Addr} {xs : List V} {ds : List PyData} : H a = some (.tup xs) → TkAll H xs ds → Tk H (.ref a) (.tuple ds)
inductive TkAll (H : Hp) : List V → List PyData → Prop
  | nil : TkAll H [] []
  | cons {v : V} {vs : List V} {d : PyData} {ds : List PyData} : Tk H v d → TkAll H vs ds → TkAll H (v :: vs) (d :: ds)
end
theorem TkAll.length {H : Hp} : ∀ {vs : List V} {ds : List PyData}, TkAll H vs ds → vs.length = ds.length
  | _, _, .nil => rfl
  | _, _, .cons _ t => by rw [List.length_cons, List.length_cons, t.length]
mutual
theorem Tk.same {H H' : Hp} (s : Same H H') : ∀ {v : V} {d : PyData}, Tk H v d → Tk H' v d
  | _, _, .bl b => .bl b
  | _, _, .int i => .int i
  | _, _, .str x => .str x
  | _, _, .lst h t => .lst (s _ _ h) (t.same s)
  | _, _, .tup h t => .tup (s _ _ h) (t.same s)
theorem TkAll.same {H H' : Hp} (s : Same H H') : ∀ {vs : List V} {ds : List PyData}, TkAll H vs ds → TkAll H' vs ds
  | _, _, .nil => .nil
  | _, _, .cons h t => .cons (h.same s) (t.same s)
end
theorem TkAll.get {H : Hp} : ∀ {xs : List V} {ds : List PyData} {j : Nat} {x : V}, TkAll H xs ds → xs[j]? = some x → ∃ d, ds[j]? = some d ∧ Tk H x d
  | _, _, _, _, .nil, h => by simp at h
  | _, _, 0, _, .cons (d := d) a _, h => by
    cases (Option.some.inj h)
    exact ⟨d, rfl, a⟩
  | _, _, j + 1, _, .cons _ t, h => t.get h
theorem TkAll.append {H : Hp} : ∀ {xs ys : List V} {ds es : List PyData}, TkAll H xs ds → TkAll H ys es → TkAll H (xs ++ ys) (ds ++ es)
  | _, _, _, _, .nil, t => t
  | _, _, _, _, .cons a r, t => .cons a (r.append t)
theorem TkAll.ints {H : Hp} : ∀ ns : List Int, TkAll H (ns.map V.int) (ns.map PyData.int)
  | [] => .nil
  | n :: r => .cons (.int n) (TkAll.ints r)
theorem Tk.int_inv {H : Hp} {v : V} {i : Int} (h : Tk H v (.int i)) : v = .int i := by cases h; rfl
theorem Tk.tup_inv {H : Hp} {v : V} {ds : List PyData} (h : Tk H v (.tuple ds)) : ∃ a xs, v = .ref a ∧ H a = some (.tup xs) ∧ TkAll H xs ds := by
  cases h with
  | tup h t => exact ⟨_, _, rfl, h, t⟩
theorem Tk.lst_inv {H : Hp} {v : V} {ds : List PyData} (h : Tk H v (.list ds)) : ∃ a xs, v = .ref a ∧ H a = some (.lst xs) ∧ TkAll H xs ds := by
  cases h with
  | lst h t => exact ⟨_, _, rfl, h, t⟩
theorem TkAll.int_inv {H : Hp} : ∀ {vs : List V} {ns : List Int}, TkAll H vs (ns.map PyData.int) → vs = ns.map V.int
  | _, [], .nil => rfl
  | _, n :: r, .cons h t => by rw [List.map_cons, h.int_inv, t.int_inv]
/-- heaps without one place -/
def hd1 (p : Addr) (H : Hp) : Hp := fun b => if b = p then none else H b
theorem hd1_le {p : Addr} {H : Hp} : Same (hd1 p H) H := fun b o e => by
  unfold hd1 at e
  by_cases h : b = p
  · rw [if_pos h] at e; cases e
  · rw [if_neg h] at e; exact e
theorem hd1_same {p : Addr} {H H' : Hp} (s : Same H H') : Same (hd1 p H) (hd1 p H') := fun b o e => by
  unfold hd1 at e ⊢
  by_cases h : b = p
  · rw [if_pos h] at e; cases e
  · rw [if_neg h] at e ⊢; exact s _ _ e
theorem hd1_upd {p : Addr} {H : Hp} {o : HO} : Same (hd1 p H) (hd1 p (upd H p o)) := fun b x e => by
  unfold hd1 at e ⊢
  by_cases h : b = p
  · rw [if_pos h] at e; cases e
  · rw [if_neg h] at e ⊢; rw [upd_ne h]; exact e
theorem hd1_at {p b : Addr} {H : Hp} (h : b ≠ p) : hd1 p H b = H b := if_neg h
theorem hd1_of {p : Addr} {H H' : Hp} (s : Same H H') (n : H p = none) : Same H (hd1 p H') := fun b o e => by
  rw [hd1_at (ne_of_none e n)]
  exact s _ _ e
theorem same_of_hd1 {p : Addr} {H H' : Hp} {o : HO} (s : Same H (hd1 p H')) : Same H (upd H' p o) := fun b x e => by
  have z := s b x e
  unfold hd1 at z
  by_cases h : b = p
  · rw [if_pos h] at z; cases z
  · rw [if_neg h] at z; rw [upd_ne h]; exact z

/-! ### tables and gates -/
def tabOf (bs : List Bool) : Str := ⟨(bs.map fun b => if b = true then 49 else 48).toArray⟩
def plc (ws : List Int) : Int := ws.foldl (fun p w => 2 * p + w) 0
def gateM (bs : List Bool) (ws : List Int) : Int := if bs.getD (plc ws).toNat false = true then 1 else 0
theorem plc_snoc (ws : List Int) (w : Int) : plc (ws ++ [w]) = 2 * plc ws + w := by
  unfold plc
  rw [List.foldl_append]
  rfl
theorem plc_take {ws : List Int} {i : Nat} {u : Int} (h : ws[i]? = some u) : plc (ws.take (i + 1)) = 2 * plc (ws.take i) + u := by
  rw [List.take_add_one, h]
  exact plc_snoc _ _
theorem plc_bd : ∀ (n : Nat) (ws : List Int), ws.length = n → (∀ w ∈ ws, w = 0 ∨ w = 1) → 0 ≤ plc ws ∧ plc ws < 2 ^ n := by
  intro n
  induction n with
  | zero =>
    intro ws h _
    cases List.eq_nil_of_length_eq_zero h
    decide
  | succ n ih =>
    intro ws h hw
    have hne : ws ≠ [] := fun z => by rw [z] at h; cases h
    obtain ⟨r, x, rfl⟩ : ∃ r x, ws = r ++ [x] := ⟨ws.dropLast, ws.getLast hne, (List.dropLast_concat_getLast hne).symm⟩
    have hr := ih r (by rw [List.length_append] at h; simpa using h) fun w h' => hw w (List.mem_append_left _ h')
    have hx := hw x (by simp)
    rw [plc_snoc, Int.pow_succ]
    omega
theorem gate01 (bs : List Bool) (ws : List Int) : gateM bs ws = 0 ∨ gateM bs ws = 1 := by
  unfold gateM
  split
  · exact .inr rfl
  · exact .inl rfl
theorem int_sign (b : Bool) : PySem.intText? ⟨#[if b = true then 49 else 48]⟩ = some (if b = true then 1 else 0) := by
  cases b <;> decide +kernel
def spGate (K : PySem.W.Frag) : Sp := fun vs H Q _ => ∃ (bs : List Bool) (la : Addr) (ws : List Int), vs = [.str (tabOf bs), .ref la] ∧ SqL K H la (ws.map V.int) ∧ (∀ w ∈ ws, w = 0 ∨ w = 1) ∧ bs.length = 2 ^ ws.length ∧ ws.length ≤ 3 ∧ Q (.int (gateM bs ws)) H
theorem gate_read {bs : List Bool} {ws : List Int} (hw : ∀ w ∈ ws, w = 0 ∨ w = 1) (hb : bs.length = 2 ^ ws.length) (h3 : ws.length ≤ 3) : ∃ b : Bool, 0 ≤ plc ws ∧ plc ws < 2 ^ 63 ∧ plc ws < (tabOf bs).length ∧ (tabOf bs).cps[(plc ws).toNat]? = some (if b = true then 49 else 48) ∧ gateM bs ws = if b = true then 1 else 0 := by
  obtain ⟨p0, p1⟩ := plc_bd _ ws rfl hw
  have p8 : plc ws < 8 := by
    have : (2 : Int) ^ ws.length ≤ 8 := by
      have : ws.length = 0 ∨ ws.length = 1 ∨ ws.length = 2 ∨ ws.length = 3 := by omega
      rcases this with h | h | h | h <;> rw [h] <;> decide
    omega
  have hlt : (plc ws).toNat < bs.length := by
    have : ((2 ^ ws.length : Nat) : Int) = (2 : Int) ^ ws.length := by simp
    omega
  refine ⟨bs[(plc ws).toNat], p0, by omega, ?_, ?_, ?_⟩
  · have : (tabOf bs).length = bs.length := by simp [tabOf, Str.length]
    rw [this]
    omega
  · simp [tabOf, List.getElem?_eq_getElem hlt]
  · unfold gateM
    rw [List.getD_eq_getElem?_getD, List.getElem?_eq_getElem hlt]
    rfl

/-! ### walks -/
theorem gx_tup {α : Type} {K : PySem.W.Frag} {a : Addr} {xs : List V} {g : TG} {tt : TT} {te : TE} {vs : List Nat} {σ0 : L2.St} {End : α → Hp → Prop} {Yd : α → V → Hp → (α → Hp → Prop) → Prop} {a0 : α} {H0 : Hp} (Pv : Nat → α → Hp → Prop) (h0 : Pv 0 a0 H0)
    (hl : ∀ i c H, i ≤ xs.length → Pv i c H → SqT K H a xs)
    (hs : ∀ i x c H, xs[i]? = some x → Pv i c H → g x σ0 H fun σ2 H2 => wipe σ2 vs = σ0 ∧ tt σ2 H2 fun b H3 => if b = true then te σ2 H3 fun y H4 => Yd c y H4 (Pv (i + 1)) else Pv (i + 1) c H3) (hd : ∀ c H, Pv xs.length c H → End c H) :
    ∃ W : Nat → Nat → α → Hp → Prop, (∃ m, W 0 m a0 H0) ∧ tGx (Itt K a) g tt te σ0 vs End Yd W := by
  refine ⟨fun i m c H => m = xs.length - i ∧ i ≤ xs.length ∧ Pv i c H, ⟨xs.length, rfl, Nat.zero_le _, h0⟩, ?_⟩
  rintro i m c H ⟨rfl, hi, p⟩
  by_cases hlt : i < xs.length
  · have hx : xs[i]? = some xs[i] := List.getElem?_eq_getElem hlt
    refine .inr ⟨⟨xs, xs[i], hl i c H hi p, hx⟩, Pv (i + 1), fun c' H' p' => ⟨xs.length - (i + 1), by omega, rfl, hlt, p'⟩, fun x H' y => ?_⟩
    obtain ⟨rfl, y⟩ := y
    exact hs i x c _ (y xs (hl i c _ hi p)) p
  · have e : i = xs.length := by omega
    subst e
    exact .inl ⟨⟨xs, hl _ c H hi p, Nat.le_refl _⟩, hd c H p⟩
theorem lc_zipT {K : PySem.W.Frag} {a b : Addr} {xs ys : List V} {g : TG} {tt : TT} {te : TE} {vs : List Nat} {σ : L2.St} {H1 : Hp} {D : Addr} {Qd : Hp → Prop} (el : xs.length = ys.length) (Pv : Nat → Hp → Prop) (h0 : Pv 0 (upd H1 D (.lst []))) (hl : ∀ i H, i ≤ xs.length → Pv i H → SqT K H a xs ∧ SqT K H b ys)
    (hs : ∀ i x y T H, xs[i]? = some x → ys[i]? = some y → H T = none → Pv i H → g (.ref T) (wipe σ vs) (upd H T (.tup [x, y])) fun σ2 H2 => wipe σ2 vs = wipe σ vs ∧ tt σ2 H2 fun b H3 =>
      if b = true then te σ2 H3 fun y H4 => ∃ acc, H4 D = some (.lst acc) ∧ acc.length < sizeLine ∧ Pv (i + 1) (upd H4 D (.lst (acc ++ [y]))) else Pv (i + 1) H3) (hd : ∀ H, Pv xs.length H → Qd H) :
    ∃ W : Nat → Nat → Hp → Prop, (∃ m, W 0 m (upd H1 D (.lst []))) ∧ ∀ i m H, W i m H →
      ((RZ.ItzT K a b).stop i H ∧ Qd H) ∨ ((RZ.ItzT K a b).go i H ∧ ∃ Nx : Hp → Prop, (∀ H', Nx H' → ∃ m', m' < m ∧ W (i + 1) m' H') ∧ ∀ x H', (RZ.ItzT K a b).yld i H x H' → g x (wipe σ vs) H' fun σ2 H2 => wipe σ2 vs = wipe σ vs ∧ tt σ2 H2 fun b H3 =>
        if b = true then te σ2 H3 fun y H4 => ∃ acc, H4 D = some (.lst acc) ∧ acc.length < sizeLine ∧ Nx (upd H4 D (.lst (acc ++ [y]))) else Nx H3) := by
  refine ⟨fun i m H => m = xs.length - i ∧ i ≤ xs.length ∧ Pv i H, ⟨xs.length, by simp, Nat.zero_le _, h0⟩, ?_⟩
  rintro i m H ⟨rfl, hi, p⟩
  obtain ⟨qx, qy⟩ := hl i H hi p
  by_cases hlt : i < xs.length
  · have hx : xs[i]? = some xs[i] := List.getElem?_eq_getElem hlt
    have hy : ys[i]? = some (ys[i]'(by omega)) := List.getElem?_eq_getElem _
    refine .inr ⟨⟨xs, ys, _, _, qx, qy, hx, hy⟩, Pv (i + 1), fun H' p' => ⟨xs.length - (i + 1), by omega, rfl, hlt, p'⟩, fun x H' y => ?_⟩
    obtain ⟨T, x1, y1, rfl, nT, rfl, e1, e2⟩ := y
    exact hs i x1 y1 T H (e1 xs qx) (e2 ys qy) nT p
  · have e : i = xs.length := by omega
    subst e
    exact .inl ⟨⟨xs, ys, qx, qy, .inl (Nat.le_refl _)⟩, hd H p⟩

/-! ### nets, and the words of nets -/
abbrev Gt := List Bool × List Nat
def gD (g : Gt) : PyData := .tuple [.str (tabOf g.1), .tuple ((g.2.map Int.ofNat).map PyData.int)]
def netD (many : Int) (gs : List Gt) : PyData := .tuple [.int many, .tuple (gs.map gD)]
def rowD (r : List Int) : PyData := .tuple (r.map PyData.int)
def chD (a b : List Int) : PyData := .tuple [rowD a, rowD b]
def GtOk (n : Nat) (g : Gt) : Prop := g.1.length = 2 ^ g.2.length ∧ 1 ≤ g.2.length ∧ g.2.length ≤ 3 ∧ ∀ i ∈ g.2, i < n
def NetOk (n : Nat) (gs : List Gt) : Prop := ∀ k g, gs[k]? = some g → GtOk (n + k) g
def Row01 (r : List Int) : Prop := ∀ x ∈ r, x = 0 ∨ x = 1
mutual
theorem Tk.gr {H H' : Hp} (s : Gr H H') : ∀ {v : V} {d : PyData}, Tk H v d → Tk H' v d
  | _, _, .bl b => .bl b
  | _, _, .int i => .int i
  | _, _, .str x => .str x
  | _, _, .lst h t => .lst (s.lst h) (t.gr s)
  | _, _, .tup h t => .tup (s.tup h) (t.gr s)
theorem TkAll.gr {H H' : Hp} (s : Gr H H') : ∀ {vs : List V} {ds : List PyData}, TkAll H vs ds → TkAll H' vs ds
  | _, _, .nil => .nil
  | _, _, .cons h t => .cons (h.gr s) (t.gr s)
end
theorem Tk.row_inv {H : Hp} {v : V} {r : List Int} (h : Tk H v (rowD r)) : ∃ a, v = .ref a ∧ H a = some (.tup (r.map V.int)) := by
  obtain ⟨a, xs, rfl, ha, t⟩ := h.tup_inv
  rw [t.int_inv] at ha
  exact ⟨a, rfl, ha⟩
theorem Tk.ch_inv {H : Hp} {v : V} {a b : List Int} (h : Tk H v (chD a b)) : ∃ c ra rb, v = .ref c ∧ H c = some (.tup [.ref ra, .ref rb]) ∧ H ra = some (.tup (a.map V.int)) ∧ H rb = some (.tup (b.map V.int)) := by
  obtain ⟨c, xs, rfl, hc, t⟩ := h.tup_inv
  cases t with
  | cons h1 t => cases t with
    | cons h2 t =>
      cases t
      obtain ⟨ra, rfl, ha⟩ := h1.row_inv
      obtain ⟨rb, rfl, hb⟩ := h2.row_inv
      exact ⟨c, ra, rb, rfl, hc, ha, hb⟩
theorem Tk.net_inv {H : Hp} {v : V} {m : Int} {gs : List Gt} (h : Tk H v (netD m gs)) : ∃ n g xs, v = .ref n ∧ H n = some (.tup [.int m, .ref g]) ∧ H g = some (.tup xs) ∧ TkAll H xs (gs.map gD) := by
  obtain ⟨n, xs, rfl, hn, t⟩ := h.tup_inv
  cases t with
  | cons h1 t => cases t with
    | cons h2 t =>
      cases t
      cases h1
      obtain ⟨g, ys, rfl, hg, t2⟩ := h2.tup_inv
      exact ⟨n, g, ys, rfl, hn, hg, t2⟩
theorem Tk.gt_inv {H : Hp} {v : V} {g : Gt} (h : Tk H v (gD g)) : ∃ a i, v = .ref a ∧ H a = some (.tup [.str (tabOf g.1), .ref i]) ∧ H i = some (.tup ((g.2.map Int.ofNat).map V.int)) := by
  obtain ⟨a, xs, rfl, ha, t⟩ := h.tup_inv
  cases t with
  | cons h1 t => cases t with
    | cons h2 t =>
      cases t
      cases h1
      obtain ⟨i, rfl, hi⟩ := (show Tk H _ (rowD (g.2.map Int.ofNat)) from h2).row_inv
      exact ⟨a, i, rfl, ha, hi⟩
theorem TkAll.at {H : Hp} {α : Type} {f : α → PyData} {xs : List V} {ds : List α} (t : TkAll H xs (ds.map f)) {j : Nat} {v : V} (h : xs[j]? = some v) : ∃ x, ds[j]? = some x ∧ Tk H v (f x) := by
  obtain ⟨dx, hdx, tx⟩ := t.get h
  rw [List.getElem?_map] at hdx
  cases hz : ds[j]? with
  | none => rw [hz] at hdx; cases hdx
  | some x =>
    rw [hz] at hdx
    cases Option.some.inj hdx
    exact ⟨x, rfl, tx⟩
theorem TkAll.at' {H : Hp} {α : Type} {f : α → PyData} {xs : List V} {ds : List α} (t : TkAll H xs (ds.map f)) {j : Nat} {x : α} (h : ds[j]? = some x) : ∃ v, xs[j]? = some v ∧ Tk H v (f x) := by
  have hl := t.length
  rw [List.length_map] at hl
  have hj := (List.getElem?_eq_some_iff.mp h).1
  obtain ⟨y, hy, ty⟩ := t.at (List.getElem?_eq_getElem (l := xs) (i := j) (by omega))
  cases Option.some.inj (h.symm.trans hy)
  exact ⟨_, List.getElem?_eq_getElem _, ty⟩
theorem grow_upd {H H' : Hp} {p : Addr} {o : HO} (g : Gr H H') (n : H' p = none) : Gr H (upd H' p o) := g.trans (Gr.none n)
/-- no table, no older list: only the list at D is written -/
def GrD (D : Addr) (H H' : Hp) : Prop := Gr H (hd1 D H')
theorem GrD.gr {D : Addr} {H H' : Hp} (g : GrD D H H') : Gr H H' := g.trans (Gr.of hd1_le)
theorem TabG_hd1 {D P : Addr} {H : Hp} (h : GxR.TabG H P) (n : D ≠ P) : GxR.TabG (hd1 D H) P := by
  obtain ⟨ps, e, t⟩ := h
  exact ⟨ps, by rw [hd1_at (Ne.symm n)]; exact e, t⟩
theorem GrD.new {D : Addr} {H : Hp} {o : HO} (n : H D = none) : GrD D H (upd H D o) := Gr.of (hd1_of (same_upd n) n)
theorem hd1_gr {D : Addr} {H H' : Hp} (g : Gr H H') (hD : ∀ P, GxR.TabG H P → D ≠ P) : Gr (hd1 D H) (hd1 D H') := by
  refine ⟨fun b o n e => ?_, fun b t => ?_⟩
  · have hb : b ≠ D := fun z => by
      unfold hd1 at e
      rw [if_pos z] at e; cases e
    rw [hd1_at hb] at e ⊢
    exact g.1 b o n e
  · obtain ⟨ps, e, t⟩ := t
    have e' := hd1_le _ _ e
    exact TabG_hd1 (g.2 b ⟨ps, e', t⟩) (hD b ⟨ps, e', t⟩)
theorem GrD.then {D : Addr} {H H1 H2 : Hp} {xs : List V} (a : GrD D H H1) (hD : H1 D = some (.lst xs)) (b : Gr H1 H2) : GrD D H H2 := a.trans (hd1_gr b fun P ⟨ps, e, _⟩ z => by
  rw [← z, hD] at e
  cases e)
theorem GrD.set {D : Addr} {H H1 : Hp} {o : HO} (a : GrD D H H1) : GrD D H (upd H1 D o) := a.trans (Gr.of hd1_upd)

end Gk

set_option Elab.async false
set_option linter.all false
set_option maxRecDepth 100000
set_option maxHeartbeats 1000000
set_option pp.maxSteps 1500
set_option pp.deepTerms false
namespace Gk
open PySem PySem.Spec PyProof.Rows L2
/-! ### data of tuples alone: no list that is written can harm it -/
mutual
def noL : PyData → Bool
  | .list _ => false
  | .tuple ds => noLs ds
  | _ => true
def noLs : List PyData → Bool
  | [] => true
  | d :: r => noL d && noLs r
end
def Ts (H H' : Hp) : Prop := ∀ b xs, H b = some (HO.tup xs) → H' b = some (.tup xs)
theorem Ts.refl {H : Hp} : Ts H H := fun _ _ e => e
theorem Ts.trans {H H1 H2 : Hp} (a : Ts H H1) (b : Ts H1 H2) : Ts H H2 := fun c xs e => b c xs (a c xs e)
theorem Ts.same {H H' : Hp} (s : Same H H') : Ts H H' := fun b xs e => s _ _ e
theorem Ts.gr {H H' : Hp} (s : Gr H H') : Ts H H' := fun b xs e => s.tup e
theorem Ts.new {H : Hp} {p : Addr} {o : HO} (h : H p = none) : Ts H (upd H p o) := Ts.same (same_upd h)
theorem Ts.set {H : Hp} {p : Addr} {xs ys : List V} (h : H p = some (.lst xs)) : Ts H (upd H p (.lst ys)) := fun b zs e => by
  rw [upd_ne (ne_of e h (by intro z; cases z))]
  exact e
mutual
theorem Tk.ts {H H' : Hp} (s : Ts H H') : ∀ {v : V} {d : PyData}, Tk H v d → noL d = true → Tk H' v d
  | _, _, .bl b, _ => .bl b
  | _, _, .int i, _ => .int i
  | _, _, .str x, _ => .str x
  | _, _, .lst h t, n => by cases n
  | _, _, .tup h t, n => .tup (s _ _ h) (t.ts s n)
theorem TkAll.ts {H H' : Hp} (s : Ts H H') : ∀ {vs : List V} {ds : List PyData}, TkAll H vs ds → noLs ds = true → TkAll H' vs ds
  | _, _, .nil, _ => .nil
  | _, _, .cons (d := d) (ds := ds) h t, n => by
    have n' : noL d = true ∧ noLs ds = true := Bool.and_eq_true_iff.mp n
    exact .cons (h.ts s n'.1) (t.ts s n'.2)
end
theorem noLs_map {α : Type} {f : α → PyData} (h : ∀ x, noL (f x) = true) : ∀ l : List α, noLs (l.map f) = true
  | [] => rfl
  | x :: r => by
    show (noL (f x) && noLs (r.map f)) = true
    rw [h x, noLs_map h r]
    rfl
theorem noL_row (r : List Int) : noL (rowD r) = true := noLs_map (fun _ => rfl) r
theorem noL_gate (g : Gt) : noL (gD g) = true := by
  show (true && (noLs ((g.2.map Int.ofNat).map PyData.int) && true)) = true
  rw [noLs_map (fun _ => rfl)]
  rfl
theorem noL_gates (gs : List Gt) : noLs (gs.map gD) = true := noLs_map noL_gate gs
theorem noL_net (m : Int) (gs : List Gt) : noL (netD m gs) = true := by
  show (true && (noLs (gs.map gD) && true)) = true
  rw [noL_gates]
  rfl
theorem noL_ch (a b : List Int) : noL (chD a b) = true := by
  show (noL (rowD a) && (noL (rowD b) && true)) = true
  rw [noL_row, noL_row]
  rfl

/-! ### slices and sums of tuples: what is told stands in a heap that has grown -/
theorem cut_all {xs : List V} {lo hi : Option Int} (h : HT.sIx xs.length 0 lo = 0 ∧ HT.sIx xs.length xs.length hi = xs.length) : cutV xs lo hi = xs := by
  unfold cutV
  rw [h.1, h.2, List.drop_zero, Nat.sub_zero, List.take_length]
theorem same_refl {H : Hp} : Same H H := fun _ _ e => e
theorem slA {K : PySem.W.Frag} {a : Addr} {xs : List V} {lo hi : Option Int} {H : Hp} {Q : VK} (h : H a = some (.tup xs)) (q : ∀ p H', Same H H' → H' p = some (.tup (cutV xs lo hi)) → Q (.ref p) H') : rSlA K (.ref a) lo hi H Q :=
  ⟨a, xs, rfl, SqT.of h, fun w => q a H same_refl (by rw [cut_all w]; exact h), fun _ p np => q p _ (same_upd np) upd_same⟩
theorem slAn {K : PySem.W.Frag} {a : Addr} {xs : List V} {lo : Option Int} {H : Hp} {Q : VK} {σ : L2.St} (h : H a = some (.tup xs)) (q : ∀ p H', Same H H' → H' p = some (.tup (cutV xs lo none)) → Q (.ref p) H') : tNoPart σ H (fun u H3 => rSlA K (.ref a) lo u H3 Q) := slA h q
theorem catA {K : PySem.W.Frag} {a b : Addr} {xs ys : List V} {H : Hp} {Q : VK} (ha : H a = some (.tup xs)) (hb : H b = some (.tup ys)) (hl : xs.length + ys.length ≤ sizeLine) (q : ∀ p H', Same H H' → H' p = some (.tup (xs ++ ys)) → Q (.ref p) H') : rCatA K (.ref a) (.ref b) H Q :=
  ⟨a, b, xs, ys, rfl, rfl, SqT.of ha, SqT.of hb, hl, fun e => q b H same_refl (by rw [e]; exact hb), fun _ e => q a H same_refl (by rw [e, List.append_nil]; exact ha), fun _ _ p np => q p _ (same_upd np) upd_same⟩
theorem cut_to {xs : List V} {k : Nat} : cutV xs none (some (k : Int)) = xs.take k := by
  unfold cutV
  rw [HT.sIx_none, HT.sIx_nat, List.drop_zero, Nat.sub_zero]
  apply List.ext_getElem?
  intro i
  rw [List.getElem?_take, List.getElem?_take]
  by_cases h : i < k
  · rw [if_pos h]
    by_cases h2 : i < xs.length
    · rw [if_pos (by omega)]
    · rw [List.getElem?_eq_none (by omega)]
      split <;> rfl
  · rw [if_neg h, if_neg (by omega)]
theorem cut_from {xs : List V} {k : Nat} : cutV xs (some (k : Int)) none = xs.drop k := by
  unfold cutV
  rw [HT.sIx_none, HT.sIx_nat]
  by_cases h : k ≤ xs.length
  · rw [Nat.min_eq_left h]
    exact List.take_of_length_le (by rw [List.length_drop]; exact Nat.le_refl _)
  · rw [Nat.min_eq_right (by omega), Nat.sub_self, List.take_zero, List.drop_eq_nil_of_le (by omega)]
theorem TkAll.take {H : Hp} : ∀ {xs : List V} {ds : List PyData} (k : Nat), TkAll H xs ds → TkAll H (xs.take k) (ds.take k)
  | _, _, 0, _ => by rw [List.take_zero, List.take_zero]; exact .nil
  | _, _, _ + 1, .nil => .nil
  | _, _, k + 1, .cons a t => .cons a (t.take k)
theorem TkAll.drop {H : Hp} : ∀ {xs : List V} {ds : List PyData} (k : Nat), TkAll H xs ds → TkAll H (xs.drop k) (ds.drop k)
  | _, _, 0, t => t
  | _, _, _ + 1, .nil => .nil
  | _, _, k + 1, .cons _ t => t.drop k
theorem set_put {α : Type} {l : List α} {i : Nat} {x : α} (h : i < l.length) : (l.take i ++ [x]) ++ l.drop (i + 1) = l.set i x := by
  rw [List.set_eq_take_append_cons_drop, if_pos h, List.append_assoc]
  rfl
def rJoinK (K : PySem.W.Frag) : V → List V → Hp → VK → Prop := fun x xs H Q => ∃ a p, ∃ ys : List Str, x = .str a ∧ xs = [.ref p] ∧ (SqL K H p (ys.map V.str) ∨ SqT K H p (ys.map V.str)) ∧ (ys.map (·.length)).sum + ys.length * a.length ≤ 16777216 ∧ Q (.str (Txt.join a ys)) H

section
variable {P : Program} {w : World} {K : PySem.W.Frag} {mg : Str → Option Value} {base : Heap}
/-! ### the deck of k07 to k13: a dict with cells from behind, a seed, a count -/
theorem mix_mul (x : Int) (h : 0 ≤ x) (h1 : x < 2147483648) : -2 ^ 64 < x ∧ x < 2 ^ 64 := by omega
def sp_mixed (K : PySem.W.Frag) : Sp := fun vs H Q _ => ∃ i : Int, vs = [.int i] ∧ ∀ v : Int, 0 ≤ v → v < 2147483587 → Q (.int v) H
theorem ok_mixed (T : Tx K mg) : FnOk P w K mg base CX0 1 T.f_mixed T.fd_mixed ["_law_number"] (sp_mixed K) := by
  refine T.F_mixed.ok sc_mixed (fun vs H Q E h => ?_) (fun cdv A outer s H vs Q E hr h => ?_)
  · obtain ⟨i, rfl, _⟩ := h
    rfl
  · obtain ⟨i, rfl, q⟩ := h
    refine ⟨_, (pss_cons (ps_set (i := 0) sc_mixed.nd rfl (by first | exact .inl rfl | exact .inr rfl) (pe_op op_mod (pe_op op_add (pe_op op_mul (pe_op op_mod (pv 0) pe_int) pe_int) pe_int) pe_int)) (pss_cons (ps_set (i := 0) sc_mixed.nd rfl (by first | exact .inl rfl | exact .inr rfl) (pe_op op_mod (pe_op op_add (pe_op op_add (pe_op op_mul (pv 0) (pv 0)) (pe_op op_mul pe_int (pv 0))) pe_int) pe_int)) (pss_one (ps_ret (pe_op op_mod (pe_op op_add (pe_op op_mul (pv 0) pe_int) pe_int) pe_int))))), ?_⟩
    have p1 : (0 : Int) < 2147483629 := by decide
    have p2 : (0 : Int) < 2147483647 := by decide
    have p3 : (0 : Int) < 2147483587 := by decide
    have small : ∀ x y : Int, 0 < y → y < 2147483648 → (-2 ^ 64 < x % y ∧ x % y < 2 ^ 64) := fun x y h0 h1 => by
      have a := Int.emod_nonneg x (show y ≠ 0 by omega)
      have b := Int.emod_lt_of_pos x h0
      omega
    refine ⟨.int i, rfl, _, _, rfl, rfl, p1, _, _, rfl, rfl, .inr ⟨by decide, by decide⟩, _, _, rfl, rfl, _, _, rfl, rfl, p2, ?_⟩
    refine ⟨_, rfl, _, rfl, _, _, rfl, rfl, .inl (small _ _ p2 (by decide)), _, rfl, _, _, rfl, rfl, .inl ⟨by decide, by decide⟩, _, _, rfl, rfl, _, _, rfl, rfl, _, _, rfl, rfl, p1, ?_⟩
    refine ⟨_, rfl, _, _, rfl, rfl, .inr ⟨by decide, by decide⟩, _, _, rfl, rfl, _, _, rfl, rfl, p3, ?_⟩
    exact q _ (Int.emod_nonneg _ (by decide)) (Int.emod_lt_of_pos _ p3)
def kC : Key := .inr (Str.ofString "cells")
def kS : Key := .inr (Str.ofString "seed")
def kA : Key := .inr (Str.ofString "at")
def DeckF (H : Hp) (d l : Addr) (n : Int) : Prop := d ≠ l ∧ ∃ (cs : List Int) (y z : Int), H d = some (.dK [(kC, .ref l), (kS, .int y), (kA, .int z)]) ∧ H l = some (.lst (cs.map V.int)) ∧ cs.length ≤ 63 ∧ 0 ≤ z ∧ z ≤ n
theorem cut63 {ns : List Int} (h : ns.length ≤ 63) : cutV (ns.map V.int) none (some 63) = ns.map V.int := by
  unfold cutV
  have e : HT.sIx (ns.map V.int).length (ns.map V.int).length (some 63) = min 63 (ns.map V.int).length := HT.sIx_nat _ _ 63
  rw [HT.sIx_none, e, List.length_map, List.drop_zero]
  apply List.take_of_length_le
  rw [List.length_map]
  omega
def sp_deck (K : PySem.W.Frag) : Sp := fun vs H Q _ => ∃ (a : Addr) (ns : List Int), vs = [.ref a] ∧ SqL K H a (ns.map V.int) ∧ ns.length ≤ 63 ∧ ∀ H' d l, Same H H' → DeckF H' d l 0 → Q (.ref d) H'
theorem ok_deck (T : Tx K mg) : FnOk P w K mg base CX0 1 T.f_deck T.fd_deck ["_law_script"] (sp_deck K) := by
  refine T.F_deck.ok sc_deck (fun vs H Q E h => ?_) (fun cdv A outer s H vs Q E hr h => ?_)
  · obtain ⟨a, ns, rfl, _⟩ := h
    rfl
  · obtain ⟨a, ns, rfl, hS, hlen, q⟩ := h
    refine ⟨_, (pss_cons (ps_set (i := 1) sc_deck.nd rfl (by first | exact .inl rfl | exact .inr rfl) (pe_callTy call_list_of (by rfl) T.m_list (by decide +kernel) (pa_cons (pe_slice sl_list (pv 0) po_none (po_some pe_int)) pa_nil))) (pss_one (ps_ret (pe_disp (pps_cons pe_str (pe_revL (pv 1)) (pps_cons pe_str (pe_op op_add pe_int (pe_op op_mod (pe_callB (cr_sum rfl) (by rfl) T.m_sum (by decide +kernel) (pa_cons (pv 1) pa_nil)) pe_int)) (pps_cons pe_str pe_int pps_nil))) (by rfl) (by rfl) (fun z => by cases z) (by decide))))), ?_⟩
    refine ⟨.ref a, rfl, 63, rfl, a, _, rfl, hS, fun c1 n1 => ?_⟩
    rw [cut63 hlen]
    have s1 := same_upd (o := (HO.lst (ns.map V.int))) n1
    have h1 : upd H c1 (HO.lst (ns.map V.int)) c1 = some (HO.lst (ns.map V.int)) := upd_same
    generalize upd H c1 (HO.lst (ns.map V.int)) = H1 at s1 h1 ⊢
    refine ⟨c1, _, rfl, .inl (SqL.of h1), fun c2 n2 => ?_⟩
    have s2 := same_upd (o := (HO.lst (ns.map V.int))) n2
    have h2 : upd H1 c2 (HO.lst (ns.map V.int)) c2 = some (HO.lst (ns.map V.int)) := upd_same
    generalize upd H1 c2 (HO.lst (ns.map V.int)) = H2 at s2 h2 ⊢
    refine fun d nd => ?_
    have s3 := same_upd (o := (HO.dK [])) nd
    have h3 : upd H2 d (HO.dK []) d = some (HO.dK []) := upd_same
    generalize upd H2 d (HO.dK []) = H3 at s3 h3 ⊢
    refine ⟨.ref c2, rfl, c2, _, rfl, SqL.of (s3 _ _ h2), fun l nl => ?_⟩
    have s4 := same_upd (o := (HO.lst (ns.map V.int).reverse)) nl
    have h4 : upd H3 l (HO.lst (ns.map V.int).reverse) l = some (HO.lst (ns.map V.int).reverse) := upd_same
    generalize upd H3 l (HO.lst (ns.map V.int).reverse) = H4 at s4 h4 ⊢
    have s24 := s3.trans s4
    refine ⟨.ref c2, rfl, c2, ns, rfl, SqL.of (s24 _ _ h2), _, _, rfl, rfl, (show (0 : Int) < 2147483647 by decide), _, _, rfl, rfl, ?_⟩
    refine ⟨s4 _ _ h3, [(kC, .ref l), (kS, _), (kA, .int 0)], rfl, (show 3 ≤ 15 by decide), ?_⟩
    have nH : H d = none := by
      cases e : H d with
      | none => rfl
      | some o =>
        have := (s1.trans s2) _ _ e
        rw [nd] at this
        cases this
    have em : ∀ v1 v2 v3 : V, mergeK [] [(kC, v1), (kS, v2), (kA, v3)] = [(kC, v1), (kS, v2), (kA, v3)] := fun v1 v2 v3 => rfl
    rw [em]
    have ndl : l ≠ d := (ne_of_none h3 nl).symm
    have hl' : upd H4 d (.dK [(kC, .ref l), (kS, V.int (48271 + ns.sum % 2147483647)), (kA, .int 0)]) l = some (.lst ((ns.reverse).map V.int)) := by
      rw [upd_ne ndl, h4, List.map_reverse]
    refine q _ d l (fun b o e => ?_) ⟨ndl.symm, ns.reverse, _, 0, upd_same, hl', by rw [List.length_reverse]; exact hlen, Int.le_refl _, Int.le_refl _⟩
    rw [upd_ne (ne_of_none e nH)]
    exact (((s1.trans s2).trans s3).trans s4) _ _ e
/-! ### a draw -/
theorem DeckF.mono {H : Hp} {d l : Addr} {n m : Int} (D : DeckF H d l n) (h : n ≤ m) : DeckF H d l m := by
  obtain ⟨ne, cs, y, z, h1, h2, h3, h4, h5⟩ := D
  exact ⟨ne, cs, y, z, h1, h2, h3, h4, Int.le_trans h5 h⟩
theorem DeckF.same {H H' : Hp} {d l : Addr} {n : Int} (D : DeckF H d l n) (s : Same H H') : DeckF H' d l n := by
  obtain ⟨ne, cs, y, z, hd, hl, r⟩ := D
  exact ⟨ne, cs, y, z, s _ _ hd, s _ _ hl, r⟩
theorem DeckF.gr {H H' : Hp} {d l : Addr} {n : Int} (D : DeckF H d l n) (s : Gr H H') : DeckF H' d l n := by
  obtain ⟨ne, cs, y, z, hd, hl, r⟩ := D
  exact ⟨ne, cs, y, z, s.1 d _ (fun _ z => by cases z) hd, s.lst hl, r⟩
theorem DeckF.upd {H : Hp} {d l p : Addr} {n : Int} {o : HO} (D : DeckF H d l n) (h1 : p ≠ d) (h2 : p ≠ l) : DeckF (upd H p o) d l n := by
  obtain ⟨ne, cs, y, z, hd, hl, r⟩ := D
  exact ⟨ne, cs, y, z, by rw [upd_ne h1.symm]; exact hd, by rw [upd_ne h2.symm]; exact hl, r⟩
theorem DeckF.off {H : Hp} {d l p : Addr} {n : Int} (D : DeckF H d l n) (h : H p = none) : p ≠ d ∧ p ≠ l := by
  obtain ⟨ne, cs, y, z, hd, hl, r⟩ := D
  exact ⟨(ne_of_none hd h).symm, (ne_of_none hl h).symm⟩
theorem dgC {H : Hp} {d l : Addr} {y z : Int} (h : H d = some (.dK [(kC, .ref l), (kS, .int y), (kA, .int z)])) : DGet H d (.str (Str.ofString "cells")) (some (.ref l)) := DGet.k (k := kC) h
theorem dgS {H : Hp} {d l : Addr} {y z : Int} (h : H d = some (.dK [(kC, .ref l), (kS, .int y), (kA, .int z)])) : DGet H d (.str (Str.ofString "seed")) (some (.int y)) := DGet.k (k := kS) h
theorem dgA {H : Hp} {d l : Addr} {y z : Int} (h : H d = some (.dK [(kC, .ref l), (kS, .int y), (kA, .int z)])) : DGet H d (.str (Str.ofString "at")) (some (.int z)) := DGet.k (k := kA) h
theorem dpS {H : Hp} {d l : Addr} {y z : Int} (v : Int) (h : H d = some (.dK [(kC, .ref l), (kS, .int y), (kA, .int z)])) : DPut H d (.str (Str.ofString "seed")) (.int v) (upd H d (.dK [(kC, .ref l), (kS, .int v), (kA, .int z)])) := DPut.k (k := kS) h (by show 3 < sizeLine; decide)
theorem dpA {H : Hp} {d l : Addr} {y z : Int} (v : Int) (h : H d = some (.dK [(kC, .ref l), (kS, .int y), (kA, .int z)])) : DPut H d (.str (Str.ofString "at")) (.int v) (upd H d (.dK [(kC, .ref l), (kS, .int y), (kA, .int v)])) := DPut.k (k := kA) h (by show 3 < sizeLine; decide)
theorem never_ok {f : Addr} {fd : FuncData} {ps : List Str} : FnOk P w K mg base CX0 0 f fd ps (fun _ _ _ _ => False) := ⟨fun _ _ _ _ h => h.elim, fun _ _ _ _ _ _ _ _ _ _ _ _ _ h => h.elim⟩
def sp_drawN (K : PySem.W.Frag) (B c : Int) : Sp := fun vs H Q _ => ∃ (d l : Addr) (m n : Int), vs = [.ref d, .int m] ∧ DeckF H d l n ∧ n + c < 1000000000 ∧ 0 < m ∧ m ≤ B ∧ ∀ H' v, DeckF H' d l (n + c) → Fr d l H H' → 0 ≤ v → v < m → Q (.int v) H'
theorem ok_draw0 (T : Tx K mg) : FnOk P w K mg base CX0 2 T.f_draw T.fd_draw ["_law_deck_here", "_law_most"] (sp_drawN K 1000000 1) := by
  refine T.F_draw.ok sc_draw (fun vs H Q E h => ?_) (fun cdv A outer s H vs Q E hr h => ?_)
  · obtain ⟨d, l, m, n, rfl, _⟩ := h
    rfl
  · obtain ⟨d, l, m, n, rfl, D, hn, hm0, hm1, q⟩ := h
    refine ⟨_, (pss_cons (ps_if (pt_cmpR op_gt (pv 1) (pe_op op_pow pe_int pe_int) (nomark _)) (pss_cons (ps_set (i := 2) sc_draw.nd rfl (by first | exact .inl rfl | exact .inr rfl) (pe_call (never_ok) (hr.mono (by decide)) (by rfl) T.g_draw T.F_draw.kp T.b_draw .nil pass0 (pa_cons (pv 0) (pa_cons (pe_op op_pow pe_int pe_int) pa_nil)))) (pss_one (ps_ret (pe_op op_mod (pe_op op_add (pv 2) (pe_op op_mul (pe_op op_pow pe_int pe_int) (pe_call (never_ok) (hr.mono (by decide)) (by rfl) T.g_draw T.F_draw.kp T.b_draw .nil pass0 (pa_cons (pv 0) (pa_cons (pe_op op_add (pe_op op_fdiv (pe_op op_sub (pv 1) pe_int) (pe_op op_pow pe_int pe_int)) pe_int) pa_nil))))) (pv 1))))) pss_nil) (pss_cons (ps_dput (hu_of hr) (pv 0) pe_str (pe_op op_add (pe_dget (hu_of hr) (pv 0) pe_str (fun _ _ => rfl)) pe_int) rfl) (pss_cons (ps_if (pt_cmpR (op_eqD hr.units) (pe_dget (hu_of hr) (pv 0) pe_str (fun _ _ => rfl)) (pe_lst pa_nil) (nomark _)) (pss_cons (ps_dput (hu_of hr) (pv 0) pe_str (pe_call (ok_mixed T) (hr.mono (by decide)) (by rfl) T.g_mixed T.F_mixed.kp T.b_mixed .nil pass0 (pa_cons (pe_op op_add (pe_dget (hu_of hr) (pv 0) pe_str (fun _ _ => rfl)) (pe_dget (hu_of hr) (pv 0) pe_str (fun _ _ => rfl))) pa_nil)) rfl) (pss_one (ps_ret (pe_op op_mod (pe_op op_fdiv (pe_dget (hu_of hr) (pv 0) pe_str (fun _ _ => rfl)) pe_int) (pv 1))))) pss_nil) (pss_cons (ps_set (i := 3) sc_draw.nd rfl (by first | exact .inl rfl | exact .inr rfl) (pe_bm0 PySem.F.plainAttrs_list PySem.F.slot_list_pop PySem.F.type_list_pop mt_pop (pe_dget (hu_of hr) (pv 0) pe_str (fun _ _ => rfl)))) (pss_cons (ps_if (pt_cmpR op_ge (pv 3) (pe_op op_pow pe_int pe_int) (nomark _)) (pss_cons (ps_expr (pe_bm PySem.F.plainAttrs_list PySem.F.slot_list_append PySem.F.type_list_append mt_append (pe_dget (hu_of hr) (pv 0) pe_str (fun _ _ => rfl)) (pa_cons (pe_op op_fdiv (pv 3) (pv 1)) pa_nil))) (pss_one (ps_ret (pe_op op_mod (pv 3) (pv 1))))) pss_nil) (pss_one (ps_ret (pe_op op_mod (pe_op op_fdiv (pe_call (ok_mixed T) (hr.mono (by decide)) (by rfl) T.g_mixed T.F_mixed.kp T.b_mixed .nil pass0 (pa_cons (pe_op op_add (pv 3) (pe_dget (hu_of hr) (pv 0) pe_str (fun _ _ => rfl))) pa_nil)) pe_int) (pv 1))))))))), ?_⟩
    refine ⟨.int m, rfl, _, _, rfl, rfl, ⟨by decide, by decide, by decide⟩, _, _, rfl, rfl, _, rfl, ite2 (fun z => ?_) (fun small => ?_)⟩
    · have z' : (10 : Int) ^ (6 : Int).toNat < m := of_decide_eq_true z
      have e6 : (10 : Int) ^ (6 : Int).toNat = 1000000 := by decide
      omega
    obtain ⟨ne, cs, y, z, hd, hl, hcs, hz0, hz1⟩ := D
    refine ⟨.ref d, rfl, d, .int z, rfl, dgA hd, _, _, rfl, rfl, .ref d, rfl, d, _, rfl, dpA (z + 1) hd, ?_⟩
    have hd1 : upd H d (.dK [(kC, .ref l), (kS, .int y), (kA, .int (z + 1))]) d = some (.dK [(kC, .ref l), (kS, .int y), (kA, .int (z + 1))]) := upd_same
    have hl1 : upd H d (.dK [(kC, .ref l), (kS, .int y), (kA, .int (z + 1))]) l = some (.lst (cs.map V.int)) := by rw [upd_ne ne.symm]; exact hl
    have fr1 : Fr d l H (upd H d (.dK [(kC, .ref l), (kS, .int y), (kA, .int (z + 1))])) := Fr.d
    generalize upd H d (.dK [(kC, .ref l), (kS, .int y), (kA, .int (z + 1))]) = H1 at hd1 hl1 fr1 ⊢
    refine ⟨.ref d, rfl, d, .ref l, rfl, dgC hd1, Nat.zero_le _, fun p np => ?_⟩
    have s2 := same_upd (o := (HO.lst [])) np
    have h2 : upd H1 p (HO.lst []) p = some (HO.lst []) := upd_same
    generalize upd H1 p (HO.lst []) = H2 at s2 h2 ⊢
    have hd2 := s2 _ _ hd1
    have hl2 := s2 _ _ hl1
    refine ⟨.list (cs.map .int), .list [], .lst (SqL.of hl2) (dpInts cs), .lst (SqL.of h2) .nil, shInts cs, rfl, _, rfl, ?_⟩
    have fr2 : Fr d l H H2 := fr1.trans (Fr.of s2)
    cases cs with
    | nil =>
      refine iteT ?_
      refine ⟨.ref d, rfl, d, .int y, rfl, dgS hd2, .ref d, rfl, d, .int (z + 1), rfl, dgA hd2, _, _, rfl, rfl, _, rfl, fun v v0 v1 => ?_⟩
      refine ⟨.ref d, rfl, d, _, rfl, dpS v hd2, ?_⟩
      refine ⟨.ref d, rfl, d, .int v, rfl, dgS upd_same, _, _, rfl, rfl, (⟨by decide, by decide⟩ : (0 : Int) < 8 ∧ (8 : Int) < 1073741824), .int m, rfl, _, _, rfl, rfl, hm0, ?_⟩
      exact q _ _ ⟨ne, [], v, z + 1, upd_same, by rw [upd_ne ne.symm]; exact hl2, Nat.zero_le _, by omega, by omega⟩ (fr2.trans Fr.d) (Int.emod_nonneg _ (by omega)) (Int.emod_lt_of_pos _ hm0)
    | cons c0 r0 =>
      refine iteF ?_
      obtain ⟨r, c, hrc⟩ : ∃ r c, c0 :: r0 = r ++ [c] := ⟨(c0 :: r0).dropLast, (c0 :: r0).getLast (by simp), (List.dropLast_concat_getLast (by simp)).symm⟩
      rw [hrc] at hl2 hcs
      rw [List.map_append] at hl2
      have lr : r.length ≤ 62 := by rw [List.length_append] at hcs; simp at hcs; omega
      refine ⟨.ref d, rfl, d, .ref l, rfl, dgC hd2, .inl ⟨rfl, _, SqL.of hl2⟩, l, _, .int c, rfl, rfl, hl2, by simp, ?_⟩
      have edl : (r.map V.int ++ [c].map V.int).dropLast = r.map V.int := List.dropLast_concat ..
      rw [edl]
      have hl3 : upd H2 l (.lst (r.map V.int)) l = some (.lst (r.map V.int)) := upd_same
      have hd3 : upd H2 l (.lst (r.map V.int)) d = some (.dK [(kC, .ref l), (kS, .int y), (kA, .int (z + 1))]) := by rw [upd_ne ne]; exact hd2
      have fr3 : Fr d l H (upd H2 l (.lst (r.map V.int))) := fr2.trans Fr.l
      show tSeq _ _ _ _ (upd H2 l (.lst (r.map V.int)))
      generalize upd H2 l (.lst (r.map V.int)) = H3 at hl3 hd3 fr3 ⊢
      have m6 : m ≤ 1000000 := by
        have e6 : (10 : Int) ^ (6 : Int).toNat = 1000000 := by decide
        have h6 : ¬ (10 : Int) ^ (6 : Int).toNat < m := fun k => small (decide_eq_true k)
        rw [e6] at h6
        omega
      refine ⟨.int c, rfl, _, _, rfl, rfl, ⟨by decide, by decide, by decide⟩, _, _, rfl, rfl, _, rfl, ite2 (fun _ => ?_) (fun _ => ?_)⟩
      · refine ⟨.ref d, rfl, d, .ref l, rfl, dgC hd3, .inl ⟨rfl, _, SqL.of hl3⟩, .int c, rfl, .int m, rfl, _, _, rfl, rfl, (⟨hm0, by omega⟩ : 0 < m ∧ m < 1073741824), l, _, _, rfl, rfl, hl3, ?_, ?_⟩
        · rw [List.length_map]
          exact Nat.lt_of_lt_of_le (show r.length < 128 by omega) (by decide)
        refine ⟨.int c, rfl, .int m, rfl, _, _, rfl, rfl, hm0, ?_⟩
        exact q _ _ ⟨ne, r ++ [c / m], y, z + 1, by rw [upd_ne ne]; exact hd3, by rw [upd_same, List.map_append]; rfl, by rw [List.length_append]; show r.length + 1 ≤ 63; omega, by omega, by omega⟩ (fr3.trans Fr.l) (Int.emod_nonneg _ (by omega)) (Int.emod_lt_of_pos _ hm0)
      · refine ⟨.int c, rfl, .ref d, rfl, d, .int (z + 1), rfl, dgA hd3, _, _, rfl, rfl, _, rfl, fun v v0 v1 => ?_⟩
        refine ⟨_, _, rfl, rfl, (⟨by decide, by decide⟩ : (0 : Int) < 8 ∧ (8 : Int) < 1073741824), .int m, rfl, _, _, rfl, rfl, hm0, ?_⟩
        exact q _ _ ⟨ne, r, y, z + 1, hd3, hl3, by omega, by omega, by omega⟩ fr3 (Int.emod_nonneg _ (by omega)) (Int.emod_lt_of_pos _ hm0)
theorem ok_draw1 (T : Tx K mg) : FnOk P w K mg base CX0 3 T.f_draw T.fd_draw ["_law_deck_here", "_law_most"] (sp_drawN K 1000000000000 2) := by
  refine T.F_draw.ok sc_draw (fun vs H Q E h => ?_) (fun cdv A outer s H vs Q E hr h => ?_)
  · obtain ⟨d, l, m, n, rfl, _⟩ := h
    rfl
  · obtain ⟨d, l, m, n, rfl, D, hn, hm0, hm1, q⟩ := h
    refine ⟨_, (pss_cons (ps_if (pt_cmpR op_gt (pv 1) (pe_op op_pow pe_int pe_int) (nomark _)) (pss_cons (ps_set (i := 2) sc_draw.nd rfl (by first | exact .inl rfl | exact .inr rfl) (pe_call (ok_draw0 T) (hr.mono (by decide)) (by rfl) T.g_draw T.F_draw.kp T.b_draw .nil pass0 (pa_cons (pv 0) (pa_cons (pe_op op_pow pe_int pe_int) pa_nil)))) (pss_one (ps_ret (pe_op op_mod (pe_op op_add (pv 2) (pe_op op_mul (pe_op op_pow pe_int pe_int) (pe_call (ok_draw0 T) (hr.mono (by decide)) (by rfl) T.g_draw T.F_draw.kp T.b_draw .nil pass0 (pa_cons (pv 0) (pa_cons (pe_op op_add (pe_op op_fdiv (pe_op op_sub (pv 1) pe_int) (pe_op op_pow pe_int pe_int)) pe_int) pa_nil))))) (pv 1))))) pss_nil) (pss_cons (ps_dput (hu_of hr) (pv 0) pe_str (pe_op op_add (pe_dget (hu_of hr) (pv 0) pe_str (fun _ _ => rfl)) pe_int) rfl) (pss_cons (ps_if (pt_cmpR (op_eqD hr.units) (pe_dget (hu_of hr) (pv 0) pe_str (fun _ _ => rfl)) (pe_lst pa_nil) (nomark _)) (pss_cons (ps_dput (hu_of hr) (pv 0) pe_str (pe_call (ok_mixed T) (hr.mono (by decide)) (by rfl) T.g_mixed T.F_mixed.kp T.b_mixed .nil pass0 (pa_cons (pe_op op_add (pe_dget (hu_of hr) (pv 0) pe_str (fun _ _ => rfl)) (pe_dget (hu_of hr) (pv 0) pe_str (fun _ _ => rfl))) pa_nil)) rfl) (pss_one (ps_ret (pe_op op_mod (pe_op op_fdiv (pe_dget (hu_of hr) (pv 0) pe_str (fun _ _ => rfl)) pe_int) (pv 1))))) pss_nil) (pss_cons (ps_set (i := 3) sc_draw.nd rfl (by first | exact .inl rfl | exact .inr rfl) (pe_bm0 PySem.F.plainAttrs_list PySem.F.slot_list_pop PySem.F.type_list_pop mt_pop (pe_dget (hu_of hr) (pv 0) pe_str (fun _ _ => rfl)))) (pss_cons (ps_if (pt_cmpR op_ge (pv 3) (pe_op op_pow pe_int pe_int) (nomark _)) (pss_cons (ps_expr (pe_bm PySem.F.plainAttrs_list PySem.F.slot_list_append PySem.F.type_list_append mt_append (pe_dget (hu_of hr) (pv 0) pe_str (fun _ _ => rfl)) (pa_cons (pe_op op_fdiv (pv 3) (pv 1)) pa_nil))) (pss_one (ps_ret (pe_op op_mod (pv 3) (pv 1))))) pss_nil) (pss_one (ps_ret (pe_op op_mod (pe_op op_fdiv (pe_call (ok_mixed T) (hr.mono (by decide)) (by rfl) T.g_mixed T.F_mixed.kp T.b_mixed .nil pass0 (pa_cons (pe_op op_add (pv 3) (pe_dget (hu_of hr) (pv 0) pe_str (fun _ _ => rfl))) pa_nil)) pe_int) (pv 1))))))))), ?_⟩
    refine ⟨.int m, rfl, _, _, rfl, rfl, ⟨by decide, by decide, by decide⟩, _, _, rfl, rfl, _, rfl, ite2 (fun z => ?_) (fun small => ?_)⟩
    · have z' : (10 : Int) ^ (6 : Int).toNat < m := of_decide_eq_true z
      have e6 : (10 : Int) ^ (6 : Int).toNat = 1000000 := by decide
      rw [e6] at z'
      have hq : (m - 1) / (10 : Int) ^ (6 : Int).toNat + 1 ≤ 1000000 ∧ 0 < (m - 1) / (10 : Int) ^ (6 : Int).toNat + 1 := by rw [e6]; omega
      refine ⟨.ref d, rfl, _, _, rfl, rfl, ⟨by decide, by decide, by decide⟩, d, l, _, n, rfl, D, by omega, by decide, by decide, fun H1 low D1 fr1 l0 l1 => ?_⟩
      refine ⟨.int low, rfl, _, _, rfl, rfl, ⟨by decide, by decide, by decide⟩, .ref d, rfl, .int m, rfl, _, _, rfl, rfl, _, _, rfl, rfl, ⟨by decide, by decide, by decide⟩, _, _, rfl, rfl, (⟨by decide, by decide⟩ : (0 : Int) < 10 ^ (6 : Int).toNat ∧ (10 : Int) ^ (6 : Int).toNat < 1073741824), _, _, rfl, rfl, d, l, _, _, rfl, D1, ?_, hq.2, hq.1, fun H2 v D2 fr2 v0 v1 => ⟨_, _, rfl, rfl, .inl ⟨by decide, by decide⟩, _, _, rfl, rfl, .int m, rfl, _, _, rfl, rfl, hm0, ?_⟩⟩
      · omega
      exact q _ _ (D2.mono (by omega)) (fr1.trans fr2) (Int.emod_nonneg _ (by omega)) (Int.emod_lt_of_pos _ hm0)
    obtain ⟨ne, cs, y, z, hd, hl, hcs, hz0, hz1⟩ := D
    refine ⟨.ref d, rfl, d, .int z, rfl, dgA hd, _, _, rfl, rfl, .ref d, rfl, d, _, rfl, dpA (z + 1) hd, ?_⟩
    have hd1 : upd H d (.dK [(kC, .ref l), (kS, .int y), (kA, .int (z + 1))]) d = some (.dK [(kC, .ref l), (kS, .int y), (kA, .int (z + 1))]) := upd_same
    have hl1 : upd H d (.dK [(kC, .ref l), (kS, .int y), (kA, .int (z + 1))]) l = some (.lst (cs.map V.int)) := by rw [upd_ne ne.symm]; exact hl
    have fr1 : Fr d l H (upd H d (.dK [(kC, .ref l), (kS, .int y), (kA, .int (z + 1))])) := Fr.d
    generalize upd H d (.dK [(kC, .ref l), (kS, .int y), (kA, .int (z + 1))]) = H1 at hd1 hl1 fr1 ⊢
    refine ⟨.ref d, rfl, d, .ref l, rfl, dgC hd1, Nat.zero_le _, fun p np => ?_⟩
    have s2 := same_upd (o := (HO.lst [])) np
    have h2 : upd H1 p (HO.lst []) p = some (HO.lst []) := upd_same
    generalize upd H1 p (HO.lst []) = H2 at s2 h2 ⊢
    have hd2 := s2 _ _ hd1
    have hl2 := s2 _ _ hl1
    refine ⟨.list (cs.map .int), .list [], .lst (SqL.of hl2) (dpInts cs), .lst (SqL.of h2) .nil, shInts cs, rfl, _, rfl, ?_⟩
    have fr2 : Fr d l H H2 := fr1.trans (Fr.of s2)
    cases cs with
    | nil =>
      refine iteT ?_
      refine ⟨.ref d, rfl, d, .int y, rfl, dgS hd2, .ref d, rfl, d, .int (z + 1), rfl, dgA hd2, _, _, rfl, rfl, _, rfl, fun v v0 v1 => ?_⟩
      refine ⟨.ref d, rfl, d, _, rfl, dpS v hd2, ?_⟩
      refine ⟨.ref d, rfl, d, .int v, rfl, dgS upd_same, _, _, rfl, rfl, (⟨by decide, by decide⟩ : (0 : Int) < 8 ∧ (8 : Int) < 1073741824), .int m, rfl, _, _, rfl, rfl, hm0, ?_⟩
      exact q _ _ ⟨ne, [], v, z + 1, upd_same, by rw [upd_ne ne.symm]; exact hl2, Nat.zero_le _, by omega, by omega⟩ (fr2.trans Fr.d) (Int.emod_nonneg _ (by omega)) (Int.emod_lt_of_pos _ hm0)
    | cons c0 r0 =>
      refine iteF ?_
      obtain ⟨r, c, hrc⟩ : ∃ r c, c0 :: r0 = r ++ [c] := ⟨(c0 :: r0).dropLast, (c0 :: r0).getLast (by simp), (List.dropLast_concat_getLast (by simp)).symm⟩
      rw [hrc] at hl2 hcs
      rw [List.map_append] at hl2
      have lr : r.length ≤ 62 := by rw [List.length_append] at hcs; simp at hcs; omega
      refine ⟨.ref d, rfl, d, .ref l, rfl, dgC hd2, .inl ⟨rfl, _, SqL.of hl2⟩, l, _, .int c, rfl, rfl, hl2, by simp, ?_⟩
      have edl : (r.map V.int ++ [c].map V.int).dropLast = r.map V.int := List.dropLast_concat ..
      rw [edl]
      have hl3 : upd H2 l (.lst (r.map V.int)) l = some (.lst (r.map V.int)) := upd_same
      have hd3 : upd H2 l (.lst (r.map V.int)) d = some (.dK [(kC, .ref l), (kS, .int y), (kA, .int (z + 1))]) := by rw [upd_ne ne]; exact hd2
      have fr3 : Fr d l H (upd H2 l (.lst (r.map V.int))) := fr2.trans Fr.l
      show tSeq _ _ _ _ (upd H2 l (.lst (r.map V.int)))
      generalize upd H2 l (.lst (r.map V.int)) = H3 at hl3 hd3 fr3 ⊢
      have m6 : m ≤ 1000000 := by
        have e6 : (10 : Int) ^ (6 : Int).toNat = 1000000 := by decide
        have h6 : ¬ (10 : Int) ^ (6 : Int).toNat < m := fun k => small (decide_eq_true k)
        rw [e6] at h6
        omega
      refine ⟨.int c, rfl, _, _, rfl, rfl, ⟨by decide, by decide, by decide⟩, _, _, rfl, rfl, _, rfl, ite2 (fun _ => ?_) (fun _ => ?_)⟩
      · refine ⟨.ref d, rfl, d, .ref l, rfl, dgC hd3, .inl ⟨rfl, _, SqL.of hl3⟩, .int c, rfl, .int m, rfl, _, _, rfl, rfl, (⟨hm0, by omega⟩ : 0 < m ∧ m < 1073741824), l, _, _, rfl, rfl, hl3, ?_, ?_⟩
        · rw [List.length_map]
          exact Nat.lt_of_lt_of_le (show r.length < 128 by omega) (by decide)
        refine ⟨.int c, rfl, .int m, rfl, _, _, rfl, rfl, hm0, ?_⟩
        exact q _ _ ⟨ne, r ++ [c / m], y, z + 1, by rw [upd_ne ne]; exact hd3, by rw [upd_same, List.map_append]; rfl, by rw [List.length_append]; show r.length + 1 ≤ 63; omega, by omega, by omega⟩ (fr3.trans Fr.l) (Int.emod_nonneg _ (by omega)) (Int.emod_lt_of_pos _ hm0)
      · refine ⟨.int c, rfl, .ref d, rfl, d, .int (z + 1), rfl, dgA hd3, _, _, rfl, rfl, _, rfl, fun v v0 v1 => ?_⟩
        refine ⟨_, _, rfl, rfl, (⟨by decide, by decide⟩ : (0 : Int) < 8 ∧ (8 : Int) < 1073741824), .int m, rfl, _, _, rfl, rfl, hm0, ?_⟩
        exact q _ _ ⟨ne, r, y, z + 1, hd3, hl3, by omega, by omega, by omega⟩ fr3 (Int.emod_nonneg _ (by omega)) (Int.emod_lt_of_pos _ hm0)
theorem ok_draw2 (T : Tx K mg) : FnOk P w K mg base CX0 4 T.f_draw T.fd_draw ["_law_deck_here", "_law_most"] (sp_drawN K 1000000000000000000 4) := by
  refine T.F_draw.ok sc_draw (fun vs H Q E h => ?_) (fun cdv A outer s H vs Q E hr h => ?_)
  · obtain ⟨d, l, m, n, rfl, _⟩ := h
    rfl
  · obtain ⟨d, l, m, n, rfl, D, hn, hm0, hm1, q⟩ := h
    refine ⟨_, (pss_cons (ps_if (pt_cmpR op_gt (pv 1) (pe_op op_pow pe_int pe_int) (nomark _)) (pss_cons (ps_set (i := 2) sc_draw.nd rfl (by first | exact .inl rfl | exact .inr rfl) (pe_call (ok_draw1 T) (hr.mono (by decide)) (by rfl) T.g_draw T.F_draw.kp T.b_draw .nil pass0 (pa_cons (pv 0) (pa_cons (pe_op op_pow pe_int pe_int) pa_nil)))) (pss_one (ps_ret (pe_op op_mod (pe_op op_add (pv 2) (pe_op op_mul (pe_op op_pow pe_int pe_int) (pe_call (ok_draw1 T) (hr.mono (by decide)) (by rfl) T.g_draw T.F_draw.kp T.b_draw .nil pass0 (pa_cons (pv 0) (pa_cons (pe_op op_add (pe_op op_fdiv (pe_op op_sub (pv 1) pe_int) (pe_op op_pow pe_int pe_int)) pe_int) pa_nil))))) (pv 1))))) pss_nil) (pss_cons (ps_dput (hu_of hr) (pv 0) pe_str (pe_op op_add (pe_dget (hu_of hr) (pv 0) pe_str (fun _ _ => rfl)) pe_int) rfl) (pss_cons (ps_if (pt_cmpR (op_eqD hr.units) (pe_dget (hu_of hr) (pv 0) pe_str (fun _ _ => rfl)) (pe_lst pa_nil) (nomark _)) (pss_cons (ps_dput (hu_of hr) (pv 0) pe_str (pe_call (ok_mixed T) (hr.mono (by decide)) (by rfl) T.g_mixed T.F_mixed.kp T.b_mixed .nil pass0 (pa_cons (pe_op op_add (pe_dget (hu_of hr) (pv 0) pe_str (fun _ _ => rfl)) (pe_dget (hu_of hr) (pv 0) pe_str (fun _ _ => rfl))) pa_nil)) rfl) (pss_one (ps_ret (pe_op op_mod (pe_op op_fdiv (pe_dget (hu_of hr) (pv 0) pe_str (fun _ _ => rfl)) pe_int) (pv 1))))) pss_nil) (pss_cons (ps_set (i := 3) sc_draw.nd rfl (by first | exact .inl rfl | exact .inr rfl) (pe_bm0 PySem.F.plainAttrs_list PySem.F.slot_list_pop PySem.F.type_list_pop mt_pop (pe_dget (hu_of hr) (pv 0) pe_str (fun _ _ => rfl)))) (pss_cons (ps_if (pt_cmpR op_ge (pv 3) (pe_op op_pow pe_int pe_int) (nomark _)) (pss_cons (ps_expr (pe_bm PySem.F.plainAttrs_list PySem.F.slot_list_append PySem.F.type_list_append mt_append (pe_dget (hu_of hr) (pv 0) pe_str (fun _ _ => rfl)) (pa_cons (pe_op op_fdiv (pv 3) (pv 1)) pa_nil))) (pss_one (ps_ret (pe_op op_mod (pv 3) (pv 1))))) pss_nil) (pss_one (ps_ret (pe_op op_mod (pe_op op_fdiv (pe_call (ok_mixed T) (hr.mono (by decide)) (by rfl) T.g_mixed T.F_mixed.kp T.b_mixed .nil pass0 (pa_cons (pe_op op_add (pv 3) (pe_dget (hu_of hr) (pv 0) pe_str (fun _ _ => rfl))) pa_nil)) pe_int) (pv 1))))))))), ?_⟩
    refine ⟨.int m, rfl, _, _, rfl, rfl, ⟨by decide, by decide, by decide⟩, _, _, rfl, rfl, _, rfl, ite2 (fun z => ?_) (fun small => ?_)⟩
    · have z' : (10 : Int) ^ (6 : Int).toNat < m := of_decide_eq_true z
      have e6 : (10 : Int) ^ (6 : Int).toNat = 1000000 := by decide
      rw [e6] at z'
      have hq : (m - 1) / (10 : Int) ^ (6 : Int).toNat + 1 ≤ 1000000000000 ∧ 0 < (m - 1) / (10 : Int) ^ (6 : Int).toNat + 1 := by rw [e6]; omega
      refine ⟨.ref d, rfl, _, _, rfl, rfl, ⟨by decide, by decide, by decide⟩, d, l, _, n, rfl, D, by omega, by decide, by decide, fun H1 low D1 fr1 l0 l1 => ?_⟩
      refine ⟨.int low, rfl, _, _, rfl, rfl, ⟨by decide, by decide, by decide⟩, .ref d, rfl, .int m, rfl, _, _, rfl, rfl, _, _, rfl, rfl, ⟨by decide, by decide, by decide⟩, _, _, rfl, rfl, (⟨by decide, by decide⟩ : (0 : Int) < 10 ^ (6 : Int).toNat ∧ (10 : Int) ^ (6 : Int).toNat < 1073741824), _, _, rfl, rfl, d, l, _, _, rfl, D1, ?_, hq.2, hq.1, fun H2 v D2 fr2 v0 v1 => ⟨_, _, rfl, rfl, .inl ⟨by decide, by decide⟩, _, _, rfl, rfl, .int m, rfl, _, _, rfl, rfl, hm0, ?_⟩⟩
      · omega
      exact q _ _ (D2.mono (by omega)) (fr1.trans fr2) (Int.emod_nonneg _ (by omega)) (Int.emod_lt_of_pos _ hm0)
    obtain ⟨ne, cs, y, z, hd, hl, hcs, hz0, hz1⟩ := D
    refine ⟨.ref d, rfl, d, .int z, rfl, dgA hd, _, _, rfl, rfl, .ref d, rfl, d, _, rfl, dpA (z + 1) hd, ?_⟩
    have hd1 : upd H d (.dK [(kC, .ref l), (kS, .int y), (kA, .int (z + 1))]) d = some (.dK [(kC, .ref l), (kS, .int y), (kA, .int (z + 1))]) := upd_same
    have hl1 : upd H d (.dK [(kC, .ref l), (kS, .int y), (kA, .int (z + 1))]) l = some (.lst (cs.map V.int)) := by rw [upd_ne ne.symm]; exact hl
    have fr1 : Fr d l H (upd H d (.dK [(kC, .ref l), (kS, .int y), (kA, .int (z + 1))])) := Fr.d
    generalize upd H d (.dK [(kC, .ref l), (kS, .int y), (kA, .int (z + 1))]) = H1 at hd1 hl1 fr1 ⊢
    refine ⟨.ref d, rfl, d, .ref l, rfl, dgC hd1, Nat.zero_le _, fun p np => ?_⟩
    have s2 := same_upd (o := (HO.lst [])) np
    have h2 : upd H1 p (HO.lst []) p = some (HO.lst []) := upd_same
    generalize upd H1 p (HO.lst []) = H2 at s2 h2 ⊢
    have hd2 := s2 _ _ hd1
    have hl2 := s2 _ _ hl1
    refine ⟨.list (cs.map .int), .list [], .lst (SqL.of hl2) (dpInts cs), .lst (SqL.of h2) .nil, shInts cs, rfl, _, rfl, ?_⟩
    have fr2 : Fr d l H H2 := fr1.trans (Fr.of s2)
    cases cs with
    | nil =>
      refine iteT ?_
      refine ⟨.ref d, rfl, d, .int y, rfl, dgS hd2, .ref d, rfl, d, .int (z + 1), rfl, dgA hd2, _, _, rfl, rfl, _, rfl, fun v v0 v1 => ?_⟩
      refine ⟨.ref d, rfl, d, _, rfl, dpS v hd2, ?_⟩
      refine ⟨.ref d, rfl, d, .int v, rfl, dgS upd_same, _, _, rfl, rfl, (⟨by decide, by decide⟩ : (0 : Int) < 8 ∧ (8 : Int) < 1073741824), .int m, rfl, _, _, rfl, rfl, hm0, ?_⟩
      exact q _ _ ⟨ne, [], v, z + 1, upd_same, by rw [upd_ne ne.symm]; exact hl2, Nat.zero_le _, by omega, by omega⟩ (fr2.trans Fr.d) (Int.emod_nonneg _ (by omega)) (Int.emod_lt_of_pos _ hm0)
    | cons c0 r0 =>
      refine iteF ?_
      obtain ⟨r, c, hrc⟩ : ∃ r c, c0 :: r0 = r ++ [c] := ⟨(c0 :: r0).dropLast, (c0 :: r0).getLast (by simp), (List.dropLast_concat_getLast (by simp)).symm⟩
      rw [hrc] at hl2 hcs
      rw [List.map_append] at hl2
      have lr : r.length ≤ 62 := by rw [List.length_append] at hcs; simp at hcs; omega
      refine ⟨.ref d, rfl, d, .ref l, rfl, dgC hd2, .inl ⟨rfl, _, SqL.of hl2⟩, l, _, .int c, rfl, rfl, hl2, by simp, ?_⟩
      have edl : (r.map V.int ++ [c].map V.int).dropLast = r.map V.int := List.dropLast_concat ..
      rw [edl]
      have hl3 : upd H2 l (.lst (r.map V.int)) l = some (.lst (r.map V.int)) := upd_same
      have hd3 : upd H2 l (.lst (r.map V.int)) d = some (.dK [(kC, .ref l), (kS, .int y), (kA, .int (z + 1))]) := by rw [upd_ne ne]; exact hd2
      have fr3 : Fr d l H (upd H2 l (.lst (r.map V.int))) := fr2.trans Fr.l
      show tSeq _ _ _ _ (upd H2 l (.lst (r.map V.int)))
      generalize upd H2 l (.lst (r.map V.int)) = H3 at hl3 hd3 fr3 ⊢
      have m6 : m ≤ 1000000 := by
        have e6 : (10 : Int) ^ (6 : Int).toNat = 1000000 := by decide
        have h6 : ¬ (10 : Int) ^ (6 : Int).toNat < m := fun k => small (decide_eq_true k)
        rw [e6] at h6
        omega
      refine ⟨.int c, rfl, _, _, rfl, rfl, ⟨by decide, by decide, by decide⟩, _, _, rfl, rfl, _, rfl, ite2 (fun _ => ?_) (fun _ => ?_)⟩
      · refine ⟨.ref d, rfl, d, .ref l, rfl, dgC hd3, .inl ⟨rfl, _, SqL.of hl3⟩, .int c, rfl, .int m, rfl, _, _, rfl, rfl, (⟨hm0, by omega⟩ : 0 < m ∧ m < 1073741824), l, _, _, rfl, rfl, hl3, ?_, ?_⟩
        · rw [List.length_map]
          exact Nat.lt_of_lt_of_le (show r.length < 128 by omega) (by decide)
        refine ⟨.int c, rfl, .int m, rfl, _, _, rfl, rfl, hm0, ?_⟩
        exact q _ _ ⟨ne, r ++ [c / m], y, z + 1, by rw [upd_ne ne]; exact hd3, by rw [upd_same, List.map_append]; rfl, by rw [List.length_append]; show r.length + 1 ≤ 63; omega, by omega, by omega⟩ (fr3.trans Fr.l) (Int.emod_nonneg _ (by omega)) (Int.emod_lt_of_pos _ hm0)
      · refine ⟨.int c, rfl, .ref d, rfl, d, .int (z + 1), rfl, dgA hd3, _, _, rfl, rfl, _, rfl, fun v v0 v1 => ?_⟩
        refine ⟨_, _, rfl, rfl, (⟨by decide, by decide⟩ : (0 : Int) < 8 ∧ (8 : Int) < 1073741824), .int m, rfl, _, _, rfl, rfl, hm0, ?_⟩
        exact q _ _ ⟨ne, r, y, z + 1, hd3, hl3, by omega, by omega, by omega⟩ fr3 (Int.emod_nonneg _ (by omega)) (Int.emod_lt_of_pos _ hm0)
theorem ok_draw3 (T : Tx K mg) : FnOk P w K mg base CX0 5 T.f_draw T.fd_draw ["_law_deck_here", "_law_most"] (sp_drawN K 1000000000000000000000000 8) := by
  refine T.F_draw.ok sc_draw (fun vs H Q E h => ?_) (fun cdv A outer s H vs Q E hr h => ?_)
  · obtain ⟨d, l, m, n, rfl, _⟩ := h
    rfl
  · obtain ⟨d, l, m, n, rfl, D, hn, hm0, hm1, q⟩ := h
    refine ⟨_, (pss_cons (ps_if (pt_cmpR op_gt (pv 1) (pe_op op_pow pe_int pe_int) (nomark _)) (pss_cons (ps_set (i := 2) sc_draw.nd rfl (by first | exact .inl rfl | exact .inr rfl) (pe_call (ok_draw2 T) (hr.mono (by decide)) (by rfl) T.g_draw T.F_draw.kp T.b_draw .nil pass0 (pa_cons (pv 0) (pa_cons (pe_op op_pow pe_int pe_int) pa_nil)))) (pss_one (ps_ret (pe_op op_mod (pe_op op_add (pv 2) (pe_op op_mul (pe_op op_pow pe_int pe_int) (pe_call (ok_draw2 T) (hr.mono (by decide)) (by rfl) T.g_draw T.F_draw.kp T.b_draw .nil pass0 (pa_cons (pv 0) (pa_cons (pe_op op_add (pe_op op_fdiv (pe_op op_sub (pv 1) pe_int) (pe_op op_pow pe_int pe_int)) pe_int) pa_nil))))) (pv 1))))) pss_nil) (pss_cons (ps_dput (hu_of hr) (pv 0) pe_str (pe_op op_add (pe_dget (hu_of hr) (pv 0) pe_str (fun _ _ => rfl)) pe_int) rfl) (pss_cons (ps_if (pt_cmpR (op_eqD hr.units) (pe_dget (hu_of hr) (pv 0) pe_str (fun _ _ => rfl)) (pe_lst pa_nil) (nomark _)) (pss_cons (ps_dput (hu_of hr) (pv 0) pe_str (pe_call (ok_mixed T) (hr.mono (by decide)) (by rfl) T.g_mixed T.F_mixed.kp T.b_mixed .nil pass0 (pa_cons (pe_op op_add (pe_dget (hu_of hr) (pv 0) pe_str (fun _ _ => rfl)) (pe_dget (hu_of hr) (pv 0) pe_str (fun _ _ => rfl))) pa_nil)) rfl) (pss_one (ps_ret (pe_op op_mod (pe_op op_fdiv (pe_dget (hu_of hr) (pv 0) pe_str (fun _ _ => rfl)) pe_int) (pv 1))))) pss_nil) (pss_cons (ps_set (i := 3) sc_draw.nd rfl (by first | exact .inl rfl | exact .inr rfl) (pe_bm0 PySem.F.plainAttrs_list PySem.F.slot_list_pop PySem.F.type_list_pop mt_pop (pe_dget (hu_of hr) (pv 0) pe_str (fun _ _ => rfl)))) (pss_cons (ps_if (pt_cmpR op_ge (pv 3) (pe_op op_pow pe_int pe_int) (nomark _)) (pss_cons (ps_expr (pe_bm PySem.F.plainAttrs_list PySem.F.slot_list_append PySem.F.type_list_append mt_append (pe_dget (hu_of hr) (pv 0) pe_str (fun _ _ => rfl)) (pa_cons (pe_op op_fdiv (pv 3) (pv 1)) pa_nil))) (pss_one (ps_ret (pe_op op_mod (pv 3) (pv 1))))) pss_nil) (pss_one (ps_ret (pe_op op_mod (pe_op op_fdiv (pe_call (ok_mixed T) (hr.mono (by decide)) (by rfl) T.g_mixed T.F_mixed.kp T.b_mixed .nil pass0 (pa_cons (pe_op op_add (pv 3) (pe_dget (hu_of hr) (pv 0) pe_str (fun _ _ => rfl))) pa_nil)) pe_int) (pv 1))))))))), ?_⟩
    refine ⟨.int m, rfl, _, _, rfl, rfl, ⟨by decide, by decide, by decide⟩, _, _, rfl, rfl, _, rfl, ite2 (fun z => ?_) (fun small => ?_)⟩
    · have z' : (10 : Int) ^ (6 : Int).toNat < m := of_decide_eq_true z
      have e6 : (10 : Int) ^ (6 : Int).toNat = 1000000 := by decide
      rw [e6] at z'
      have hq : (m - 1) / (10 : Int) ^ (6 : Int).toNat + 1 ≤ 1000000000000000000 ∧ 0 < (m - 1) / (10 : Int) ^ (6 : Int).toNat + 1 := by rw [e6]; omega
      refine ⟨.ref d, rfl, _, _, rfl, rfl, ⟨by decide, by decide, by decide⟩, d, l, _, n, rfl, D, by omega, by decide, by decide, fun H1 low D1 fr1 l0 l1 => ?_⟩
      refine ⟨.int low, rfl, _, _, rfl, rfl, ⟨by decide, by decide, by decide⟩, .ref d, rfl, .int m, rfl, _, _, rfl, rfl, _, _, rfl, rfl, ⟨by decide, by decide, by decide⟩, _, _, rfl, rfl, (⟨by decide, by decide⟩ : (0 : Int) < 10 ^ (6 : Int).toNat ∧ (10 : Int) ^ (6 : Int).toNat < 1073741824), _, _, rfl, rfl, d, l, _, _, rfl, D1, ?_, hq.2, hq.1, fun H2 v D2 fr2 v0 v1 => ⟨_, _, rfl, rfl, .inl ⟨by decide, by decide⟩, _, _, rfl, rfl, .int m, rfl, _, _, rfl, rfl, hm0, ?_⟩⟩
      · omega
      exact q _ _ (D2.mono (by omega)) (fr1.trans fr2) (Int.emod_nonneg _ (by omega)) (Int.emod_lt_of_pos _ hm0)
    obtain ⟨ne, cs, y, z, hd, hl, hcs, hz0, hz1⟩ := D
    refine ⟨.ref d, rfl, d, .int z, rfl, dgA hd, _, _, rfl, rfl, .ref d, rfl, d, _, rfl, dpA (z + 1) hd, ?_⟩
    have hd1 : upd H d (.dK [(kC, .ref l), (kS, .int y), (kA, .int (z + 1))]) d = some (.dK [(kC, .ref l), (kS, .int y), (kA, .int (z + 1))]) := upd_same
    have hl1 : upd H d (.dK [(kC, .ref l), (kS, .int y), (kA, .int (z + 1))]) l = some (.lst (cs.map V.int)) := by rw [upd_ne ne.symm]; exact hl
    have fr1 : Fr d l H (upd H d (.dK [(kC, .ref l), (kS, .int y), (kA, .int (z + 1))])) := Fr.d
    generalize upd H d (.dK [(kC, .ref l), (kS, .int y), (kA, .int (z + 1))]) = H1 at hd1 hl1 fr1 ⊢
    refine ⟨.ref d, rfl, d, .ref l, rfl, dgC hd1, Nat.zero_le _, fun p np => ?_⟩
    have s2 := same_upd (o := (HO.lst [])) np
    have h2 : upd H1 p (HO.lst []) p = some (HO.lst []) := upd_same
    generalize upd H1 p (HO.lst []) = H2 at s2 h2 ⊢
    have hd2 := s2 _ _ hd1
    have hl2 := s2 _ _ hl1
    refine ⟨.list (cs.map .int), .list [], .lst (SqL.of hl2) (dpInts cs), .lst (SqL.of h2) .nil, shInts cs, rfl, _, rfl, ?_⟩
    have fr2 : Fr d l H H2 := fr1.trans (Fr.of s2)
    cases cs with
    | nil =>
      refine iteT ?_
      refine ⟨.ref d, rfl, d, .int y, rfl, dgS hd2, .ref d, rfl, d, .int (z + 1), rfl, dgA hd2, _, _, rfl, rfl, _, rfl, fun v v0 v1 => ?_⟩
      refine ⟨.ref d, rfl, d, _, rfl, dpS v hd2, ?_⟩
      refine ⟨.ref d, rfl, d, .int v, rfl, dgS upd_same, _, _, rfl, rfl, (⟨by decide, by decide⟩ : (0 : Int) < 8 ∧ (8 : Int) < 1073741824), .int m, rfl, _, _, rfl, rfl, hm0, ?_⟩
      exact q _ _ ⟨ne, [], v, z + 1, upd_same, by rw [upd_ne ne.symm]; exact hl2, Nat.zero_le _, by omega, by omega⟩ (fr2.trans Fr.d) (Int.emod_nonneg _ (by omega)) (Int.emod_lt_of_pos _ hm0)
    | cons c0 r0 =>
      refine iteF ?_
      obtain ⟨r, c, hrc⟩ : ∃ r c, c0 :: r0 = r ++ [c] := ⟨(c0 :: r0).dropLast, (c0 :: r0).getLast (by simp), (List.dropLast_concat_getLast (by simp)).symm⟩
      rw [hrc] at hl2 hcs
      rw [List.map_append] at hl2
      have lr : r.length ≤ 62 := by rw [List.length_append] at hcs; simp at hcs; omega
      refine ⟨.ref d, rfl, d, .ref l, rfl, dgC hd2, .inl ⟨rfl, _, SqL.of hl2⟩, l, _, .int c, rfl, rfl, hl2, by simp, ?_⟩
      have edl : (r.map V.int ++ [c].map V.int).dropLast = r.map V.int := List.dropLast_concat ..
      rw [edl]
      have hl3 : upd H2 l (.lst (r.map V.int)) l = some (.lst (r.map V.int)) := upd_same
      have hd3 : upd H2 l (.lst (r.map V.int)) d = some (.dK [(kC, .ref l), (kS, .int y), (kA, .int (z + 1))]) := by rw [upd_ne ne]; exact hd2
      have fr3 : Fr d l H (upd H2 l (.lst (r.map V.int))) := fr2.trans Fr.l
      show tSeq _ _ _ _ (upd H2 l (.lst (r.map V.int)))
      generalize upd H2 l (.lst (r.map V.int)) = H3 at hl3 hd3 fr3 ⊢
      have m6 : m ≤ 1000000 := by
        have e6 : (10 : Int) ^ (6 : Int).toNat = 1000000 := by decide
        have h6 : ¬ (10 : Int) ^ (6 : Int).toNat < m := fun k => small (decide_eq_true k)
        rw [e6] at h6
        omega
      refine ⟨.int c, rfl, _, _, rfl, rfl, ⟨by decide, by decide, by decide⟩, _, _, rfl, rfl, _, rfl, ite2 (fun _ => ?_) (fun _ => ?_)⟩
      · refine ⟨.ref d, rfl, d, .ref l, rfl, dgC hd3, .inl ⟨rfl, _, SqL.of hl3⟩, .int c, rfl, .int m, rfl, _, _, rfl, rfl, (⟨hm0, by omega⟩ : 0 < m ∧ m < 1073741824), l, _, _, rfl, rfl, hl3, ?_, ?_⟩
        · rw [List.length_map]
          exact Nat.lt_of_lt_of_le (show r.length < 128 by omega) (by decide)
        refine ⟨.int c, rfl, .int m, rfl, _, _, rfl, rfl, hm0, ?_⟩
        exact q _ _ ⟨ne, r ++ [c / m], y, z + 1, by rw [upd_ne ne]; exact hd3, by rw [upd_same, List.map_append]; rfl, by rw [List.length_append]; show r.length + 1 ≤ 63; omega, by omega, by omega⟩ (fr3.trans Fr.l) (Int.emod_nonneg _ (by omega)) (Int.emod_lt_of_pos _ hm0)
      · refine ⟨.int c, rfl, .ref d, rfl, d, .int (z + 1), rfl, dgA hd3, _, _, rfl, rfl, _, rfl, fun v v0 v1 => ?_⟩
        refine ⟨_, _, rfl, rfl, (⟨by decide, by decide⟩ : (0 : Int) < 8 ∧ (8 : Int) < 1073741824), .int m, rfl, _, _, rfl, rfl, hm0, ?_⟩
        exact q _ _ ⟨ne, r, y, z + 1, hd3, hl3, by omega, by omega, by omega⟩ fr3 (Int.emod_nonneg _ (by omega)) (Int.emod_lt_of_pos _ hm0)
theorem ok_draw4 (T : Tx K mg) : FnOk P w K mg base CX0 6 T.f_draw T.fd_draw ["_law_deck_here", "_law_most"] (sp_drawN K 1000000000000000000000000000000 16) := by
  refine T.F_draw.ok sc_draw (fun vs H Q E h => ?_) (fun cdv A outer s H vs Q E hr h => ?_)
  · obtain ⟨d, l, m, n, rfl, _⟩ := h
    rfl
  · obtain ⟨d, l, m, n, rfl, D, hn, hm0, hm1, q⟩ := h
    refine ⟨_, (pss_cons (ps_if (pt_cmpR op_gt (pv 1) (pe_op op_pow pe_int pe_int) (nomark _)) (pss_cons (ps_set (i := 2) sc_draw.nd rfl (by first | exact .inl rfl | exact .inr rfl) (pe_call (ok_draw3 T) (hr.mono (by decide)) (by rfl) T.g_draw T.F_draw.kp T.b_draw .nil pass0 (pa_cons (pv 0) (pa_cons (pe_op op_pow pe_int pe_int) pa_nil)))) (pss_one (ps_ret (pe_op op_mod (pe_op op_add (pv 2) (pe_op op_mul (pe_op op_pow pe_int pe_int) (pe_call (ok_draw3 T) (hr.mono (by decide)) (by rfl) T.g_draw T.F_draw.kp T.b_draw .nil pass0 (pa_cons (pv 0) (pa_cons (pe_op op_add (pe_op op_fdiv (pe_op op_sub (pv 1) pe_int) (pe_op op_pow pe_int pe_int)) pe_int) pa_nil))))) (pv 1))))) pss_nil) (pss_cons (ps_dput (hu_of hr) (pv 0) pe_str (pe_op op_add (pe_dget (hu_of hr) (pv 0) pe_str (fun _ _ => rfl)) pe_int) rfl) (pss_cons (ps_if (pt_cmpR (op_eqD hr.units) (pe_dget (hu_of hr) (pv 0) pe_str (fun _ _ => rfl)) (pe_lst pa_nil) (nomark _)) (pss_cons (ps_dput (hu_of hr) (pv 0) pe_str (pe_call (ok_mixed T) (hr.mono (by decide)) (by rfl) T.g_mixed T.F_mixed.kp T.b_mixed .nil pass0 (pa_cons (pe_op op_add (pe_dget (hu_of hr) (pv 0) pe_str (fun _ _ => rfl)) (pe_dget (hu_of hr) (pv 0) pe_str (fun _ _ => rfl))) pa_nil)) rfl) (pss_one (ps_ret (pe_op op_mod (pe_op op_fdiv (pe_dget (hu_of hr) (pv 0) pe_str (fun _ _ => rfl)) pe_int) (pv 1))))) pss_nil) (pss_cons (ps_set (i := 3) sc_draw.nd rfl (by first | exact .inl rfl | exact .inr rfl) (pe_bm0 PySem.F.plainAttrs_list PySem.F.slot_list_pop PySem.F.type_list_pop mt_pop (pe_dget (hu_of hr) (pv 0) pe_str (fun _ _ => rfl)))) (pss_cons (ps_if (pt_cmpR op_ge (pv 3) (pe_op op_pow pe_int pe_int) (nomark _)) (pss_cons (ps_expr (pe_bm PySem.F.plainAttrs_list PySem.F.slot_list_append PySem.F.type_list_append mt_append (pe_dget (hu_of hr) (pv 0) pe_str (fun _ _ => rfl)) (pa_cons (pe_op op_fdiv (pv 3) (pv 1)) pa_nil))) (pss_one (ps_ret (pe_op op_mod (pv 3) (pv 1))))) pss_nil) (pss_one (ps_ret (pe_op op_mod (pe_op op_fdiv (pe_call (ok_mixed T) (hr.mono (by decide)) (by rfl) T.g_mixed T.F_mixed.kp T.b_mixed .nil pass0 (pa_cons (pe_op op_add (pv 3) (pe_dget (hu_of hr) (pv 0) pe_str (fun _ _ => rfl))) pa_nil)) pe_int) (pv 1))))))))), ?_⟩
    refine ⟨.int m, rfl, _, _, rfl, rfl, ⟨by decide, by decide, by decide⟩, _, _, rfl, rfl, _, rfl, ite2 (fun z => ?_) (fun small => ?_)⟩
    · have z' : (10 : Int) ^ (6 : Int).toNat < m := of_decide_eq_true z
      have e6 : (10 : Int) ^ (6 : Int).toNat = 1000000 := by decide
      rw [e6] at z'
      have hq : (m - 1) / (10 : Int) ^ (6 : Int).toNat + 1 ≤ 1000000000000000000000000 ∧ 0 < (m - 1) / (10 : Int) ^ (6 : Int).toNat + 1 := by rw [e6]; omega
      refine ⟨.ref d, rfl, _, _, rfl, rfl, ⟨by decide, by decide, by decide⟩, d, l, _, n, rfl, D, by omega, by decide, by decide, fun H1 low D1 fr1 l0 l1 => ?_⟩
      refine ⟨.int low, rfl, _, _, rfl, rfl, ⟨by decide, by decide, by decide⟩, .ref d, rfl, .int m, rfl, _, _, rfl, rfl, _, _, rfl, rfl, ⟨by decide, by decide, by decide⟩, _, _, rfl, rfl, (⟨by decide, by decide⟩ : (0 : Int) < 10 ^ (6 : Int).toNat ∧ (10 : Int) ^ (6 : Int).toNat < 1073741824), _, _, rfl, rfl, d, l, _, _, rfl, D1, ?_, hq.2, hq.1, fun H2 v D2 fr2 v0 v1 => ⟨_, _, rfl, rfl, .inl ⟨by decide, by decide⟩, _, _, rfl, rfl, .int m, rfl, _, _, rfl, rfl, hm0, ?_⟩⟩
      · omega
      exact q _ _ (D2.mono (by omega)) (fr1.trans fr2) (Int.emod_nonneg _ (by omega)) (Int.emod_lt_of_pos _ hm0)
    obtain ⟨ne, cs, y, z, hd, hl, hcs, hz0, hz1⟩ := D
    refine ⟨.ref d, rfl, d, .int z, rfl, dgA hd, _, _, rfl, rfl, .ref d, rfl, d, _, rfl, dpA (z + 1) hd, ?_⟩
    have hd1 : upd H d (.dK [(kC, .ref l), (kS, .int y), (kA, .int (z + 1))]) d = some (.dK [(kC, .ref l), (kS, .int y), (kA, .int (z + 1))]) := upd_same
    have hl1 : upd H d (.dK [(kC, .ref l), (kS, .int y), (kA, .int (z + 1))]) l = some (.lst (cs.map V.int)) := by rw [upd_ne ne.symm]; exact hl
    have fr1 : Fr d l H (upd H d (.dK [(kC, .ref l), (kS, .int y), (kA, .int (z + 1))])) := Fr.d
    generalize upd H d (.dK [(kC, .ref l), (kS, .int y), (kA, .int (z + 1))]) = H1 at hd1 hl1 fr1 ⊢
    refine ⟨.ref d, rfl, d, .ref l, rfl, dgC hd1, Nat.zero_le _, fun p np => ?_⟩
    have s2 := same_upd (o := (HO.lst [])) np
    have h2 : upd H1 p (HO.lst []) p = some (HO.lst []) := upd_same
    generalize upd H1 p (HO.lst []) = H2 at s2 h2 ⊢
    have hd2 := s2 _ _ hd1
    have hl2 := s2 _ _ hl1
    refine ⟨.list (cs.map .int), .list [], .lst (SqL.of hl2) (dpInts cs), .lst (SqL.of h2) .nil, shInts cs, rfl, _, rfl, ?_⟩
    have fr2 : Fr d l H H2 := fr1.trans (Fr.of s2)
    cases cs with
    | nil =>
      refine iteT ?_
      refine ⟨.ref d, rfl, d, .int y, rfl, dgS hd2, .ref d, rfl, d, .int (z + 1), rfl, dgA hd2, _, _, rfl, rfl, _, rfl, fun v v0 v1 => ?_⟩
      refine ⟨.ref d, rfl, d, _, rfl, dpS v hd2, ?_⟩
      refine ⟨.ref d, rfl, d, .int v, rfl, dgS upd_same, _, _, rfl, rfl, (⟨by decide, by decide⟩ : (0 : Int) < 8 ∧ (8 : Int) < 1073741824), .int m, rfl, _, _, rfl, rfl, hm0, ?_⟩
      exact q _ _ ⟨ne, [], v, z + 1, upd_same, by rw [upd_ne ne.symm]; exact hl2, Nat.zero_le _, by omega, by omega⟩ (fr2.trans Fr.d) (Int.emod_nonneg _ (by omega)) (Int.emod_lt_of_pos _ hm0)
    | cons c0 r0 =>
      refine iteF ?_
      obtain ⟨r, c, hrc⟩ : ∃ r c, c0 :: r0 = r ++ [c] := ⟨(c0 :: r0).dropLast, (c0 :: r0).getLast (by simp), (List.dropLast_concat_getLast (by simp)).symm⟩
      rw [hrc] at hl2 hcs
      rw [List.map_append] at hl2
      have lr : r.length ≤ 62 := by rw [List.length_append] at hcs; simp at hcs; omega
      refine ⟨.ref d, rfl, d, .ref l, rfl, dgC hd2, .inl ⟨rfl, _, SqL.of hl2⟩, l, _, .int c, rfl, rfl, hl2, by simp, ?_⟩
      have edl : (r.map V.int ++ [c].map V.int).dropLast = r.map V.int := List.dropLast_concat ..
      rw [edl]
      have hl3 : upd H2 l (.lst (r.map V.int)) l = some (.lst (r.map V.int)) := upd_same
      have hd3 : upd H2 l (.lst (r.map V.int)) d = some (.dK [(kC, .ref l), (kS, .int y), (kA, .int (z + 1))]) := by rw [upd_ne ne]; exact hd2
      have fr3 : Fr d l H (upd H2 l (.lst (r.map V.int))) := fr2.trans Fr.l
      show tSeq _ _ _ _ (upd H2 l (.lst (r.map V.int)))
      generalize upd H2 l (.lst (r.map V.int)) = H3 at hl3 hd3 fr3 ⊢
      have m6 : m ≤ 1000000 := by
        have e6 : (10 : Int) ^ (6 : Int).toNat = 1000000 := by decide
        have h6 : ¬ (10 : Int) ^ (6 : Int).toNat < m := fun k => small (decide_eq_true k)
        rw [e6] at h6
        omega
      refine ⟨.int c, rfl, _, _, rfl, rfl, ⟨by decide, by decide, by decide⟩, _, _, rfl, rfl, _, rfl, ite2 (fun _ => ?_) (fun _ => ?_)⟩
      · refine ⟨.ref d, rfl, d, .ref l, rfl, dgC hd3, .inl ⟨rfl, _, SqL.of hl3⟩, .int c, rfl, .int m, rfl, _, _, rfl, rfl, (⟨hm0, by omega⟩ : 0 < m ∧ m < 1073741824), l, _, _, rfl, rfl, hl3, ?_, ?_⟩
        · rw [List.length_map]
          exact Nat.lt_of_lt_of_le (show r.length < 128 by omega) (by decide)
        refine ⟨.int c, rfl, .int m, rfl, _, _, rfl, rfl, hm0, ?_⟩
        exact q _ _ ⟨ne, r ++ [c / m], y, z + 1, by rw [upd_ne ne]; exact hd3, by rw [upd_same, List.map_append]; rfl, by rw [List.length_append]; show r.length + 1 ≤ 63; omega, by omega, by omega⟩ (fr3.trans Fr.l) (Int.emod_nonneg _ (by omega)) (Int.emod_lt_of_pos _ hm0)
      · refine ⟨.int c, rfl, .ref d, rfl, d, .int (z + 1), rfl, dgA hd3, _, _, rfl, rfl, _, rfl, fun v v0 v1 => ?_⟩
        refine ⟨_, _, rfl, rfl, (⟨by decide, by decide⟩ : (0 : Int) < 8 ∧ (8 : Int) < 1073741824), .int m, rfl, _, _, rfl, rfl, hm0, ?_⟩
        exact q _ _ ⟨ne, r, y, z + 1, hd3, hl3, by omega, by omega, by omega⟩ fr3 (Int.emod_nonneg _ (by omega)) (Int.emod_lt_of_pos _ hm0)
theorem ok_draw5 (T : Tx K mg) : FnOk P w K mg base CX0 7 T.f_draw T.fd_draw ["_law_deck_here", "_law_most"] (sp_drawN K 1000000000000000000000000000000000000 32) := by
  refine T.F_draw.ok sc_draw (fun vs H Q E h => ?_) (fun cdv A outer s H vs Q E hr h => ?_)
  · obtain ⟨d, l, m, n, rfl, _⟩ := h
    rfl
  · obtain ⟨d, l, m, n, rfl, D, hn, hm0, hm1, q⟩ := h
    refine ⟨_, (pss_cons (ps_if (pt_cmpR op_gt (pv 1) (pe_op op_pow pe_int pe_int) (nomark _)) (pss_cons (ps_set (i := 2) sc_draw.nd rfl (by first | exact .inl rfl | exact .inr rfl) (pe_call (ok_draw4 T) (hr.mono (by decide)) (by rfl) T.g_draw T.F_draw.kp T.b_draw .nil pass0 (pa_cons (pv 0) (pa_cons (pe_op op_pow pe_int pe_int) pa_nil)))) (pss_one (ps_ret (pe_op op_mod (pe_op op_add (pv 2) (pe_op op_mul (pe_op op_pow pe_int pe_int) (pe_call (ok_draw4 T) (hr.mono (by decide)) (by rfl) T.g_draw T.F_draw.kp T.b_draw .nil pass0 (pa_cons (pv 0) (pa_cons (pe_op op_add (pe_op op_fdiv (pe_op op_sub (pv 1) pe_int) (pe_op op_pow pe_int pe_int)) pe_int) pa_nil))))) (pv 1))))) pss_nil) (pss_cons (ps_dput (hu_of hr) (pv 0) pe_str (pe_op op_add (pe_dget (hu_of hr) (pv 0) pe_str (fun _ _ => rfl)) pe_int) rfl) (pss_cons (ps_if (pt_cmpR (op_eqD hr.units) (pe_dget (hu_of hr) (pv 0) pe_str (fun _ _ => rfl)) (pe_lst pa_nil) (nomark _)) (pss_cons (ps_dput (hu_of hr) (pv 0) pe_str (pe_call (ok_mixed T) (hr.mono (by decide)) (by rfl) T.g_mixed T.F_mixed.kp T.b_mixed .nil pass0 (pa_cons (pe_op op_add (pe_dget (hu_of hr) (pv 0) pe_str (fun _ _ => rfl)) (pe_dget (hu_of hr) (pv 0) pe_str (fun _ _ => rfl))) pa_nil)) rfl) (pss_one (ps_ret (pe_op op_mod (pe_op op_fdiv (pe_dget (hu_of hr) (pv 0) pe_str (fun _ _ => rfl)) pe_int) (pv 1))))) pss_nil) (pss_cons (ps_set (i := 3) sc_draw.nd rfl (by first | exact .inl rfl | exact .inr rfl) (pe_bm0 PySem.F.plainAttrs_list PySem.F.slot_list_pop PySem.F.type_list_pop mt_pop (pe_dget (hu_of hr) (pv 0) pe_str (fun _ _ => rfl)))) (pss_cons (ps_if (pt_cmpR op_ge (pv 3) (pe_op op_pow pe_int pe_int) (nomark _)) (pss_cons (ps_expr (pe_bm PySem.F.plainAttrs_list PySem.F.slot_list_append PySem.F.type_list_append mt_append (pe_dget (hu_of hr) (pv 0) pe_str (fun _ _ => rfl)) (pa_cons (pe_op op_fdiv (pv 3) (pv 1)) pa_nil))) (pss_one (ps_ret (pe_op op_mod (pv 3) (pv 1))))) pss_nil) (pss_one (ps_ret (pe_op op_mod (pe_op op_fdiv (pe_call (ok_mixed T) (hr.mono (by decide)) (by rfl) T.g_mixed T.F_mixed.kp T.b_mixed .nil pass0 (pa_cons (pe_op op_add (pv 3) (pe_dget (hu_of hr) (pv 0) pe_str (fun _ _ => rfl))) pa_nil)) pe_int) (pv 1))))))))), ?_⟩
    refine ⟨.int m, rfl, _, _, rfl, rfl, ⟨by decide, by decide, by decide⟩, _, _, rfl, rfl, _, rfl, ite2 (fun z => ?_) (fun small => ?_)⟩
    · have z' : (10 : Int) ^ (6 : Int).toNat < m := of_decide_eq_true z
      have e6 : (10 : Int) ^ (6 : Int).toNat = 1000000 := by decide
      rw [e6] at z'
      have hq : (m - 1) / (10 : Int) ^ (6 : Int).toNat + 1 ≤ 1000000000000000000000000000000 ∧ 0 < (m - 1) / (10 : Int) ^ (6 : Int).toNat + 1 := by rw [e6]; omega
      refine ⟨.ref d, rfl, _, _, rfl, rfl, ⟨by decide, by decide, by decide⟩, d, l, _, n, rfl, D, by omega, by decide, by decide, fun H1 low D1 fr1 l0 l1 => ?_⟩
      refine ⟨.int low, rfl, _, _, rfl, rfl, ⟨by decide, by decide, by decide⟩, .ref d, rfl, .int m, rfl, _, _, rfl, rfl, _, _, rfl, rfl, ⟨by decide, by decide, by decide⟩, _, _, rfl, rfl, (⟨by decide, by decide⟩ : (0 : Int) < 10 ^ (6 : Int).toNat ∧ (10 : Int) ^ (6 : Int).toNat < 1073741824), _, _, rfl, rfl, d, l, _, _, rfl, D1, ?_, hq.2, hq.1, fun H2 v D2 fr2 v0 v1 => ⟨_, _, rfl, rfl, .inl ⟨by decide, by decide⟩, _, _, rfl, rfl, .int m, rfl, _, _, rfl, rfl, hm0, ?_⟩⟩
      · omega
      exact q _ _ (D2.mono (by omega)) (fr1.trans fr2) (Int.emod_nonneg _ (by omega)) (Int.emod_lt_of_pos _ hm0)
    obtain ⟨ne, cs, y, z, hd, hl, hcs, hz0, hz1⟩ := D
    refine ⟨.ref d, rfl, d, .int z, rfl, dgA hd, _, _, rfl, rfl, .ref d, rfl, d, _, rfl, dpA (z + 1) hd, ?_⟩
    have hd1 : upd H d (.dK [(kC, .ref l), (kS, .int y), (kA, .int (z + 1))]) d = some (.dK [(kC, .ref l), (kS, .int y), (kA, .int (z + 1))]) := upd_same
    have hl1 : upd H d (.dK [(kC, .ref l), (kS, .int y), (kA, .int (z + 1))]) l = some (.lst (cs.map V.int)) := by rw [upd_ne ne.symm]; exact hl
    have fr1 : Fr d l H (upd H d (.dK [(kC, .ref l), (kS, .int y), (kA, .int (z + 1))])) := Fr.d
    generalize upd H d (.dK [(kC, .ref l), (kS, .int y), (kA, .int (z + 1))]) = H1 at hd1 hl1 fr1 ⊢
    refine ⟨.ref d, rfl, d, .ref l, rfl, dgC hd1, Nat.zero_le _, fun p np => ?_⟩
    have s2 := same_upd (o := (HO.lst [])) np
    have h2 : upd H1 p (HO.lst []) p = some (HO.lst []) := upd_same
    generalize upd H1 p (HO.lst []) = H2 at s2 h2 ⊢
    have hd2 := s2 _ _ hd1
    have hl2 := s2 _ _ hl1
    refine ⟨.list (cs.map .int), .list [], .lst (SqL.of hl2) (dpInts cs), .lst (SqL.of h2) .nil, shInts cs, rfl, _, rfl, ?_⟩
    have fr2 : Fr d l H H2 := fr1.trans (Fr.of s2)
    cases cs with
    | nil =>
      refine iteT ?_
      refine ⟨.ref d, rfl, d, .int y, rfl, dgS hd2, .ref d, rfl, d, .int (z + 1), rfl, dgA hd2, _, _, rfl, rfl, _, rfl, fun v v0 v1 => ?_⟩
      refine ⟨.ref d, rfl, d, _, rfl, dpS v hd2, ?_⟩
      refine ⟨.ref d, rfl, d, .int v, rfl, dgS upd_same, _, _, rfl, rfl, (⟨by decide, by decide⟩ : (0 : Int) < 8 ∧ (8 : Int) < 1073741824), .int m, rfl, _, _, rfl, rfl, hm0, ?_⟩
      exact q _ _ ⟨ne, [], v, z + 1, upd_same, by rw [upd_ne ne.symm]; exact hl2, Nat.zero_le _, by omega, by omega⟩ (fr2.trans Fr.d) (Int.emod_nonneg _ (by omega)) (Int.emod_lt_of_pos _ hm0)
    | cons c0 r0 =>
      refine iteF ?_
      obtain ⟨r, c, hrc⟩ : ∃ r c, c0 :: r0 = r ++ [c] := ⟨(c0 :: r0).dropLast, (c0 :: r0).getLast (by simp), (List.dropLast_concat_getLast (by simp)).symm⟩
      rw [hrc] at hl2 hcs
      rw [List.map_append] at hl2
      have lr : r.length ≤ 62 := by rw [List.length_append] at hcs; simp at hcs; omega
      refine ⟨.ref d, rfl, d, .ref l, rfl, dgC hd2, .inl ⟨rfl, _, SqL.of hl2⟩, l, _, .int c, rfl, rfl, hl2, by simp, ?_⟩
      have edl : (r.map V.int ++ [c].map V.int).dropLast = r.map V.int := List.dropLast_concat ..
      rw [edl]
      have hl3 : upd H2 l (.lst (r.map V.int)) l = some (.lst (r.map V.int)) := upd_same
      have hd3 : upd H2 l (.lst (r.map V.int)) d = some (.dK [(kC, .ref l), (kS, .int y), (kA, .int (z + 1))]) := by rw [upd_ne ne]; exact hd2
      have fr3 : Fr d l H (upd H2 l (.lst (r.map V.int))) := fr2.trans Fr.l
      show tSeq _ _ _ _ (upd H2 l (.lst (r.map V.int)))
      generalize upd H2 l (.lst (r.map V.int)) = H3 at hl3 hd3 fr3 ⊢
      have m6 : m ≤ 1000000 := by
        have e6 : (10 : Int) ^ (6 : Int).toNat = 1000000 := by decide
        have h6 : ¬ (10 : Int) ^ (6 : Int).toNat < m := fun k => small (decide_eq_true k)
        rw [e6] at h6
        omega
      refine ⟨.int c, rfl, _, _, rfl, rfl, ⟨by decide, by decide, by decide⟩, _, _, rfl, rfl, _, rfl, ite2 (fun _ => ?_) (fun _ => ?_)⟩
      · refine ⟨.ref d, rfl, d, .ref l, rfl, dgC hd3, .inl ⟨rfl, _, SqL.of hl3⟩, .int c, rfl, .int m, rfl, _, _, rfl, rfl, (⟨hm0, by omega⟩ : 0 < m ∧ m < 1073741824), l, _, _, rfl, rfl, hl3, ?_, ?_⟩
        · rw [List.length_map]
          exact Nat.lt_of_lt_of_le (show r.length < 128 by omega) (by decide)
        refine ⟨.int c, rfl, .int m, rfl, _, _, rfl, rfl, hm0, ?_⟩
        exact q _ _ ⟨ne, r ++ [c / m], y, z + 1, by rw [upd_ne ne]; exact hd3, by rw [upd_same, List.map_append]; rfl, by rw [List.length_append]; show r.length + 1 ≤ 63; omega, by omega, by omega⟩ (fr3.trans Fr.l) (Int.emod_nonneg _ (by omega)) (Int.emod_lt_of_pos _ hm0)
      · refine ⟨.int c, rfl, .ref d, rfl, d, .int (z + 1), rfl, dgA hd3, _, _, rfl, rfl, _, rfl, fun v v0 v1 => ?_⟩
        refine ⟨_, _, rfl, rfl, (⟨by decide, by decide⟩ : (0 : Int) < 8 ∧ (8 : Int) < 1073741824), .int m, rfl, _, _, rfl, rfl, hm0, ?_⟩
        exact q _ _ ⟨ne, r, y, z + 1, hd3, hl3, by omega, by omega, by omega⟩ fr3 (Int.emod_nonneg _ (by omega)) (Int.emod_lt_of_pos _ hm0)
def sp_draw (K : PySem.W.Frag) : Sp := sp_drawN K 1000000000000000000000000000000000000 32
theorem ok_draw (T : Tx K mg) : FnOk P w K mg base CX0 7 T.f_draw T.fd_draw ["_law_deck_here", "_law_most"] (sp_draw K) := ok_draw5 T

end
end Gk

set_option Elab.async false
set_option linter.all false
set_option maxRecDepth 100000
set_option maxHeartbeats 1000000
set_option pp.maxSteps 1500
set_option pp.deepTerms false
namespace Gk
open PySem PySem.Spec PyProof.Rows L2
/-! ### a wave told by its changes -/
def cnt (ts : List Int) (t : Int) : Nat := (ts.filter fun x => decide (x ≤ t)).length
theorem cnt_app (a b : List Int) (t : Int) : cnt (a ++ b) t = cnt a t + cnt b t := by unfold cnt; rw [List.filter_append, List.length_append]
theorem cnt_le (ts : List Int) (t : Int) : cnt ts t ≤ ts.length := List.length_filter_le ..
theorem cnt_all {ts : List Int} {t : Int} (h : ∀ x ∈ ts, x ≤ t) : cnt ts t = ts.length := by
  unfold cnt
  rw [List.filter_eq_self.mpr fun x hx => decide_eq_true (h x hx)]
theorem cnt_no {ts : List Int} {t : Int} (h : ∀ x ∈ ts, t < x) : cnt ts t = 0 := by
  unfold cnt
  rw [List.length_eq_zero_iff, List.filter_eq_nil_iff]
  intro x hx k
  have := h x hx
  have := of_decide_eq_true k
  omega
theorem cnt_one (x t : Int) : cnt [x] t = if x ≤ t then 1 else 0 := by
  unfold cnt
  by_cases h : x ≤ t
  · rw [if_pos h, List.filter_cons, if_pos (decide_eq_true h)]
    rfl
  · rw [if_neg h, List.filter_cons, if_neg (fun k => h (of_decide_eq_true k))]
    rfl
def stepT (f : Int → Int) (acc : List Int × Int) (t : Int) : List Int × Int := if f t ≠ acc.2 then (acc.1 ++ [t], f t) else (acc.1, f t)
structure TInv (f : Int → Int) (ms : List Int) (i : Nat) (acc : List Int × Int) : Prop where
  c : ∀ t, (∀ x ∈ ms.drop i, t < x) → (f (-1) + (cnt acc.1 t : Int)) % 2 = f t
  here : acc.2 = (f (-1) + (acc.1.length : Int)) % 2
  sub : acc.1.Sublist (ms.take i)
theorem tinv0 {f : Int → Int} {ms : List Int} (h01 : ∀ t, f t = 0 ∨ f t = 1) (h0 : ∀ x ∈ ms, 0 ≤ x) (con : ∀ s t, s ≤ t → (∀ x ∈ ms, ¬ (s < x ∧ x ≤ t)) → f s = f t) : TInv f ms 0 ([], f (-1)) := by
  refine ⟨fun t ht => ?_, ?_, List.nil_sublist _⟩
  · have e : f (-1) = f t := by
      by_cases z : t ≤ -1
      · exact (con t (-1) z fun x hx k => by have := h0 x hx; omega).symm
      · exact con (-1) t (by omega) fun x hx k => by have := ht x hx; omega
    show (f (-1) + 0) % 2 = f t
    rw [e]
    rcases h01 t with k | k <;> rw [k] <;> rfl
  · show f (-1) = (f (-1) + 0) % 2
    rcases h01 (-1) with k | k <;> rw [k] <;> rfl
theorem tinv_step {f : Int → Int} {ms : List Int} {i : Nat} {acc : List Int × Int} {u : Int} (h01 : ∀ t, f t = 0 ∨ f t = 1) (rise : ms.Pairwise (· < ·)) (con : ∀ s t, s ≤ t → (∀ x ∈ ms, ¬ (s < x ∧ x ≤ t)) → f s = f t) (I : TInv f ms i acc) (hu : ms[i]? = some u) : TInv f ms (i + 1) (stepT f acc u) := by
  have hi : i < ms.length := (List.getElem?_eq_some_iff.mp hu).1
  have ed : ms.drop i = u :: ms.drop (i + 1) := by
    rw [List.drop_eq_getElem_cons hi]
    congr 1
    rw [List.getElem?_eq_getElem hi] at hu
    exact Option.some.inj hu
  have et : ms.take (i + 1) = ms.take i ++ [u] := by rw [List.take_add_one, hu]; rfl
  have esplit : ms = ms.take i ++ (u :: ms.drop (i + 1)) := by rw [← ed, List.take_append_drop]
  have below : ∀ x ∈ ms.take i, x < u := fun x hx => by
    rw [esplit] at rise
    exact (List.pairwise_append.mp rise).2.2 x hx u List.mem_cons_self
  have above : ∀ t, u ≤ t → (∀ x ∈ ms.drop (i + 1), t < x) → f u = f t := fun t h1 h2 => con u t h1 fun x hx k => by
    rw [esplit] at hx
    rcases List.mem_append.mp hx with q | q
    · have := below x q
      omega
    · rcases List.mem_cons.mp q with q | q
      · omega
      · have := h2 x q
        omega
  have fu := h01 u
  have f1 := h01 (-1)
  have hh := I.here
  unfold stepT
  by_cases z : f u ≠ acc.2
  · rw [if_pos z]
    refine ⟨fun t ht => ?_, ?_, ?_⟩
    · show (f (-1) + (cnt (acc.1 ++ [u]) t : Int)) % 2 = f t
      rw [cnt_app, cnt_one]
      by_cases y : u ≤ t
      · rw [if_pos y, cnt_all (ts := acc.1) fun x hx => by have := below x (I.sub.subset hx); omega]
        have e := above t y ht
        rw [← e]
        push_cast
        rcases fu with k | k <;> rw [k] at z ⊢ <;> omega
      · rw [if_neg y]
        have := I.c t fun x hx => by
          rw [ed] at hx
          rcases List.mem_cons.mp hx with q | q
          · omega
          · exact ht x q
        rw [Nat.add_zero]
        exact this
    · show f u = (f (-1) + ((acc.1 ++ [u]).length : Int)) % 2
      rw [List.length_append]
      push_cast
      have : (([u] : List Int).length : Int) = 1 := rfl
      rcases fu with k | k <;> rw [k] at z ⊢ <;> omega
    · rw [et]
      exact I.sub.append (List.Sublist.refl _)
  · rw [if_neg z]
    have z : f u = acc.2 := by omega
    refine ⟨fun t ht => ?_, ?_, ?_⟩
    · show (f (-1) + (cnt acc.1 t : Int)) % 2 = f t
      by_cases y : u ≤ t
      · rw [cnt_all (ts := acc.1) fun x hx => by have := below x (I.sub.subset hx); omega]
        rw [← above t y ht, z, hh]
      · exact I.c t fun x hx => by
          rw [ed] at hx
          rcases List.mem_cons.mp hx with q | q
          · omega
          · exact ht x q
    · show f u = _
      rw [z, hh]
    · rw [et]
      exact I.sub.trans (List.sublist_append_left _ _)

/-! ### waves: a first worth and the rising times of the changes -/
def wv (x : Int × List Int) (t : Int) : Int := (x.1 + (cnt x.2 t : Int)) % 2
structure Wv (x : Int × List Int) (f : Int → Int) : Prop where
  at_ : ∀ t, wv x t = f t
  lo : ∀ t ∈ x.2, 0 ≤ t
  rise : x.2.Pairwise (· < ·)
  f01 : x.1 = 0 ∨ x.1 = 1
theorem cnt_cons (a : Int) (l : List Int) (t : Int) : cnt (a :: l) t = (if a ≤ t then 1 else 0) + cnt l t := by
  rw [show a :: l = [a] ++ l from rfl, cnt_app, cnt_one]
theorem cnt_step : ∀ (l : List Int) (t : Int), l.Pairwise (· < ·) → cnt l t = cnt l (t - 1) + if t ∈ l then 1 else 0
  | [], t, _ => by simp [cnt]
  | a :: l, t, h => by
    obtain ⟨h1, h2⟩ := List.pairwise_cons.mp h
    rw [cnt_cons, cnt_cons, cnt_step l t h2]
    by_cases e : t = a
    · subst e
      have no : t ∉ l := fun z => by have := h1 t z; omega
      rw [if_pos (Int.le_refl _), if_neg no, if_neg (show ¬ t ≤ t - 1 by omega), if_pos (show t ∈ t :: l from List.mem_cons_self)]
      omega
    · have iff : (if t ∈ a :: l then 1 else 0) = (if t ∈ l then 1 else 0) := by simp [List.mem_cons, e]
      rw [iff]
      by_cases z : a ≤ t
      · rw [if_pos z, if_pos (show a ≤ t - 1 by omega)]
        omega
      · rw [if_neg z, if_neg (show ¬ a ≤ t - 1 by omega)]
        omega
theorem wv01 (x : Int × List Int) (t : Int) : wv x t = 0 ∨ wv x t = 1 := by unfold wv; omega
theorem Wv.first {x : Int × List Int} {f : Int → Int} (W : Wv x f) : x.1 = f (-1) := by
  rw [← W.at_ (-1)]
  unfold wv
  rw [cnt_no fun t ht => by have := W.lo t ht; omega]
  have := W.f01
  show x.1 = (x.1 + (0 : Int)) % 2
  omega
theorem Wv.mem {x : Int × List Int} {f : Int → Int} (W : Wv x f) (t : Int) : t ∈ x.2 ↔ f t ≠ f (t - 1) := by
  rw [← W.at_ t, ← W.at_ (t - 1)]
  unfold wv
  rw [cnt_step x.2 t W.rise]
  by_cases z : t ∈ x.2
  · rw [if_pos z]
    refine ⟨fun _ => ?_, fun _ => z⟩
    push_cast
    omega
  · rw [if_neg z]
    refine ⟨fun k => absurd k z, fun k => ?_⟩
    exact absurd rfl k
theorem rise_ext : ∀ {a b : List Int}, a.Pairwise (· < ·) → b.Pairwise (· < ·) → (∀ x, x ∈ a ↔ x ∈ b) → a = b
  | [], [], _, _, _ => rfl
  | [], y :: _, _, _, h => by have := (h y).mpr List.mem_cons_self; cases this
  | x :: _, [], _, _, h => by have := (h x).mp List.mem_cons_self; cases this
  | x :: r, y :: s, ha, hb, h => by
    obtain ⟨a1, a2⟩ := List.pairwise_cons.mp ha
    obtain ⟨b1, b2⟩ := List.pairwise_cons.mp hb
    have e : x = y := by
      rcases List.mem_cons.mp ((h x).mp List.mem_cons_self) with z | z
      · exact z
      · rcases List.mem_cons.mp ((h y).mpr List.mem_cons_self) with z' | z'
        · exact z'.symm
        · have := a1 y z'
          have := b1 x z
          omega
    subst e
    rw [rise_ext a2 b2 fun u => ⟨fun hu => ?_, fun hu => ?_⟩]
    · rcases List.mem_cons.mp ((h u).mp (List.mem_cons_of_mem _ hu)) with z | z
      · have := a1 u hu
        omega
      · exact z
    · rcases List.mem_cons.mp ((h u).mpr (List.mem_cons_of_mem _ hu)) with z | z
      · have := b1 u hu
        omega
      · exact z
theorem Wv.uniq {x y : Int × List Int} {f : Int → Int} (W : Wv x f) (W' : Wv y f) : x = y := by
  obtain ⟨a, b⟩ := x
  obtain ⟨c, d⟩ := y
  have e1 : a = c := W.first.trans W'.first.symm
  have e2 : b = d := rise_ext W.rise W'.rise fun t => (W.mem t).trans (W'.mem t).symm
  rw [e1, e2]
theorem few_len : ∀ {l : List Int} {lo : Int} {n : Nat}, l.Pairwise (· < ·) → (∀ x ∈ l, lo ≤ x ∧ x < lo + n) → l.length ≤ n
  | [], _, _, _, _ => Nat.zero_le _
  | a :: l, lo, n, h, b => by
    obtain ⟨h1, h2⟩ := List.pairwise_cons.mp h
    have ha := b a List.mem_cons_self
    obtain ⟨k, rfl⟩ : ∃ k, n = k + 1 := ⟨n - 1, by omega⟩
    have := few_len (l := l) (lo := lo + 1) (n := k) h2 fun x hx => by
      have := h1 x hx
      have := (b x (List.mem_cons_of_mem _ hx)).2
      push_cast at this
      omega
    rw [List.length_cons]
    omega
theorem cnt_map (d : Int) (l : List Int) (t : Int) : cnt (l.map fun x => x + d) t = cnt l (t - d) := by
  induction l with
  | nil => rfl
  | cons a r ih =>
    rw [List.map_cons, cnt_cons, cnt_cons, ih]
    by_cases z : a ≤ t - d
    · rw [if_pos z, if_pos (by omega)]
    · rw [if_neg z, if_neg (by omega)]
def shiftW (x : Int × List Int) (d : Int) : Int × List Int := (x.1, x.2.map fun t => t + d)
theorem Wv.shift {x : Int × List Int} {f : Int → Int} (W : Wv x f) {d : Int} (h : 0 ≤ d) : Wv (shiftW x d) (fun t => f (t - d)) := by
  refine ⟨fun t => ?_, fun t ht => ?_, ?_, W.f01⟩
  · rw [← W.at_ (t - d)]
    unfold wv shiftW
    rw [cnt_map]
  · obtain ⟨u, hu, rfl⟩ := List.mem_map.mp ht
    have := W.lo u hu
    show 0 ≤ u + d
    omega
  · exact List.pairwise_map.mpr (W.rise.imp fun h => by omega)
theorem Wv.ext {x : Int × List Int} {f g : Int → Int} (W : Wv x f) (h : ∀ t, f t = g t) : Wv x g := ⟨fun t => (W.at_ t).trans (h t), W.lo, W.rise, W.f01⟩
theorem Wv.self {x : Int × List Int} {f : Int → Int} (W : Wv x f) : Wv x (wv x) := ⟨fun _ => rfl, W.lo, W.rise, W.f01⟩
/-! ### a gate's wave of its ins' waves -/
def gateV (bs : List Bool) (ws : List (Int × List Int)) (t : Int) : Int := gateM bs (ws.map fun x => wv x t)
theorem cnt_same {ts : List Int} {s t : Int} (le : s ≤ t) (h : ∀ x ∈ ts, ¬ (s < x ∧ x ≤ t)) : cnt ts s = cnt ts t := by
  unfold cnt
  congr 1
  refine List.filter_congr fun x hx => ?_
  have := h x hx
  by_cases z : x ≤ s
  · rw [decide_eq_true z, decide_eq_true (show x ≤ t by omega)]
  · rw [decide_eq_false z, decide_eq_false (show ¬ x ≤ t by omega)]
theorem gateV_con {bs : List Bool} {ws : List (Int × List Int)} {ms : List Int} (mem : ∀ t, t ∈ ms ↔ ∃ x ∈ ws, t ∈ x.2) (s t : Int) (le : s ≤ t) (h : ∀ x ∈ ms, ¬ (s < x ∧ x ≤ t)) : gateV bs ws s = gateV bs ws t := by
  unfold gateV
  congr 1
  refine List.map_congr_left fun x hx => ?_
  unfold wv
  rw [cnt_same le fun u hu => h u ((mem u).mpr ⟨x, hx, hu⟩)]
/-- what the gate's walk over the turns leaves is its wave -/
theorem gateV_end {bs : List Bool} {ws : List (Int × List Int)} {ms : List Int} {acc : List Int × Int} (rise : ms.Pairwise (· < ·)) (lo : ∀ x ∈ ms, 0 ≤ x) (I : TInv (gateV bs ws) ms ms.length acc) : Wv (gateV bs ws (-1), acc.1) (gateV bs ws) := by
  refine ⟨fun t => ?_, fun t ht => lo t (List.mem_of_mem_take (I.sub.subset ht)), ?_, gate01 _ _⟩
  · exact I.c t fun x hx => by rw [List.drop_length] at hx; cases hx
  · have := I.sub
    rw [List.take_length] at this
    exact rise.sublist this

end Gk

set_option Elab.async false
set_option linter.all false
set_option maxRecDepth 100000
set_option maxHeartbeats 1000000
set_option pp.maxSteps 1500
set_option pp.deepTerms false
namespace Gk
open PySem PySem.Spec PyProof.Rows L2
/-! ### sorted(d) of a dict with ints as keys, any number of them -/
namespace SrtDi
section
variable {X : Cx}
def rSortDi : List V → Hp → VK → Prop := fun vs H Q => ∃ (a : Addr) (kvs : List (Key × V)) (ks : List Int), vs = [V.ref a] ∧ H a = some (.dK kvs) ∧ kvs.map (·.1) = ks.map Sum.inl ∧
  ∀ (ys : List Int) (p : Addr), ys.Perm ks → ys.Pairwise (· ≤ ·) → H p = none → Q (.ref p) (upd H p (.lst (ys.map V.int)))
theorem key_int {k : Key} {x : Int} {v : Value} (e : k = Sum.inl x) (h : keyIs k v = true) : ∃ t, v = Value.int x t := by
  subst e
  exact Value.isInt_shape (k := x) (v := v) h
theorem cr_sortedDi (hc : X.calm = true) : CallR X (.builtin "sorted") rSortDi := by
  intro pins s σ H xs us Q I r h
  obtain ⟨a, kvs, ks, rfl, hd, hk, q⟩ := h
  rw [Vals.ref1 r]
  obtain ⟨big, lo, vs, rel, at_⟩ : kvs.length ≤ sizeLine ∧ (a == sysModules) = false ∧ ∃ vs, KV kvs vs ∧ s.heap.DictOf (mixKind X.prog X.w) a vs := I.hok a _ hd
  obtain ⟨ep, at2⟩ := at_.dictAt
  have keys : vs.map (·.1) = ks.map Sum.inl := rel.keys.symm.trans hk
  have len : vs.length = ks.length := by simpa using congrArg List.length keys
  have len2 : kvs.length = ks.length := by simpa using congrArg List.length hk
  refine Calls.call_function_entry (kind_sorted) (plain_sorted) (entry_sorted) (args_sorted1 _) ?_
  unfold Builtin.«sorted»
  refine wpAny_bind (m := checkCount "sorted" 1 1 _) (wpAny_pure ?_)
  refine wpAny_bind (PySem.W.kdu_collect (A := X.A.in1) (PySem.W.kdl_dict (knd := mixKind X.prog X.w) (kvs := vs) (ep := ep) lo) (I.ok.hd hc) at2 (show vs.length ≤ sizeLine by omega) fun h' tk acc old got => ?_)
  have accl : acc.toList.length = ks.length := by rw [Array.length_toList, got.1, len]
  have at' : ∀ (j : Nat) (v : Value), acc.toList[j]? = some v → ∃ y t, ks[j]? = some y ∧ v = Value.int y t := fun j v e => by
    obtain ⟨k, x, e1, e2⟩ := got.2 j v (by rw [← Array.getElem?_toList]; exact e)
    have e3 : (ks.map Sum.inl)[j]? = some k := by
      rw [← keys, List.getElem?_map, e1]
      rfl
    rw [List.getElem?_map] at e3
    obtain ⟨y, e4, e5⟩ := Option.map_eq_some_iff.mp e3
    obtain ⟨t, ev⟩ := key_int e5.symm e2
    exact ⟨y, t, e4, ev⟩
  have hi0 : IntsAre acc.toList (acc.toList.map SrtO.iv) := SrtO.ints_iv fun v hv => by
    obtain ⟨j, hj⟩ := List.getElem?_of_mem hv
    obtain ⟨y, t, _, e⟩ := at' j v hj
    exact ⟨y, t, e⟩
  have ek : acc.toList.map SrtO.iv = ks := List.ext_getElem? fun j => by
    rw [List.getElem?_map]
    cases e : acc.toList[j]? with
    | none =>
      have := List.getElem?_eq_none_iff.mp e
      exact (List.getElem?_eq_none (by omega)).symm
    | some v =>
      obtain ⟨y, t, e1, rfl⟩ := at' j v e
      rw [e1]
      rfl
  rw [ek] at hi0
  have sl : acc.toList.length ≤ sizeLine := by omega
  have I1 : Inv X pins σ H { s with heap := h', toks := tk } := I.kept old
  refine wpAny_bind (wpAny_newList ?_ sl)
  have hL : (h'.push (seqObj "list" acc.toList.toArray 0)).get? h'.objs.size = some (seqObj "list" acc.toList.toArray 0) := Heap.get?_push_size _ rfl
  refine wpAny_bind (wpAny_holding (wpAny_call_entry (slot_list_sort) ⟨_, hL, rfl⟩ (entry_list_sort) (SrtO.list_sort_ord SrtO.swo_int hL sl (fun two => SrtO.ints_sortable hi0 two) fun out k1 k2 => ⟨_, rfl, ?_⟩) (args_list_sort _)))
  obtain ⟨c, hcc⟩ := sortedHeap_at (vs := acc.toList) (out := out.toArray) hL
  obtain ⟨k3, k4, k5⟩ := SrtO.ints_out hi0 k1 k2
  have few : ((out.map SrtO.iv).map V.int).length ≤ sizeLine := by
    rw [List.length_map, k4.length_eq]
    omega
  exact wpAny_pure ⟨_, rfl, .ref h'.objs.size, upd H h'.objs.size (.lst ((out.map SrtO.iv).map V.int)), I1.laid (t' := tk) (fun b u e => by
    have e1 : h'.get? b = some u := e
    have lt := Heap.lt_size e1
    show (sortedHeap (h'.push (seqObj "list" acc.toList.toArray 0)) h'.objs.size acc.toList out.toArray).get? b = some u
    rw [sortedHeap_old (Nat.ne_of_lt lt) (by rw [size_push']; exact Nat.lt_succ_of_lt lt)]
    exact Heap.get?_push_of_some _ e1) (Nat.le_refl _) ⟨few, out, c, vals_of_ints k3, hcc⟩, rfl, q _ _ k4 k5 (I1.hok.fresh (Nat.le_refl _))⟩
end
end SrtDi

end Gk

set_option Elab.async false
set_option linter.all false
set_option maxRecDepth 100000
set_option maxHeartbeats 1000000
set_option pp.maxSteps 1500
set_option pp.deepTerms false
namespace Gk
open PySem PySem.Spec PyProof.Rows L2
/-! ### what each wire is worth at each time -/
def Shape (gs : List Gt) (D : List (List Int)) : Prop := D.length = gs.length ∧ ∀ (g : Nat) (gt : Gt) (d : List Int), gs[g]? = some gt → D[g]? = some d → d.length = gt.2.length
structure ValOk (m : Nat) (gs : List Gt) (D : List (List Int)) (a b : List Int) (V : Nat → Int → Int) : Prop where
  i : ∀ (r : Nat) (t : Int), r < m → V r t = if 0 ≤ t then b.getD r 0 else a.getD r 0
  g : ∀ (g : Nat) (gt : Gt) (d : List Int) (t : Int), gs[g]? = some gt → D[g]? = some d → V (m + g) t = gateM gt.1 ((gt.2.zip d).map fun x => V x.1 (t - x.2))
def inV (a b : List Int) : List (Int → Int) := (a.zip b).map fun p t => if 0 ≤ t then p.2 else p.1
def stepV (fs : List (Int → Int)) (e : Gt × List Int) : List (Int → Int) := fs ++ [fun t => gateM e.1.1 ((e.1.2.zip e.2).map fun x => (fs.getD x.1 (fun _ => 0)) (t - x.2))]
def valsM (gs : List Gt) (D : List (List Int)) (a b : List Int) : List (Int → Int) := (gs.zip D).foldl stepV (inV a b)
def valAt (gs : List Gt) (D : List (List Int)) (a b : List Int) (r : Nat) (t : Int) : Int := (valsM gs D a b).getD r (fun _ => 0) t
theorem stepV_len (fs : List (Int → Int)) (e : Gt × List Int) : (stepV fs e).length = fs.length + 1 := by
  unfold stepV
  rw [List.length_append]
  rfl
theorem stepV_at (fs : List (Int → Int)) (e : Gt × List Int) {n : Nat} (h : fs.length = n) (t : Int) : (stepV fs e).getD n (fun _ => 0) t = gateM e.1.1 ((e.1.2.zip e.2).map fun x => (fs.getD x.1 (fun _ => 0)) (t - x.2)) := by
  subst h
  unfold stepV
  rw [List.getD_eq_getElem?_getD, List.getElem?_append_right (Nat.le_refl _), Nat.sub_self]
  rfl
theorem foldV_app : ∀ (l : List (Gt × List Int)) (fs : List (Int → Int)), ∃ t, l.foldl stepV fs = fs ++ t
  | [], fs => ⟨[], (List.append_nil _).symm⟩
  | e :: l, fs => by
    obtain ⟨t, h⟩ := foldV_app l (stepV fs e)
    refine ⟨[fun t => gateM e.1.1 ((e.1.2.zip e.2).map fun x => (fs.getD x.1 (fun _ => 0)) (t - x.2))] ++ t, ?_⟩
    rw [List.foldl_cons, h]
    show (fs ++ [_]) ++ t = _
    rw [List.append_assoc]
theorem foldV_len : ∀ (l : List (Gt × List Int)) (fs : List (Int → Int)), (l.foldl stepV fs).length = fs.length + l.length
  | [], _ => rfl
  | e :: l, fs => by
    rw [List.foldl_cons, foldV_len l, stepV_len, List.length_cons]
    omega
theorem inV_len {a b : List Int} {m : Nat} (la : a.length = m) (lb : b.length = m) : (inV a b).length = m := by
  unfold inV
  rw [List.length_map, List.length_zip, la, lb, Nat.min_self]
theorem valsM_pre {gs : List Gt} {D : List (List Int)} {a b : List Int} {m : Nat} (la : a.length = m) (lb : b.length = m) (i : Nat) (hi : i ≤ (gs.zip D).length) {k : Nat} (hk : k < m + i) : (valsM gs D a b).getD k (fun _ => 0) = (((gs.zip D).take i).foldl stepV (inV a b)).getD k (fun _ => 0) := by
  have e : valsM gs D a b = ((gs.zip D).drop i).foldl stepV (((gs.zip D).take i).foldl stepV (inV a b)) := by
    unfold valsM
    rw [← List.foldl_append, List.take_append_drop]
  obtain ⟨t, et⟩ := foldV_app ((gs.zip D).drop i) (((gs.zip D).take i).foldl stepV (inV a b))
  rw [e, et, List.getD_eq_getElem?_getD, List.getD_eq_getElem?_getD, List.getElem?_append_left (by rw [foldV_len, inV_len la lb, List.length_take]; omega)]
theorem val_ok {m : Nat} {gs : List Gt} {D : List (List Int)} {a b : List Int} (la : a.length = m) (lb : b.length = m) (okn : NetOk m gs) (sh : Shape gs D) : ValOk m gs D a b (valAt gs D a b) := by
  have lz : (gs.zip D).length = gs.length := by rw [List.length_zip, sh.1, Nat.min_self]
  refine ⟨fun r t hr => ?_, fun g gt d t hg hd => ?_⟩
  · unfold valAt
    rw [valsM_pre la lb 0 (Nat.zero_le _) (by omega)]
    show (inV a b).getD r (fun _ => 0) t = _
    unfold inV
    have h1 : a[r]? = some (a[r]'(by omega)) := List.getElem?_eq_getElem _
    have h2 : b[r]? = some (b[r]'(by omega)) := List.getElem?_eq_getElem _
    have hz : (a.zip b)[r]? = some (a[r]'(by omega), b[r]'(by omega)) := by rw [List.getElem?_zip_eq_some]; exact ⟨h1, h2⟩
    rw [List.getD_eq_getElem?_getD, List.getElem?_map, hz, List.getD_eq_getElem?_getD, List.getD_eq_getElem?_getD, h1, h2]
    rfl
  · have hz : (gs.zip D)[g]? = some (gt, d) := by rw [List.getElem?_zip_eq_some]; exact ⟨hg, hd⟩
    have hgl := (List.getElem?_eq_some_iff.mp hg).1
    have lt : (((gs.zip D).take g).foldl stepV (inV a b)).length = m + g := by rw [foldV_len, inV_len la lb, List.length_take]; omega
    unfold valAt
    rw [valsM_pre la lb (g + 1) (by omega) (by omega), List.take_add_one, hz, List.foldl_append]
    show (stepV (((gs.zip D).take g).foldl stepV (inV a b)) (gt, d)).getD (m + g) (fun _ => 0) t = _
    rw [stepV_at _ _ lt]
    show gateM gt.1 _ = _
    congr 1
    refine List.map_congr_left fun x hx => ?_
    have := (okn g gt hg).2.2.2 x.1 (List.of_mem_zip (a := x.1) (b := x.2) hx).1
    rw [valsM_pre la lb g (by omega) (by omega)]
theorem V01 {m : Nat} {gs : List Gt} {D : List (List Int)} {a b : List Int} (la : a.length = m) (lb : b.length = m) (ha : Row01 a) (hb : Row01 b) (okn : NetOk m gs) (sh : Shape gs D) {r : Nat} (hr : r < m + gs.length) (t : Int) : valAt gs D a b r t = 0 ∨ valAt gs D a b r t = 1 := by
  have V := val_ok la lb okn sh
  have at0 : ∀ {l : List Int}, Row01 l → ∀ r, l.getD r 0 = 0 ∨ l.getD r 0 = 1 := fun {l} h r => by
    rw [List.getD_eq_getElem?_getD]
    cases e : l[r]? with
    | none => exact .inl rfl
    | some x => exact h x (List.mem_of_getElem? e)
  by_cases z : r < m
  · rw [V.i r t z]
    split
    · exact at0 hb r
    · exact at0 ha r
  · obtain ⟨g, rfl⟩ : ∃ g, r = m + g := ⟨r - m, by omega⟩
    have hg : g < gs.length := by omega
    have hd : g < D.length := by rw [sh.1]; exact hg
    rw [V.g g _ _ t (List.getElem?_eq_getElem hg) (List.getElem?_eq_getElem hd)]
    exact gate01 _ _
def NonNeg (D : List (List Int)) : Prop := ∀ d ∈ D, ∀ x ∈ d, 0 ≤ x
theorem V_lo {m : Nat} {gs : List Gt} {D : List (List Int)} {a b : List Int} (la : a.length = m) (lb : b.length = m) (okn : NetOk m gs) (sh : Shape gs D) (nn : NonNeg D) : ∀ i, i ≤ gs.length → ∀ r, r < m + i → ∀ s t : Int, s < 0 → t < 0 → valAt gs D a b r s = valAt gs D a b r t
  | 0, _, r, hr, s, t, hs, ht => by
    have V := val_ok la lb okn sh
    rw [V.i r s (by omega), V.i r t (by omega), if_neg (by omega), if_neg (by omega)]
  | i + 1, hi, r, hr, s, t, hs, ht => by
    by_cases z : r < m + i
    · exact V_lo la lb okn sh nn i (by omega) r z s t hs ht
    · obtain rfl : r = m + i := by omega
      have V := val_ok la lb okn sh
      have hg : i < gs.length := by omega
      have hd : i < D.length := by rw [sh.1]; exact hg
      rw [V.g i _ _ s (List.getElem?_eq_getElem hg) (List.getElem?_eq_getElem hd), V.g i _ _ t (List.getElem?_eq_getElem hg) (List.getElem?_eq_getElem hd)]
      congr 1
      refine List.map_congr_left fun x hx => ?_
      have h := List.of_mem_zip (a := x.1) (b := x.2) hx
      have h1 := (okn i _ (List.getElem?_eq_getElem hg)).2.2.2 x.1 h.1
      have h2 := nn _ (List.getElem_mem hd) x.2 h.2
      exact V_lo la lb okn sh nn i (by omega) x.1 h1 _ _ (by omega) (by omega)
/-- delays no greater than these, gate by gate -/
def Under (D : List (List Int)) (M : List Int) : Prop := M.length = D.length ∧ ∀ (g : Nat) (d : List Int) (z : Int), D[g]? = some d → M[g]? = some z → 0 ≤ z ∧ ∀ x ∈ d, x ≤ z
theorem V_hi {m : Nat} {gs : List Gt} {D : List (List Int)} {a b : List Int} {M : List Int} (la : a.length = m) (lb : b.length = m) (okn : NetOk m gs) (sh : Shape gs D) (un : Under D M) : ∀ i, i ≤ gs.length → ∀ r, r < m + i → ∀ s t : Int, (M.take i).sum ≤ s → (M.take i).sum ≤ t → valAt gs D a b r s = valAt gs D a b r t
  | 0, _, r, hr, s, t, hs, ht => by
    have V := val_ok la lb okn sh
    have hs : 0 ≤ s := hs
    have ht : 0 ≤ t := ht
    rw [V.i r s (by omega), V.i r t (by omega), if_pos hs, if_pos ht]
  | i + 1, hi, r, hr, s, t, hs, ht => by
    have hg : i < gs.length := by omega
    have hd : i < D.length := by rw [sh.1]; exact hg
    have hM : i < M.length := by rw [un.1]; exact hd
    obtain ⟨z0, z1⟩ := un.2 i _ _ (List.getElem?_eq_getElem hd) (List.getElem?_eq_getElem hM)
    have es : (M.take (i + 1)).sum = (M.take i).sum + M[i] := by
      rw [List.take_add_one, List.getElem?_eq_getElem hM, List.sum_append]
      simp
    rw [es] at hs ht
    by_cases z : r < m + i
    · exact V_hi la lb okn sh un i (by omega) r z s t (by omega) (by omega)
    · obtain rfl : r = m + i := by omega
      have V := val_ok la lb okn sh
      rw [V.g i _ _ s (List.getElem?_eq_getElem hg) (List.getElem?_eq_getElem hd), V.g i _ _ t (List.getElem?_eq_getElem hg) (List.getElem?_eq_getElem hd)]
      congr 1
      refine List.map_congr_left fun x hx => ?_
      have h := List.of_mem_zip (a := x.1) (b := x.2) hx
      have h1 := (okn i _ (List.getElem?_eq_getElem hg)).2.2.2 x.1 h.1
      have h2 := z1 x.2 h.2
      exact V_hi la lb okn sh un i (by omega) x.1 h1 _ _ (by omega) (by omega)
def InWave (x y : Int) : List Int := if x = y then [] else [0]
theorem in_wv {x y : Int} (hx : x = 0 ∨ x = 1) (hy : y = 0 ∨ y = 1) : Wv (x, InWave x y) (fun t => if 0 ≤ t then y else x) := by
  unfold InWave
  refine ⟨fun t => ?_, fun z hz => ?_, ?_, hx⟩
  · by_cases e : x = y
    · rw [if_pos e]
      show (x + 0) % 2 = if 0 ≤ t then y else x
      subst e
      split <;> omega
    · rw [if_neg e]
      show (x + (cnt [0] t : Int)) % 2 = _
      rw [cnt_one]
      split <;> push_cast <;> omega
  · have hz : z ∈ (if x = y then ([] : List Int) else [0]) := hz
    split at hz
    · cases hz
    · rw [List.mem_singleton.mp hz]
      decide
  · show (if x = y then ([] : List Int) else [0]).Pairwise (· < ·)
    split
    · exact .nil
    · exact List.pairwise_singleton _ _
def wvD (x : Int × List Int) : PyData := .tuple [.int x.1, rowD x.2]
/-- all waves so far -/
def Wvs (ws : List (Int × List Int)) (V : Nat → Int → Int) : Prop := ∀ (r : Nat) (x : Int × List Int), ws[r]? = some x → Wv x (V r)
theorem Wvs.snoc {ws : List (Int × List Int)} {V : Nat → Int → Int} {x : Int × List Int} (h : Wvs ws V) (hx : Wv x (V ws.length)) : Wvs (ws ++ [x]) V := fun r y e => by
  by_cases z : r < ws.length
  · rw [List.getElem?_append_left z] at e
    exact h r y e
  · rw [List.getElem?_append_right (by omega)] at e
    have er : r = ws.length := by
      have := (List.getElem?_eq_some_iff.mp e).1
      simp at this
      omega
    subst er
    rw [Nat.sub_self] at e
    cases Option.some.inj e
    exact hx
/-- a gate's ins, each so much later -/
def lateW (ws : List (Int × List Int)) (ins : List Nat) (d : List Int) : List (Int × List Int) := (ins.zip d).map fun e => shiftW (ws.getD e.1 (0, [])) e.2
theorem lateW_V {m i : Nat} {gs : List Gt} {D : List (List Int)} {a b : List Int} {ws : List (Int × List Int)} {gt : Gt} {d : List Int} (la : a.length = m) (lb : b.length = m) (okn : NetOk m gs) (sh : Shape gs D) (nn : NonNeg D) (hg : gs[i]? = some gt) (hd : D[i]? = some d) (lw : ws.length = m + i) (W : Wvs ws (valAt gs D a b)) (t : Int) : gateV gt.1 (lateW ws gt.2 d) t = valAt gs D a b (m + i) t := by
  rw [(val_ok la lb okn sh).g i gt d t hg hd]
  unfold gateV lateW
  congr 1
  rw [List.map_map]
  refine List.map_congr_left fun e he => ?_
  have h := List.of_mem_zip (a := e.1) (b := e.2) he
  have h1 := (okn i gt hg).2.2.2 e.1 h.1
  have hf : ws[e.1]? = some (ws.getD e.1 (0, [])) := by rw [List.getD_eq_getElem?_getD, List.getElem?_eq_getElem (by omega)]; rfl
  exact ((W e.1 _ hf).shift (nn d (List.mem_of_getElem? hd) e.2 h.2)).at_ t
theorem lateW_ok {m i : Nat} {gs : List Gt} {D : List (List Int)} {a b : List Int} {ws : List (Int × List Int)} {gt : Gt} {d : List Int} (okn : NetOk m gs) (nn : NonNeg D) (hg : gs[i]? = some gt) (hd : D[i]? = some d) (lw : ws.length = m + i) (W : Wvs ws (valAt gs D a b)) : ∀ x ∈ lateW ws gt.2 d, Wv x (wv x) := by
  intro x hx
  obtain ⟨e, he, rfl⟩ := List.mem_map.mp hx
  have h := List.of_mem_zip (a := e.1) (b := e.2) he
  have h1 := (okn i gt hg).2.2.2 e.1 h.1
  have hf : ws[e.1]? = some (ws.getD e.1 (0, [])) := by rw [List.getD_eq_getElem?_getD, List.getElem?_eq_getElem (by omega)]; rfl
  exact ((W e.1 _ hf).shift (nn d (List.mem_of_getElem? hd) e.2 h.2)).self

end Gk

set_option Elab.async false
set_option linter.all false
set_option maxRecDepth 100000
set_option maxHeartbeats 1000000
set_option pp.maxSteps 1500
set_option pp.deepTerms false
namespace Gk
open PySem PySem.Spec PyProof.Rows L2
section
variable {P : Program} {w : World} {K : PySem.W.Frag} {mg : Str → Option Value} {base : Heap}
/-! ### an input's wave, a wave later -/
def sp_input_wave (K : PySem.W.Frag) : Sp := fun vs H Q _ => ∃ (x y : Int), vs = [.int x, .int y] ∧ ∀ r H', Same H H' → Tk H' (.ref r) (wvD (x, InWave x y)) → Q (.ref r) H'
theorem ok_input_wave (T : Tx K mg) : FnOk P w K mg base CX0 1 T.f_input_wave T.fd_input_wave ["before", "after"] (sp_input_wave K) := by
  refine T.F_input_wave.ok sc_input_wave (fun vs H Q E h => ?_) (fun cdv A outer s H vs Q E hr h => ?_)
  · obtain ⟨x, y, rfl, _⟩ := h
    rfl
  · obtain ⟨x, y, rfl, q⟩ := h
    refine ⟨_, (pss_cons (ps_set (i := 2) sc_input_wave.nd rfl (by first | exact .inl rfl | exact .inr rfl) (pe_ifExp (pt_cmpR op_eq (pv 0) (pv 1) (nomark _)) (pe_tup pa_nil) (pe_tup (pa_cons pe_int pa_nil)))) (pss_one (ps_ret (pe_tup (pa_cons (pv 0) (pa_cons (pv 2) pa_nil)))))), ?_⟩
    refine ⟨.int x, rfl, .int y, rfl, rfl, _, rfl, ite2 (fun e => ?_) (fun e => ?_)⟩
    · have e : x = y := V.int.inj (of_decide_eq_true e)
      refine ⟨Nat.zero_le _, fun p np => ?_⟩
      have s1 := same_upd (o := HO.tup []) np
      have h1 : upd H p (HO.tup []) p = some (HO.tup []) := upd_same
      generalize upd H p (HO.tup []) = H1 at s1 h1 ⊢
      refine ⟨.int x, rfl, .ref p, rfl, sl2, fun r nr => ?_⟩
      have s2 := same_upd (o := HO.tup [V.int x, .ref p]) nr
      refine q r _ (s1.trans s2) (.tup upd_same (.cons (.int _) (.cons (.tup (s2 _ _ h1) ?_) .nil)))
      unfold InWave
      rw [if_pos e]
      exact .nil
    · have e : x ≠ y := fun z => e (by rw [z]; exact decide_eq_true rfl)
      refine ⟨sl1, fun p np => ?_⟩
      have s1 := same_upd (o := HO.tup [V.int 0]) np
      have h1 : upd H p (HO.tup [V.int 0]) p = some (HO.tup [V.int 0]) := upd_same
      generalize upd H p (HO.tup [V.int 0]) = H1 at s1 h1 ⊢
      refine ⟨.int x, rfl, .ref p, rfl, sl2, fun r nr => ?_⟩
      have s2 := same_upd (o := HO.tup [V.int x, .ref p]) nr
      refine q r _ (s1.trans s2) (.tup upd_same (.cons (.int _) (.cons (.tup (s2 _ _ h1) ?_) .nil)))
      unfold InWave
      rw [if_neg e]
      exact TkAll.ints [0]
def sp_later (T : Tx K mg) : Sp := fun vs H Q _ => ∃ (wa : Addr) (x : Int × List Int) (d : Int), vs = [.ref wa, .int d] ∧ Tk H (.ref wa) (wvD x) ∧ x.2.length ≤ 1000000 ∧ GxR.TabG H T.P_later ∧ ∀ r H', Gr H H' → Tk H' (.ref r) (wvD (shiftW x d)) → Q (.ref r) H'
theorem Tk.wv_inv {H : Hp} {v : V} {x : Int × List Int} (h : Tk H v (wvD x)) : ∃ a t, v = .ref a ∧ H a = some (.tup [.int x.1, .ref t]) ∧ H t = some (.tup (x.2.map V.int)) := by
  obtain ⟨a, xs, rfl, ha, ts⟩ := h.tup_inv
  cases ts with
  | cons h1 r =>
    cases r with
    | cons h2 r =>
      cases r
      obtain rfl := h1.int_inv
      obtain ⟨t, rfl, ht⟩ := h2.row_inv
      exact ⟨a, t, rfl, ha, ht⟩
theorem ok_later (T : Tx K mg) (B : Tb base T) : FnOk P w K mg base CX0 2 T.f_later T.fd_later ["wave", "delay"] (sp_later T) := by
  refine okC T.F_later sc_later (fun vs H Q E h => ?_) (fun A outer s H vs Q E hr h => ?_)
  · obtain ⟨wa, x, d, rfl, _⟩ := h
    rfl
  · obtain ⟨wa, x, d, rfl, tw, hl, tab, q⟩ := h
    refine ⟨_, (pss_cons (ps_asg (pv 0) (pg_tup rfl (pgs_cons (pg_name (i := 2) sc_later.nd rfl (by first | exact .inl rfl | exact .inr rfl)) (pgs_cons (pg_name (i := 3) sc_later.nd rfl (by first | exact .inl rfl | exact .inr rfl)) pgs_nil)))) (pss_one (ps_ret (pe_tup (pa_cons (pv 2) (pa_cons (pe_tupX (own := [("time", 4)]) (k := 0) (hr.mono (by decide)) rfl sc_later.nd (by rfl) T.m_tuple (by decide +kernel) B.TB_later T.cd_later rfl rfl (by decide +kernel) (blkOk_by (own := [("time", 4)]) (N := ["wave", "delay", "first", "times", "time"]) (sc := defScope s_later) (by decide +kernel)) (pi_tup (pv 3)) (fun _ _ _ _ _ _ _ hr gd => (pg_name (i := 4) sc_later.nd rfl (by first | exact .inl rfl | exact .inr rfl))) (fun _ _ _ _ _ _ _ hr gd => pts_nil) (fun _ _ _ _ _ _ _ hr gd => (pe_op op_add (pv 4) (pv 1))) (fun _ => rfl)) pa_nil)))))), ?_⟩
    obtain ⟨wa', t, e, ha, ht⟩ := tw.wv_inv
    cases e
    refine ⟨.ref wa, rfl, wa, _, rfl, SqT.of ha, rfl, _, _, rfl, _, _, rfl, rfl, ?_⟩
    refine ⟨.int x.1, rfl, .ref t, rfl, t, rfl, ⟨_, SqT.of ht⟩, tab, fun H2 tb2 => ?_⟩
    have g2 := Gr.tab tab tb2
    refine gx_tup (K := K) (a := t) (xs := x.2.map V.int) (fun i ys H' => Gr H H' ∧ ys = (x.2.take i).map fun u => V.int (u + d)) ⟨g2, rfl⟩ (fun i _ H' _ z => SqT.of (z.1.tup ht)) ?_ ?_
    · rintro i v ys H3 hv ⟨g3, rfl⟩
      obtain ⟨u, hu, rfl⟩ : ∃ u, x.2[i]? = some u ∧ v = V.int u := by
        rw [List.getElem?_map] at hv
        obtain ⟨u, hu, e⟩ := Option.map_eq_some_iff.mp hv
        exact ⟨u, hu, e.symm⟩
      have hi := (List.getElem?_eq_some_iff.mp hu).1
      refine ⟨rfl, .int u, rfl, .int d, rfl, _, _, rfl, rfl, ?_, g3, ?_⟩
      · rw [List.length_map, List.length_take]
        exact Nat.lt_of_le_of_lt (show min i x.2.length ≤ 1000000 by omega) (by decide)
      · rw [List.take_add_one, hu, List.map_append]
        rfl
    · rintro ys H3 ⟨g3, rfl⟩
      have e0 : (x.2.map V.int).length = x.2.length := List.length_map ..
      rw [e0, List.take_length]
      refine ⟨?_, fun p np => ?_⟩
      · rw [List.length_map]
        exact Nat.le_trans hl (by decide)
      have s1 := same_upd (o := HO.tup (x.2.map fun u => V.int (u + d))) np
      have h1 : upd H3 p (HO.tup (x.2.map fun u => V.int (u + d))) p = some (HO.tup (x.2.map fun u => V.int (u + d))) := upd_same
      generalize upd H3 p _ = H4 at s1 h1 ⊢
      refine ⟨sl2, fun r nr => ?_⟩
      have s2 := same_upd (o := HO.tup [V.int x.1, .ref p]) nr
      refine q r _ ((g3.trans (Gr.of s1)).trans (Gr.of s2)) (.tup upd_same (.cons (.int _) (.cons (.tup (s2 _ _ h1) ?_) .nil)))
      have := TkAll.ints (H := upd H4 r (HO.tup [V.int x.1, .ref p])) (x.2.map fun u => u + d)
      rw [List.map_map] at this
      exact this

end
end Gk

set_option Elab.async false
set_option linter.all false
set_option maxRecDepth 100000
set_option maxHeartbeats 1000000
set_option pp.maxSteps 1500
set_option pp.deepTerms false
namespace Gk
open PySem PySem.Spec PyProof.Rows L2
section
variable {P : Program} {w : World} {K : PySem.W.Frag} {mg : Str → Option Value} {base : Heap}
theorem for_enumL {K : PySem.W.Frag} {a : Addr} {xs : List V} {g : TG} {tb : TS} {D : Ends} {σ : L2.St} {H : Hp} (Pv : Nat → L2.St → Hp → Prop) (h0 : Pv 0 σ H) (hl : ∀ i σ H, i ≤ xs.length → Pv i σ H → SqL K H a xs)
    (hs : ∀ (i : Nat) (x : V) (T : Addr) (σ : L2.St) (H : Hp), xs[i]? = some x → H T = none → Pv i σ H → g (.ref T) σ (upd H T (.tup [.int (i : Nat), x])) fun σ2 H2 => tb { D with nx := Pv (i + 1), ct := Pv (i + 1), bk := D.nx } σ2 H2) (hd : ∀ σ H, Pv xs.length σ H → D.nx σ H) :
    ∃ W : Nat → Nat → L2.St → Hp → Prop, (∃ m, W 0 m σ H) ∧ ∀ i m σ H, W i m σ H →
      ((Ite K a).stop i H ∧ D.nx σ H) ∨ ((Ite K a).go i H ∧ ∃ N : L2.St → Hp → Prop, (∀ σ' H', N σ' H' → ∃ m', m' < m ∧ W (i + 1) m' σ' H') ∧ ∀ x H', (Ite K a).yld i H x H' → g x σ H' fun σ2 H2 => tb { D with nx := N, ct := N, bk := D.nx } σ2 H2) := by
  refine ⟨fun i m σ H => m = xs.length - i ∧ i ≤ xs.length ∧ Pv i σ H, ⟨xs.length, rfl, Nat.zero_le _, h0⟩, ?_⟩
  rintro i m σ H ⟨rfl, hi, p⟩
  have q := hl i σ H hi p
  by_cases hlt : i < xs.length
  · have hx : xs[i]? = some xs[i] := List.getElem?_eq_getElem hlt
    refine .inr ⟨⟨xs, xs[i], q, hx⟩, Pv (i + 1), fun σ' H' p' => ⟨xs.length - (i + 1), by omega, rfl, hlt, p'⟩, fun x H' y => ?_⟩
    obtain ⟨T, x1, rfl, nT, rfl, e1⟩ := y
    exact hs i x1 T σ H (e1 xs q) nT p
  · have e : i = xs.length := by omega
    subst e
    exact .inl ⟨⟨xs, q, Nat.le_refl _⟩, hd σ H p⟩

/-! ### the turns of waves: a time, and the places that change then -/
def nV (ws : List Nat) : List V := (ws.map Int.ofNat).map V.int
theorem nV_len (ws : List Nat) : (nV ws).length = ws.length := by unfold nV; rw [List.length_map, List.length_map]
theorem nV_app (a b : List Nat) : nV (a ++ b) = nV a ++ nV b := by unfold nV; rw [List.map_append, List.map_append]
abbrev TL3 := List (Int × Addr × List Nat)
def kvL (L : TL3) : List (Key × V) := L.map fun e => ((Sum.inl e.1 : Key), V.ref e.2.1)
structure TsAt (H : Hp) (da : Addr) (L : TL3) : Prop where
  d : H da = some (.dK (kvL L))
  ls : ∀ e ∈ L, H e.2.1 = some (.lst (nV e.2.2))
  nd : (L.map fun e => e.2.1).Nodup
  nk : (L.map fun e => e.1).Nodup
theorem kvL_at (u : Int) : ∀ L : TL3, (∃ e ∈ L, e.1 = u ∧ valV (kvL L) (Sum.inl u) = some (.ref e.2.1)) ∨ (u ∉ L.map (fun e => e.1) ∧ valV (kvL L) (Sum.inl u) = none)
  | [] => .inr ⟨(fun h => by cases h), rfl⟩
  | e :: L => by
    by_cases z : e.1 = u
    · refine .inl ⟨e, List.mem_cons_self, z, ?_⟩
      show valV ((Sum.inl e.1, V.ref e.2.1) :: kvL L) (Sum.inl u) = _
      rw [valV_pos (by show (Sum.inl e.1 : Key) = Sum.inl u; rw [z])]
    · have hn : valV (kvL (e :: L)) (Sum.inl u) = valV (kvL L) (Sum.inl u) := valV_neg (fun k => z (Sum.inl.inj k))
      rcases kvL_at u L with ⟨f, hf, h1, h2⟩ | ⟨h1, h2⟩
      · exact .inl ⟨f, List.mem_cons_of_mem _ hf, h1, hn.trans h2⟩
      · refine .inr ⟨fun h => ?_, hn.trans h2⟩
        rw [List.map_cons] at h
        rcases List.mem_cons.mp h with k | k
        · exact z k.symm
        · exact h1 k
def bumpT (L : TL3) (u : Int) (k : Nat) : TL3 := L.map fun e => if e.1 = u then (e.1, e.2.1, e.2.2 ++ [k]) else e
theorem bump_keys (L : TL3) (u : Int) (k : Nat) : (bumpT L u k).map (fun e => e.1) = L.map fun e => e.1 := by
  unfold bumpT
  rw [List.map_map]
  refine List.map_congr_left fun e _ => ?_
  show (if e.1 = u then _ else e : Int × Addr × List Nat).1 = e.1
  split <;> rfl
theorem bump_adds (L : TL3) (u : Int) (k : Nat) : (bumpT L u k).map (fun e => e.2.1) = L.map fun e => e.2.1 := by
  unfold bumpT
  rw [List.map_map]
  refine List.map_congr_left fun e _ => ?_
  show (if e.1 = u then _ else e : Int × Addr × List Nat).2.1 = e.2.1
  split <;> rfl
theorem bump_kv (L : TL3) (u : Int) (k : Nat) : kvL (bumpT L u k) = kvL L := by
  unfold kvL bumpT
  rw [List.map_map]
  refine List.map_congr_left fun e _ => ?_
  dsimp only [Function.comp]
  split <;> rfl
theorem nodup_adr {L : TL3} (nd : (L.map fun e => e.2.1).Nodup) {e f : Int × Addr × List Nat} (he : e ∈ L) (hf : f ∈ L) (h : e.2.1 = f.2.1) : e = f := by
  induction L with
  | nil => cases he
  | cons x L ih =>
    rw [List.map_cons, List.nodup_cons] at nd
    rcases List.mem_cons.mp he with z | z <;> rcases List.mem_cons.mp hf with y | y
    · rw [z, y]
    · exact absurd (List.mem_map.mpr ⟨f, y, by rw [← h, z]⟩) nd.1
    · exact absurd (List.mem_map.mpr ⟨e, z, by rw [h, y]⟩) nd.1
    · exact ih nd.2 z y
theorem nodup_key {L : TL3} (nd : (L.map fun e => e.1).Nodup) {e f : Int × Addr × List Nat} (he : e ∈ L) (hf : f ∈ L) (h : e.1 = f.1) : e = f := by
  induction L with
  | nil => cases he
  | cons x L ih =>
    rw [List.map_cons, List.nodup_cons] at nd
    rcases List.mem_cons.mp he with z | z <;> rcases List.mem_cons.mp hf with y | y
    · rw [z, y]
    · exact absurd (List.mem_map.mpr ⟨f, y, by rw [← h, z]⟩) nd.1
    · exact absurd (List.mem_map.mpr ⟨e, z, by rw [h, y]⟩) nd.1
    · exact ih nd.2 z y
theorem TsAt.bump {H : Hp} {da : Addr} {L : TL3} (h : TsAt H da L) {e : Int × Addr × List Nat} (he : e ∈ L) (k : Nat) : TsAt (upd H e.2.1 (.lst (nV (e.2.2 ++ [k])))) da (bumpT L e.1 k) := by
  have nda : da ≠ e.2.1 := ne_of h.d (h.ls e he) (by intro z; cases z)
  refine ⟨by rw [upd_ne nda, bump_kv]; exact h.d, fun f hf => ?_, by rw [bump_adds]; exact h.nd, by rw [bump_keys]; exact h.nk⟩
  obtain ⟨g, hg, rfl⟩ := List.mem_map.mp hf
  by_cases z : g.1 = e.1
  · obtain rfl := nodup_key h.nk hg he z
    rw [if_pos rfl]
    exact upd_same
  · rw [if_neg z, upd_ne (fun y => z (by rw [nodup_adr h.nd hg he y]))]
    exact h.ls g hg
theorem TsAt.more {H : Hp} {da q : Addr} {L : TL3} {u : Int} (h : TsAt H da L) (hq : H q = some (.lst [])) (fr : ∀ e ∈ L, e.2.1 ≠ q) (hu : u ∉ L.map fun e => e.1) : TsAt (upd H da (.dK (kvL (L ++ [(u, q, [])])))) da (L ++ [(u, q, [])]) := by
  have nq : q ≠ da := ne_of hq h.d (by intro z; cases z)
  refine ⟨upd_same, fun f hf => ?_, ?_, ?_⟩
  · have nf : f.2.1 ≠ da := by
      rcases List.mem_append.mp hf with z | z
      · exact ne_of (h.ls f z) h.d (by intro z; cases z)
      · rw [List.mem_singleton.mp z]
        exact nq
    rw [upd_ne nf]
    rcases List.mem_append.mp hf with z | z
    · exact h.ls f z
    · rw [List.mem_singleton.mp z]
      exact hq
  · rw [List.map_append, List.nodup_append]
    refine ⟨h.nd, by simp, fun x hx y hy => ?_⟩
    obtain ⟨e, he, rfl⟩ := List.mem_map.mp hx
    rw [List.mem_singleton.mp hy]
    exact fr e he
  · rw [List.map_append, List.nodup_append]
    refine ⟨h.nk, by simp, fun x hx y hy => ?_⟩
    rw [List.mem_singleton.mp hy]
    intro z
    have z : x = u := z
    exact hu (z ▸ hx)
/-! what stands there, told by the waves' times -/
def plAt (tss : List (List Int)) (k j : Nat) (t : Int) : List Nat := ((List.range k).filter fun i => decide (t ∈ tss.getD i [])) ++ (if t ∈ (tss.getD k []).take j then [k] else [])
structure SemT (L : TL3) (tss : List (List Int)) (k j : Nat) : Prop where
  pl : ∀ e ∈ L, e.2.2 = plAt tss k j e.1
  ks : ∀ t, t ∈ L.map (fun e => e.1) ↔ (∃ i, i < k ∧ t ∈ tss.getD i []) ∨ t ∈ (tss.getD k []).take j
theorem SemT.none {tss : List (List Int)} : SemT [] tss 0 0 := ⟨(fun e h => by cases h), fun t => ⟨(fun h => by cases h), fun h => by
  rcases h with ⟨i, h, _⟩ | h
  · exact absurd h (Nat.not_lt_zero _)
  · rw [List.take_zero] at h
    cases h⟩⟩
theorem SemT.next {L : TL3} {tss : List (List Int)} {k : Nat} (h : SemT L tss k (tss.getD k []).length) : SemT L tss (k + 1) 0 := by
  refine ⟨fun e he => ?_, fun t => ?_⟩
  · rw [h.pl e he]
    unfold plAt
    rw [List.take_length, List.take_zero, List.range_succ, List.filter_append, if_neg (fun z : e.1 ∈ ([] : List Int) => by cases z), List.append_nil]
    congr 1
    rw [List.filter_cons, List.filter_nil]
    by_cases z : e.1 ∈ tss.getD k []
    · rw [if_pos z, if_pos (decide_eq_true z)]
    · rw [if_neg z, if_neg (fun y => z (of_decide_eq_true y))]
  · rw [h.ks t, List.take_length, List.take_zero]
    constructor
    · rintro (⟨i, h1, h2⟩ | h1)
      · exact .inl ⟨i, by omega, h2⟩
      · exact .inl ⟨k, by omega, h1⟩
    · rintro (⟨i, h1, h2⟩ | h1)
      · by_cases z : i = k
        · exact .inr (z ▸ h2)
        · exact .inl ⟨i, by omega, h2⟩
      · cases h1
theorem plAt_ne {tss : List (List Int)} {k j : Nat} {t u : Int} (hu : (tss.getD k [])[j]? = some u) (h : t ≠ u) : plAt tss k (j + 1) t = plAt tss k j t := by
  unfold plAt
  rw [List.take_add_one, hu, Option.toList_some]
  congr 1
  have : (t ∈ (tss.getD k []).take j ++ [u]) ↔ t ∈ (tss.getD k []).take j := by rw [List.mem_append, List.mem_singleton]; simp [h]
  by_cases z : t ∈ (tss.getD k []).take j
  · rw [if_pos z, if_pos (this.mpr z)]
  · rw [if_neg z, if_neg (fun y => z (this.mp y))]
theorem plAt_eq {tss : List (List Int)} {k j : Nat} {u : Int} (rise : (tss.getD k []).Pairwise (· < ·)) (hu : (tss.getD k [])[j]? = some u) : plAt tss k (j + 1) u = plAt tss k j u ++ [k] := by
  unfold plAt
  have no : u ∉ (tss.getD k []).take j := fun z => by
    obtain ⟨i, hi⟩ := List.getElem?_of_mem z
    have hij : i < j := by
      have := (List.getElem?_eq_some_iff.mp hi).1
      rw [List.length_take] at this
      omega
    rw [List.getElem?_take_of_lt hij] at hi
    obtain ⟨a1, a2⟩ := List.getElem?_eq_some_iff.mp hi
    obtain ⟨b1, b2⟩ := List.getElem?_eq_some_iff.mp hu
    have := List.pairwise_iff_getElem.mp rise i j a1 b1 hij
    omega
  rw [List.take_add_one, hu, Option.toList_some, if_neg no, List.append_nil, if_pos (show u ∈ _ ++ [u] from List.mem_append_right _ (List.mem_singleton.mpr rfl))]
theorem SemT.step {L : TL3} {tss : List (List Int)} {k j : Nat} {u : Int} (h : SemT L tss k j) (rise : (tss.getD k []).Pairwise (· < ·)) (hu : (tss.getD k [])[j]? = some u) (mem : u ∈ L.map fun e => e.1) : SemT (bumpT L u k) tss k (j + 1) := by
  refine ⟨fun e he => ?_, fun t => ?_⟩
  · obtain ⟨g, hg, rfl⟩ := List.mem_map.mp he
    by_cases z : g.1 = u
    · rw [if_pos z]
      show g.2.2 ++ [k] = plAt tss k (j + 1) g.1
      rw [h.pl g hg, z, plAt_eq rise hu]
    · rw [if_neg z, h.pl g hg, plAt_ne hu z]
  · rw [bump_keys, h.ks t, List.take_add_one, hu]
    show _ ↔ _ ∨ t ∈ (tss.getD k []).take j ++ [u]
    rw [List.mem_append, List.mem_singleton]
    constructor
    · rintro (z | z)
      · exact .inl z
      · exact .inr (.inl z)
    · rintro (z | z | z)
      · exact .inl z
      · exact .inr z
      · subst z
        exact (h.ks t).mp mem
/-- a time that isn't there yet, laid with no place -/
theorem SemT.lay {L : TL3} {tss : List (List Int)} {k j : Nat} {u : Int} {q : Addr} (h : SemT L tss k j) (rise : (tss.getD k []).Pairwise (· < ·)) (hu : (tss.getD k [])[j]? = some u) (no : u ∉ L.map fun e => e.1) : SemT (bumpT (L ++ [(u, q, [])]) u k) tss k (j + 1) := by
  have nn := fun z => no ((h.ks u).mpr z)
  have e0 : plAt tss k j u = [] := by
    unfold plAt
    rw [if_neg (fun z => nn (.inr z)), List.append_nil, List.filter_eq_nil_iff]
    intro i hi z
    exact nn (.inl ⟨i, List.mem_range.mp hi, of_decide_eq_true z⟩)
  refine ⟨fun e he => ?_, fun t => ?_⟩
  · obtain ⟨g, hg, rfl⟩ := List.mem_map.mp he
    rcases List.mem_append.mp hg with y | y
    · have z : g.1 ≠ u := fun z => no (z ▸ List.mem_map.mpr ⟨g, y, rfl⟩)
      rw [if_neg z, h.pl g y, plAt_ne hu z]
    · rw [List.mem_singleton.mp y, if_pos rfl]
      show [] ++ [k] = plAt tss k (j + 1) u
      rw [plAt_eq rise hu, e0]
  · rw [bump_keys, List.map_append, List.mem_append, h.ks t, List.take_add_one, hu]
    show _ ∨ t ∈ [u] ↔ _ ∨ t ∈ (tss.getD k []).take j ++ [u]
    rw [List.mem_append]
    constructor
    · rintro ((z | z) | z)
      · exact .inl z
      · exact .inr (.inl z)
      · exact .inr (.inr z)
    · rintro (z | z | z)
      · exact .inl (.inl z)
      · exact .inl (.inr z)
      · exact .inr z
def plcs (tss : List (List Int)) (t : Int) : List Nat := (List.range tss.length).filter fun i => decide (t ∈ tss.getD i [])
theorem plAt_end (tss : List (List Int)) (t : Int) : plAt tss tss.length 0 t = plcs tss t := by
  unfold plAt plcs
  rw [List.take_zero, if_neg (fun z => by cases z), List.append_nil]
theorem plAt_len (tss : List (List Int)) (k j : Nat) (t : Int) : (plAt tss k j t).length ≤ k + 1 := by
  unfold plAt
  rw [List.length_append]
  have h1 : ((List.range k).filter fun i => decide (t ∈ tss.getD i [])).length ≤ k := Nat.le_trans (List.length_filter_le ..) (by rw [List.length_range]; exact Nat.le_refl _)
  have h2 : (if t ∈ (tss.getD k []).take j then [k] else []).length ≤ 1 := by
    split
    · exact Nat.le_refl 1
    · exact Nat.zero_le _
  omega
theorem bump_len (L : TL3) (u : Int) (k : Nat) : (bumpT L u k).length = L.length := List.length_map ..
theorem bump_fresh {H : Hp} {L : TL3} {u : Int} {k : Nat} (h : ∀ e ∈ L, H e.2.1 = none) : ∀ e ∈ bumpT L u k, H e.2.1 = none := fun e he => by
  have h1 : e.2.1 ∈ (bumpT L u k).map fun e => e.2.1 := List.mem_map.mpr ⟨e, he, rfl⟩
  rw [bump_adds] at h1
  obtain ⟨f, hf, e1⟩ := List.mem_map.mp h1
  rw [← e1]
  exact h f hf
theorem kvL_snoc (L : TL3) (u : Int) (q : Addr) (h : valV (kvL L) (Sum.inl u) = none) : putK (kvL L) (Sum.inl u) (V.ref q) = kvL (L ++ [(u, q, [])]) := by
  rw [putK_new _ h]
  unfold kvL
  rw [List.map_append]
  rfl
theorem sameU {H H' : Hp} {p : Addr} {o : HO} (s : Same H H') (n : H p = none) : Same H (upd H' p o) := fun b x e => by
  rw [upd_ne (ne_of_none e n)]
  exact s b x e
theorem none_of_same {H H' : Hp} {p : Addr} (s : Same H H') (n : H' p = none) : H p = none := by
  cases z : H p with
  | none => rfl
  | some o => rw [s _ _ z] at n; cases n
theorem TsAt.same {H H' : Hp} {da : Addr} {L : TL3} (h : TsAt H da L) (s : Same H H') : TsAt H' da L := ⟨s _ _ h.d, fun e he => s _ _ (h.ls e he), h.nd, h.nk⟩
/-- what turns_of hands out: a tuple for each time, rising, with the list of the places that change -/
structure TurnsAt (H0 H : Hp) (xs : List V) (ms : List Int) (tss : List (List Int)) : Prop where
  len : xs.length = ms.length
  at_ : ∀ (i : Nat) (v : V) (t : Int), xs[i]? = some v → ms[i]? = some t → ∃ a p, v = .ref a ∧ H a = some (.tup [.int t, .ref p]) ∧ H p = some (.lst (nV (plcs tss t))) ∧ H0 p = none
  rise : ms.Pairwise (· < ·)
  mem : ∀ t, t ∈ ms ↔ ∃ i, i < tss.length ∧ t ∈ tss.getD i []
  few : ms.length ≤ 10000 * tss.length
def WvAll (H : Hp) (vs : List V) (ws : List (Int × List Int)) : Prop := TkAll H vs (ws.map wvD)
def sp_turns_of (K : PySem.W.Frag) : Sp := fun vs H Q _ => ∃ (wl : Addr) (xs : List V) (ws : List (Int × List Int)), vs = [.ref wl] ∧ H wl = some (.lst xs) ∧ TkAll H xs (ws.map wvD) ∧ ws.length ≤ 100 ∧ (∀ x ∈ ws, x.2.Pairwise (· < ·) ∧ x.2.length ≤ 10000) ∧
  ∀ r H' ys ms, Same H H' → H r = none → H' r = some (.lst ys) → TurnsAt H H' ys ms (ws.map (·.2)) → Q (.ref r) H'
theorem ok_turns_of (T : Tx K mg) : FnOk P w K mg base CX0 1 T.f_turns_of T.fd_turns_of ["waves"] (sp_turns_of K) := by
  refine T.F_turns_of.ok sc_turns_of (fun vs H Q E h => ?_) (fun cdv A outer s H vs Q E hr h => ?_)
  · obtain ⟨wl, xs, ws, rfl, _⟩ := h
    rfl
  · obtain ⟨wl, xs, ws, rfl, hw, tw, l100, okw, q⟩ := h
    refine ⟨_, (pss_cons (ps_set (i := 1) sc_turns_of.nd rfl (by first | exact .inl rfl | exact .inr rfl) pe_dnewK) (pss_cons (ps_for PassesOwn.never rfl (pi_enum (by rfl) T.m_enumerate (pa_cons (pv 0) pa_nil)) (pg_tup rfl (pgs_cons (pg_name (i := 2) sc_turns_of.nd rfl (by first | exact .inl rfl | exact .inr rfl)) (pgs_cons (pg_tup rfl (pgs_cons (pg_name (i := 3) sc_turns_of.nd rfl (by first | exact .inl rfl | exact .inr rfl)) (pgs_cons (pg_name (i := 4) sc_turns_of.nd rfl (by first | exact .inl rfl | exact .inr rfl)) pgs_nil))) pgs_nil))) (pss_one (ps_for PassesOwn.never rfl (pi_tup (pv 4)) (pg_name (i := 5) sc_turns_of.nd rfl (by first | exact .inl rfl | exact .inr rfl)) (pss_one (ps_expr (pe_bm PySem.F.plainAttrs_list PySem.F.slot_list_append PySem.F.type_list_append mt_append (pe_dsetd (pv 1) (pv 5) (pe_lst pa_nil) ⟨rfl, rfl, rfl, rfl⟩) (pa_cons (pv 2) pa_nil))))))) (pss_one (ps_ret (pe_lc (own := [("time", 5)]) (by rfl) sc_turns_of.nd (pi_list (pe_callB (SrtDi.cr_sortedDi rfl) (by rfl) T.m_sorted (by decide +kernel) (pa_cons (pv 1) pa_nil))) (blkOk_by (own := [("time", 5)]) (N := ["waves", "places_at", "place", "first", "times", "time"]) (sc := defScope s_turns_of) (by decide +kernel)) (fun _ _ _ _ _ => (pg_name (i := 5) sc_turns_of.nd rfl (by first | exact .inl rfl | exact .inr rfl))) (fun _ _ _ _ _ => pts_nil) (fun _ _ _ _ _ => (pe_tup (pa_cons (pv 5) (pa_cons (pe_dget (hu_of hr) (pv 1) (pv 5) (fun _ _ => rfl)) pa_nil))))))))), ?_⟩
    refine fun da nda => ?_
    have s1 := same_upd (o := HO.dK []) nda
    have h1 : upd H da (HO.dK []) da = some (HO.dK []) := upd_same
    generalize upd H da (HO.dK []) = H1 at s1 h1 ⊢
    refine ⟨.ref wl, rfl, wl, xs, rfl, SqL.of (s1 _ _ hw), for_enumL (K := K) (a := wl) (xs := xs) (fun k σ H' => ∃ y2 y3 y4 y5 L, σ = [some (.ref wl), some (.ref da), y2, y3, y4, y5] ∧ Same H H' ∧ TsAt H' da L ∧ (∀ e ∈ L, H e.2.1 = none) ∧ SemT L (ws.map (·.2)) k 0 ∧ L.length ≤ 10000 * k)
      ⟨_, _, _, _, [], rfl, s1, ⟨h1, (fun e h => by cases h), .nil, .nil⟩, (fun e h => by cases h), .none, Nat.zero_le _⟩ (fun k σ H' _ ⟨_, _, _, _, _, _, z, _⟩ => SqL.of (z _ _ hw)) ?_ ?_⟩
    · rintro k v T0 σ H2 hv nT ⟨y2, y3, y4, y5, L, rfl, s2, tl, fr, sm, ll⟩
      obtain ⟨x, hx, tx⟩ := tw.at hv
      obtain ⟨wa, t, rfl, ha, ht⟩ := tx.wv_inv
      have s3 := same_upd (o := HO.tup [.int (k : Nat), .ref wa]) nT
      have h3 : upd H2 T0 (HO.tup [.int (k : Nat), .ref wa]) T0 = some (.tup [.int (k : Nat), .ref wa]) := upd_same
      have tl3 := tl.same s3
      generalize upd H2 T0 (HO.tup [.int (k : Nat), .ref wa]) = H3 at s3 h3 tl3 ⊢
      have s03 := s2.trans s3
      have hk : k < ws.length := (List.getElem?_eq_some_iff.mp hx).1
      have ek : (ws.map (·.2)).getD k [] = x.2 := by
        rw [List.getD_eq_getElem?_getD, List.getElem?_map, hx]
        rfl
      obtain ⟨rise, lx⟩ := okw x (List.mem_of_getElem? hx)
      refine ⟨T0, _, rfl, SqT.of h3, rfl, _, _, rfl, _, _, rfl, wa, _, rfl, SqT.of (s03 _ _ ha), rfl, _, _, rfl, _, _, rfl, rfl, rfl, ?_⟩
      refine ⟨.ref t, rfl, t, rfl, ⟨_, SqT.of (s03 _ _ ht)⟩, for_tup (K := K) (a := t) (xs := x.2.map V.int) (fun j σ H' => ∃ y5 L, σ = [some (.ref wl), some (.ref da), some (.int (k : Nat)), some (.int x.1), some (.ref t), y5] ∧ Same H H' ∧ TsAt H' da L ∧ (∀ e ∈ L, H e.2.1 = none) ∧ SemT L (ws.map (·.2)) k j ∧ L.length ≤ 10000 * k + j)
        ⟨_, L, rfl, s03, tl3, fr, sm, ll⟩ (fun j σ H' _ ⟨_, _, _, z, _⟩ => SqT.of (z _ _ ht)) ?_ ?_⟩
      · rintro j v σ H4 hv ⟨y5, L, rfl, s4, tl4, fr, sm, ll⟩
        obtain ⟨u, hu, rfl⟩ : ∃ u, x.2[j]? = some u ∧ v = V.int u := by
          rw [List.getElem?_map] at hv
          obtain ⟨u, hu, e⟩ := Option.map_eq_some_iff.mp hv
          exact ⟨u, hu, e.symm⟩
        have hj := (List.getElem?_eq_some_iff.mp hu).1
        refine ⟨.ref da, rfl, da, rfl, .inl ⟨_, .inl tl4.d⟩, .int u, rfl, Nat.zero_le _, fun q nq => ?_⟩
        have s5 := same_upd (o := HO.lst []) nq
        have h5 : upd H4 q (HO.lst []) q = some (.lst []) := upd_same
        have tl5 := tl4.same s5
        have ndq : ∀ e ∈ L, e.2.1 ≠ q := fun e he => ne_of_none (tl4.ls e he) nq
        have nq0 := none_of_same s4 nq
        generalize upd H4 q (HO.lst []) = H5 at s5 h5 tl5 ⊢
        have s05 := s4.trans s5
        refine ⟨kvL L, Sum.inl u, tl5.d, rfl, ?_, fun v hv => ?_, fun hn => ?_⟩
        · unfold kvL
          rw [List.length_map]
          exact Nat.lt_of_le_of_lt (show L.length ≤ 1010000 by omega) (by decide)
        · rcases kvL_at u L with ⟨e, he, rfl, e2⟩ | ⟨_, e2⟩
          · rw [e2] at hv
            cases Option.some.inj hv
            refine ⟨.inl ⟨rfl, _, SqL.of (tl5.ls e he)⟩, .int (k : Nat), rfl, e.2.1, _, _, rfl, rfl, tl5.ls e he, ?_, ?_⟩
            · rw [nV_len, sm.pl e he]
              exact Nat.lt_of_le_of_lt (Nat.le_trans (plAt_len ..) (show k + 1 ≤ 101 by omega)) (by decide)
            have tb := tl5.bump he k
            rw [nV_app] at tb
            refine ⟨_, bumpT L e.1 k, rfl, sameU s05 (fr e he), tb, bump_fresh fr, ?_, by rw [bump_len]; omega⟩
            exact sm.step (by rw [ek]; exact rise) (by rw [ek]; exact hu) (List.mem_map.mpr ⟨e, he, rfl⟩)
          · rw [e2] at hv
            cases hv
        · have no : u ∉ L.map fun e => e.1 := by
            rcases kvL_at u L with ⟨e, he, e1, e2⟩ | ⟨z, _⟩
            · rw [hn] at e2
              cases e2
            · exact z
          rw [kvL_snoc L u q hn]
          have tm := tl5.more h5 ndq no
          have nqa : q ≠ da := ne_of h5 tl5.d (by intro z; cases z)
          have h6 : upd H5 da (HO.dK (kvL (L ++ [(u, q, [])]))) q = some (.lst []) := by rw [upd_ne nqa]; exact h5
          have s06 : Same H (upd H5 da (HO.dK (kvL (L ++ [(u, q, [])])))) := sameU s05 nda
          generalize upd H5 da (HO.dK (kvL (L ++ [(u, q, [])]))) = H6 at tm h6 s06 ⊢
          refine ⟨.inl ⟨rfl, _, SqL.of h6⟩, .int (k : Nat), rfl, q, _, _, rfl, rfl, h6, by decide, ?_⟩
          have hm : (u, q, []) ∈ L ++ [(u, q, ([] : List Nat))] := List.mem_append_right _ (List.mem_singleton.mpr rfl)
          have tb := tm.bump hm k
          refine ⟨_, bumpT (L ++ [(u, q, [])]) u k, rfl, sameU s06 nq0, tb, bump_fresh fun e he => ?_, ?_, ?_⟩
          · rcases List.mem_append.mp he with z | z
            · exact fr e z
            · rw [List.mem_singleton.mp z]
              exact nq0
          · exact sm.lay (by rw [ek]; exact rise) (by rw [ek]; exact hu) no
          · rw [bump_len, List.length_append]
            show L.length + 1 ≤ _
            omega
      · rintro σ H4 ⟨y5, L, rfl, s4, tl4, fr, sm, ll⟩
        rw [List.length_map] at sm ll
        refine ⟨_, _, _, _, L, rfl, s4, tl4, fr, ?_, by omega⟩
        rw [← ek] at sm
        exact sm.next
    · rintro σ H2 ⟨y2, y3, y4, y5, L, rfl, s2, tl, fr, sm, ll⟩
      have lx : xs.length = ws.length := by rw [tw.length, List.length_map]
      rw [lx] at sm ll
      refine ⟨.ref da, rfl, da, kvL L, L.map (·.1), rfl, tl.d, ?_, fun ys p pm pw np => ?_⟩
      · unfold kvL
        rw [List.map_map, List.map_map]
        rfl
      have s3 := same_upd (o := HO.lst (ys.map V.int)) np
      have h3 : upd H2 p (HO.lst (ys.map V.int)) p = some (.lst (ys.map V.int)) := upd_same
      have tl3 := tl.same s3
      generalize upd H2 p (HO.lst (ys.map V.int)) = H3 at s3 h3 tl3 ⊢
      have s03 := s2.trans s3
      have rise : ys.Pairwise (· < ·) := (pw.and ((pm.nodup_iff).mpr tl.nk)).imp fun {x y} h => by
        obtain ⟨h1, h2⟩ := h
        omega
      refine ⟨p, rfl, ⟨_, SqL.of h3⟩, fun D nD => ?_⟩
      have nD0 := none_of_same s03 nD
      refine lc_list (K := K) (a := p) (xs := ys.map V.int) (fun i H' => Same H3 H' ∧ ∃ vs, H' D = some (.lst vs) ∧ vs.length = i ∧ ∀ (i' : Nat) (v : V) (t : Int), vs[i']? = some v → ys[i']? = some t → ∃ a p, v = .ref a ∧ H' a = some (.tup [.int t, .ref p]) ∧ H3 p = some (.lst (nV (plcs (ws.map (·.2)) t))) ∧ H p = none)
        ⟨same_upd nD, [], upd_same, rfl, fun i' v t h => by cases h⟩ (fun i H' _ z => SqL.of (z.1 _ _ h3)) ?_ ?_
      · rintro i v H4 hv ⟨s4, vs, hD, lv, hall⟩
        obtain ⟨u, hu, rfl⟩ : ∃ u, ys[i]? = some u ∧ v = V.int u := by
          rw [List.getElem?_map] at hv
          obtain ⟨u, hu, e⟩ := Option.map_eq_some_iff.mp hv
          exact ⟨u, hu, e.symm⟩
        have hmem : u ∈ L.map (fun e => e.1) := pm.mem_iff.mp (List.mem_of_getElem? hu)
        obtain ⟨e, he, rfl, e2⟩ := (kvL_at u L).resolve_right fun z => z.1 hmem
        have tl4 := tl3.same s4
        refine ⟨rfl, .int e.1, rfl, .ref da, rfl, .int e.1, rfl, da, .ref e.2.1, rfl, (by rw [← e2]; exact DGet.k (k := Sum.inl e.1) tl4.d), sl2, fun a na => ?_⟩
        have s5 := same_upd (o := HO.tup [V.int e.1, .ref e.2.1]) na
        have h5 : upd H4 a (HO.tup [V.int e.1, .ref e.2.1]) a = some (.tup [V.int e.1, .ref e.2.1]) := upd_same
        generalize upd H4 a (HO.tup [V.int e.1, .ref e.2.1]) = H5 at s5 h5 ⊢
        have hi : i < ys.length := (List.getElem?_eq_some_iff.mp hu).1
        refine ⟨vs, s5 _ _ hD, ?_, sameU (s4.trans s5) nD, vs ++ [.ref a], upd_same, by rw [List.length_append, lv]; rfl, fun i' v t h1 h2 => ?_⟩
        · have := pm.length_eq
          rw [List.length_map] at this
          exact Nat.lt_of_le_of_lt (show vs.length ≤ 1010000 by omega) (by decide)
        · by_cases z : i' < vs.length
          · rw [List.getElem?_append_left z] at h1
            obtain ⟨a', p', q1, q2, q3, q4⟩ := hall i' v t h1 h2
            have nb : a' ≠ D := ne_of q2 hD (by intro z; cases z)
            exact ⟨a', p', q1, by rw [upd_ne nb]; exact s5 _ _ q2, q3, q4⟩
          · rw [List.getElem?_append_right (by omega)] at h1
            have ei : i' = vs.length := by
              have := (List.getElem?_eq_some_iff.mp h1).1
              simp at this
              omega
            subst ei
            rw [Nat.sub_self] at h1
            cases Option.some.inj h1
            rw [lv, hu] at h2
            cases Option.some.inj h2
            have nb : a ≠ D := ne_of h5 (s5 _ _ hD) (by intro z; cases z)
            refine ⟨a, e.2.1, rfl, by rw [upd_ne nb]; exact h5, ?_, fr e he⟩
            rw [tl3.ls e he, sm.pl e he]
            have := plAt_end (ws.map (·.2)) e.1
            rw [List.length_map] at this
            rw [this]
      · rintro H4 ⟨s4, vs, hD, lv, hall⟩
        rw [List.length_map] at lv
        refine q D H4 vs ys (s03.trans s4) nD0 hD ⟨lv, fun i v t h1 h2 => ?_, rise, fun t => ?_, ?_⟩
        · obtain ⟨a, p', q1, q2, q3, q4⟩ := hall i v t h1 h2
          exact ⟨a, p', q1, q2, s4 _ _ q3, q4⟩
        · rw [pm.mem_iff]
          refine (sm.ks t).trans ⟨fun h => ?_, fun ⟨i, h1, h2⟩ => .inl ⟨i, by rw [List.length_map] at h1; exact h1, h2⟩⟩
          rcases h with ⟨i, h1, h2⟩ | h
          · exact ⟨i, by rw [List.length_map]; exact h1, h2⟩
          · rw [List.take_zero] at h
            cases h
        · have := pm.length_eq
          rw [List.length_map] at this
          rw [List.length_map]
          omega

end
end Gk

set_option Elab.async false
set_option linter.all false
set_option maxRecDepth 100000
set_option maxHeartbeats 1000000
set_option pp.maxSteps 1500
set_option pp.deepTerms false
namespace Gk
open PySem PySem.Spec PyProof.Rows L2
section
variable {P : Program} {w : World} {K : PySem.W.Frag} {mg : Str → Option Value} {base : Heap}
theorem ok_table_worth (T : Tx K mg) : FnOk P w K mg base CX0 1 T.f_table_worth T.fd_table_worth ["table", "worths"] (spGate K) := by
  refine T.F_table_worth.ok sc_table_worth (fun vs H Q E h => ?_) (fun cdv A outer s H vs Q E hr h => ?_)
  · obtain ⟨bs, la, ws, rfl, _⟩ := h
    rfl
  · obtain ⟨bs, la, ws, rfl, hS, hw, hb, h3, q⟩ := h
    obtain ⟨b, p0, p1, p2, p3, p4⟩ := gate_read hw hb h3
    refine ⟨_, (pss_cons (ps_set (i := 2) sc_table_worth.nd rfl (by first | exact .inl rfl | exact .inr rfl) pe_int) (pss_cons (ps_for PassesOwn.never rfl (pi_list (pv 1)) (pg_name (i := 3) sc_table_worth.nd rfl (by first | exact .inl rfl | exact .inr rfl)) (pss_one (ps_set (i := 2) sc_table_worth.nd rfl (by first | exact .inl rfl | exact .inr rfl) (pe_op op_add (pe_op op_mul pe_int (pv 2)) (pv 3))))) (pss_one (ps_ret (pe_callTy call_int_str (by rfl) T.m_int (by decide +kernel) (pa_cons (pe_item_str (pv 0) (pv 2) (fun _ _ => rfl)) pa_nil)))))), ?_⟩
    refine ⟨.ref la, rfl, la, rfl, ⟨_, hS⟩, for_list (K := K) (a := la) (xs := ws.map V.int) (fun i σ H' => ∃ y, σ = [some (.str (tabOf bs)), some (.ref la), some (.int (plc (ws.take i))), y] ∧ H' = H) ⟨none, rfl, rfl⟩ (fun i σ H' _ ⟨_, _, e⟩ => by rw [e]; exact hS) ?_ ?_⟩
    · rintro i x σ H' hx ⟨y, rfl, rfl⟩
      obtain ⟨u, hu, rfl⟩ : ∃ u, ws[i]? = some u ∧ x = V.int u := by
        rw [List.getElem?_map] at hx
        cases hz : ws[i]? with
        | none => rw [hz] at hx; cases hx
        | some u => rw [hz] at hx; exact ⟨u, rfl, (Option.some.inj hx).symm⟩
      refine ⟨.int (plc (ws.take i)), rfl, 2, _, rfl, rfl, .inl ⟨by decide, by decide⟩, .int u, rfl, _, _, rfl, rfl, some (.int u), ?_, rfl⟩
      rw [plc_take hu]
      rfl
    · rintro σ H' ⟨y, rfl, rfl⟩
      rw [List.length_map, List.take_length]
      refine ⟨.str (tabOf bs), rfl, .int (plc ws), rfl, _, _, _, rfl, rfl, p0, p1, p2, p3, _, _, rfl, int_sign b, (show 1 ≤ 640 by decide), ?_⟩
      rw [← p4]
      exact q

/-! ### a gate's wave -/
theorem vint_at {l : List Int} {i : Nat} {x : V} (h : (l.map V.int)[i]? = some x) : ∃ b, l[i]? = some b ∧ x = V.int b := by
  rw [List.getElem?_map] at h
  obtain ⟨b, hb, e⟩ := Option.map_eq_some_iff.mp h
  exact ⟨b, hb, e.symm⟩
theorem ixN_k {n k : Nat} (h : k < n) : ixN n ((k : Nat) : Int) = some k := by
  unfold ixN
  rw [if_pos (by omega), if_pos (by omega)]
  rfl
def flipsM (W : List Int) (S : List Nat) : List Int := S.foldl (fun W k => W.set k (1 - W.getD k 0)) W
theorem flips_len : ∀ (S : List Nat) (W : List Int), (flipsM W S).length = W.length
  | [], _ => rfl
  | k :: S, W => by
    show (flipsM (W.set k _) S).length = _
    rw [flips_len S, List.length_set]
theorem flips_snoc (W : List Int) (S : List Nat) (k : Nat) : flipsM W (S ++ [k]) = (flipsM W S).set k (1 - (flipsM W S).getD k 0) := by
  unfold flipsM
  rw [List.foldl_append]
  rfl
theorem flips_at : ∀ (S : List Nat) (W : List Int), S.Nodup → ∀ k, k < W.length → (flipsM W S).getD k 0 = if k ∈ S then 1 - W.getD k 0 else W.getD k 0
  | [], W, _, k, hk => by rw [if_neg (fun z => by cases z)]; rfl
  | s :: S, W, nd, k, hk => by
    obtain ⟨n1, n2⟩ := List.nodup_cons.mp nd
    show (flipsM (W.set s (1 - W.getD s 0)) S).getD k 0 = _
    rw [flips_at S _ n2 k (by rw [List.length_set]; exact hk)]
    by_cases z : k = s
    · subst z
      rw [if_neg n1, if_pos List.mem_cons_self, List.getD_eq_getElem?_getD, List.getElem?_set_self hk]
      rfl
    · have e1 : (W.set s (1 - W.getD s 0)).getD k 0 = W.getD k 0 := by
        rw [List.getD_eq_getElem?_getD, List.getElem?_set_ne (fun y => z y.symm), ← List.getD_eq_getElem?_getD]
      rw [e1]
      by_cases y : k ∈ S
      · rw [if_pos y, if_pos (List.mem_cons_of_mem _ y)]
      · rw [if_neg y, if_neg (fun x => (List.mem_cons.mp x).elim z y)]
theorem plcs_nodup (tss : List (List Int)) (t : Int) : (plcs tss t).Nodup := List.nodup_range.filter _
theorem plcs_mem {tss : List (List Int)} {t : Int} {k : Nat} : k ∈ plcs tss t ↔ k < tss.length ∧ t ∈ tss.getD k [] := by
  unfold plcs
  rw [List.mem_filter, List.mem_range, decide_eq_true_iff]
/-- the moment of the turn ahead -/
def curM (ms : List Int) (i : Nat) : Int := if i = 0 then -1 else ms.getD (i - 1) 0
theorem flips_turn {ws : List (Int × List Int)} {ms : List Int} {i : Nat} {t : Int} (okw : ∀ x ∈ ws, Wv x (wv x)) (rise : ms.Pairwise (· < ·)) (mem : ∀ t, t ∈ ms ↔ ∃ i, i < (ws.map (·.2)).length ∧ t ∈ (ws.map (·.2)).getD i []) (ht : ms[i]? = some t) :
    flipsM (ws.map fun x => wv x (curM ms i)) (plcs (ws.map (·.2)) t) = ws.map fun x => wv x t := by
  have gd : ∀ {W : List Int} {k : Nat} (h : k < W.length), W[k]? = some (W.getD k 0) := fun {W k} h => by rw [List.getD_eq_getElem?_getD, List.getElem?_eq_getElem h]; rfl
  refine List.ext_getElem? fun k => ?_
  by_cases hk : k < ws.length
  · have l1 : k < (flipsM (ws.map fun x => wv x (curM ms i)) (plcs (ws.map (·.2)) t)).length := by rw [flips_len, List.length_map]; exact hk
    rw [gd l1, flips_at _ _ (plcs_nodup ..) k (by rw [List.length_map]; exact hk)]
    have hx : ws[k]? = some ws[k] := List.getElem?_eq_getElem hk
    have e1 : (ws.map fun x => wv x (curM ms i)).getD k 0 = wv ws[k] (curM ms i) := by rw [List.getD_eq_getElem?_getD, List.getElem?_map, hx]; rfl
    have e2 : (ws.map (·.2)).getD k [] = ws[k].2 := by rw [List.getD_eq_getElem?_getD, List.getElem?_map, hx]; rfl
    rw [e1, List.getElem?_map, hx]
    have okx := okw _ (List.getElem_mem hk)
    have cm : (k ∈ plcs (ws.map (·.2)) t) ↔ t ∈ ws[k].2 := by rw [plcs_mem, e2, List.length_map]; exact ⟨fun h => h.2, fun h => ⟨hk, h⟩⟩
    have hi := (List.getElem?_eq_some_iff.mp ht)
    have hil : i < ms.length := hi.1
    -- no change between the turn ahead and this one
    have same : cnt ws[k].2 (curM ms i) = cnt ws[k].2 (t - 1) := by
      have inm : ∀ u ∈ ws[k].2, u ∈ ms := fun u hu => (mem u).mpr ⟨k, by rw [List.length_map]; exact hk, by rw [e2]; exact hu⟩
      have t0 : 0 ≤ t := by
        obtain ⟨j, h1, h2⟩ := (mem t).mp (List.mem_of_getElem? ht)
        rw [List.length_map] at h1
        have e3 : (ws.map (·.2)).getD j [] = ws[j].2 := by rw [List.getD_eq_getElem?_getD, List.getElem?_map, List.getElem?_eq_getElem h1]; rfl
        rw [e3] at h2
        exact (okw _ (List.getElem_mem h1)).lo t h2
      by_cases z : i = 0
      · subst z
        show cnt _ (if (0 : Nat) = 0 then (-1 : Int) else _) = _
        rw [if_pos rfl]
        refine cnt_same (by omega) fun u hu h => ?_
        obtain ⟨j, hj⟩ := List.getElem?_of_mem (inm u hu)
        obtain ⟨j1, j2⟩ := List.getElem?_eq_some_iff.mp hj
        by_cases y : j = 0
        · subst y
          have := Option.some.inj (hj.symm.trans ht)
          omega
        · have := List.pairwise_iff_getElem.mp rise 0 j hi.1 j1 (by omega)
          rw [hi.2, j2] at this
          omega
      · have ec : curM ms i = ms[i - 1]'(by omega) := by
          unfold curM
          rw [if_neg z, List.getD_eq_getElem?_getD, List.getElem?_eq_getElem (by omega)]
          rfl
        have lt := List.pairwise_iff_getElem.mp rise (i - 1) i (by omega) hi.1 (by omega)
        rw [hi.2] at lt
        rw [ec]
        refine cnt_same (by omega) fun u hu h => ?_
        obtain ⟨j, hj⟩ := List.getElem?_of_mem (inm u hu)
        obtain ⟨j1, j2⟩ := List.getElem?_eq_some_iff.mp hj
        by_cases y : j ≤ i - 1
        · by_cases y2 : j = i - 1
          · subst y2
            omega
          · have := List.pairwise_iff_getElem.mp rise j (i - 1) j1 (by omega) (by omega)
            omega
        · by_cases y2 : j = i
          · subst y2
            have := Option.some.inj (hj.symm.trans ht)
            omega
          · have := List.pairwise_iff_getElem.mp rise i j hi.1 j1 (by omega)
            rw [hi.2, j2] at this
            omega
    have st := cnt_step ws[k].2 t okx.rise
    show some _ = some (wv ws[k] t)
    congr 1
    unfold wv
    rw [same, st]
    by_cases z : t ∈ ws[k].2
    · rw [if_pos (cm.mpr z), if_pos z]
      push_cast
      omega
    · rw [if_neg (fun y => z (cm.mp y)), if_neg z]
      rfl
  · rw [List.getElem?_eq_none (by rw [flips_len, List.length_map]; omega), List.getElem?_eq_none (by rw [List.length_map]; omega)]
theorem firsts {ws : List (Int × List Int)} (okw : ∀ x ∈ ws, Wv x (wv x)) : ws.map (·.1) = ws.map fun x => wv x (-1) := List.map_congr_left fun x hx => (okw x hx).first
def sp_gate_wave (K : PySem.W.Frag) : Sp := fun vs H Q _ => ∃ (bs : List Bool) (wl : Addr) (xs : List V) (ws : List (Int × List Int)), vs = [.str (tabOf bs), .ref wl] ∧ H wl = some (.lst xs) ∧ TkAll H xs (ws.map wvD) ∧ bs.length = 2 ^ ws.length ∧ ws.length ≤ 3 ∧ (∀ x ∈ ws, Wv x (wv x) ∧ x.2.length ≤ 10000) ∧
  ∀ r H' y, Same H H' → Tk H' (.ref r) (wvD y) → Wv y (gateV bs ws) → Q (.ref r) H'
theorem ok_gate_wave (T : Tx K mg) : FnOk P w K mg base CX0 2 T.f_gate_wave T.fd_gate_wave ["table", "waves"] (sp_gate_wave K) := by
  refine T.F_gate_wave.ok sc_gate_wave (fun vs H Q E h => ?_) (fun cdv A outer s H vs Q E hr h => ?_)
  · obtain ⟨bs, wl, xs, ws, rfl, _⟩ := h
    rfl
  · obtain ⟨bs, wl, xs, ws, rfl, hw, tw, hb, l3, okw0, q⟩ := h
    have okw : ∀ x ∈ ws, Wv x (wv x) := fun x hx => (okw0 x hx).1
    have lx : xs.length = ws.length := by rw [tw.length, List.length_map]
    have w01 : ∀ t, ∀ u ∈ ws.map (fun x => wv x t), u = 0 ∨ u = 1 := fun t u hu => by
      obtain ⟨x, _, rfl⟩ := List.mem_map.mp hu
      exact wv01 x t
    refine ⟨_, (pss_cons (ps_setLc (i := 2) (own := [("first", 3), ("times", 5)]) (by rfl) sc_gate_wave.nd rfl rfl (sw_true rfl rfl rfl (by decide +kernel)) (pi_list (pv 1)) (blkOk_by (own := [("first", 3), ("times", 5)]) (N := ["table", "waves", "worths", "first", "now", "times", "time", "places", "place"]) (sc := defScope s_gate_wave) (by decide +kernel)) (fun _ _ _ _ _ => (show PG _ _ (gTup K 2 _) from pg_tup rfl (pgs_cons (pg_name (i := 3) sc_gate_wave.nd rfl (by first | exact .inl rfl | exact .inr rfl)) (pgs_cons (pg_name (i := 5) sc_gate_wave.nd rfl (by first | exact .inl rfl | exact .inr rfl)) pgs_nil)))) (fun _ _ _ _ _ => pts_nil) (fun _ _ _ _ _ => (pv 3))) (pss_cons (ps_set (i := 3) sc_gate_wave.nd rfl (by first | exact .inl rfl | exact .inr rfl) (pe_call (ok_table_worth T) (hr.mono (by decide)) (by rfl) T.g_table_worth T.F_table_worth.kp T.b_table_worth .nil pass0 (pa_cons (pv 0) (pa_cons (pv 2) pa_nil)))) (pss_cons (ps_set (i := 4) sc_gate_wave.nd rfl (by first | exact .inl rfl | exact .inr rfl) (pv 3)) (pss_cons (ps_set (i := 5) sc_gate_wave.nd rfl (by first | exact .inl rfl | exact .inr rfl) (pe_lst pa_nil)) (pss_cons (ps_for PassesOwn.never rfl (pi_list (pe_call (ok_turns_of T) (hr.mono (by decide)) (by rfl) T.g_turns_of T.F_turns_of.kp T.b_turns_of .nil pass0 (pa_cons (pv 1) pa_nil))) (pg_tup rfl (pgs_cons (pg_name (i := 6) sc_gate_wave.nd rfl (by first | exact .inl rfl | exact .inr rfl)) (pgs_cons (pg_name (i := 7) sc_gate_wave.nd rfl (by first | exact .inl rfl | exact .inr rfl)) pgs_nil))) (pss_cons (ps_for PassesOwn.never rfl (pi_list (pv 7)) (pg_name (i := 8) sc_gate_wave.nd rfl (by first | exact .inl rfl | exact .inr rfl)) (pss_one (ps_asg (pe_op op_sub pe_int (pe_ix ix_list (pv 2) (pv 8) (fun _ _ => rfl))) (pg_sub (pv 2) (pv 8) set_list)))) (pss_one (ps_if (pt_cmpR op_ne (pe_call (ok_table_worth T) (hr.mono (by decide)) (by rfl) T.g_table_worth T.F_table_worth.kp T.b_table_worth .nil pass0 (pa_cons (pv 0) (pa_cons (pv 2) pa_nil))) (pv 4) (nomark _)) (pss_cons (ps_set (i := 4) sc_gate_wave.nd rfl (by first | exact .inl rfl | exact .inr rfl) (pe_op op_sub pe_int (pv 4))) (pss_one (ps_expr (pe_bm PySem.F.plainAttrs_list PySem.F.slot_list_append PySem.F.type_list_append mt_append (pv 5) (pa_cons (pv 6) pa_nil))))) pss_nil)))) (pss_one (ps_ret (pe_tup (pa_cons (pv 3) (pa_cons (pe_callTy call_tuple_of (by rfl) T.m_tuple (by decide +kernel) (pa_cons (pv 5) pa_nil)) pa_nil)))))))))), ?_⟩
    refine ⟨.ref wl, rfl, wl, rfl, ⟨_, SqL.of hw⟩, fun wo nwo => ?_⟩
    refine lc_list (K := K) (a := wl) (xs := xs) (fun i H' => Same H H' ∧ H' wo = some (.lst (((ws.take i).map (·.1)).map V.int))) ⟨same_upd nwo, upd_same⟩ (fun i H' _ z => SqL.of (z.1 _ _ hw)) ?_ ?_
    · rintro i v H1 hv ⟨s1, ho⟩
      obtain ⟨x, hx, tx⟩ := tw.at hv
      obtain ⟨wa, t, rfl, ha, ht⟩ := tx.wv_inv
      have hi := (List.getElem?_eq_some_iff.mp hx).1
      refine ⟨wa, _, rfl, SqT.of (s1 _ _ ha), rfl, _, _, rfl, _, _, rfl, rfl, rfl, .int x.1, rfl, _, ho, ?_, sameU s1 nwo, ?_⟩
      · rw [List.length_map, List.length_map, List.length_take]
        exact Nat.lt_of_le_of_lt (show min i ws.length ≤ 3 by omega) (by decide)
      · rw [upd_same, List.take_add_one, hx, List.map_append, List.map_append]
        rfl
    · rintro H1 ⟨s1, ho⟩
      rw [lx, List.take_length, firsts okw] at ho
      have lW : ∀ t, (ws.map fun x => wv x t).length = ws.length := fun t => List.length_map ..
      have hb' : ∀ t, bs.length = 2 ^ (ws.map fun x => wv x t).length := fun t => by rw [lW]; exact hb
      have l3' : ∀ t, (ws.map fun x => wv x t).length ≤ 3 := fun t => by rw [lW]; exact l3
      refine ⟨.str (tabOf bs), rfl, .ref wo, rfl, bs, wo, _, rfl, SqL.of ho, w01 (-1), hb' _, l3' _, ?_⟩
      refine ⟨.int (gateV bs ws (-1)), rfl, Nat.zero_le _, fun ti nti => ?_⟩
      have s2 := same_upd (o := HO.lst []) nti
      have h2 : upd H1 ti (HO.lst []) ti = some (.lst []) := upd_same
      have hwo2 := s2 _ _ ho
      have nti0 := none_of_same s1 nti
      generalize upd H1 ti (HO.lst []) = H2 at s2 h2 hwo2 ⊢
      have s02 := s1.trans s2
      refine ⟨.ref wl, rfl, wl, xs, ws, rfl, s02 _ _ hw, tw.same s02, by omega, fun x hx => ⟨(okw x hx).rise, (okw0 x hx).2⟩, fun r HT ys ms sT nr hr TA => ?_⟩
      have mem' : ∀ t, t ∈ ms ↔ ∃ x ∈ ws, t ∈ x.2 := fun t => by
        rw [TA.mem]
        constructor
        · rintro ⟨i, h1, h2⟩
          rw [List.length_map] at h1
          refine ⟨ws[i], List.getElem_mem h1, ?_⟩
          rw [List.getD_eq_getElem?_getD, List.getElem?_map, List.getElem?_eq_getElem h1] at h2
          exact h2
        · rintro ⟨x, hx, h⟩
          obtain ⟨i, hi⟩ := List.getElem?_of_mem hx
          refine ⟨i, by rw [List.length_map]; exact (List.getElem?_eq_some_iff.mp hi).1, ?_⟩
          rw [List.getD_eq_getElem?_getD, List.getElem?_map, hi]
          exact h
      have lo : ∀ t ∈ ms, 0 ≤ t := fun t ht => by
        obtain ⟨x, hx, h⟩ := (mem' t).mp ht
        exact (okw x hx).lo t h
      have f01 : ∀ t, gateV bs ws t = 0 ∨ gateV bs ws t = 1 := fun t => gate01 _ _
      have con := gateV_con (bs := bs) mem'
      have nrw : r ≠ wo := (ne_of_none hwo2 nr).symm
      have nrt : r ≠ ti := (ne_of_none h2 nr).symm
      have few : ms.length ≤ 30000 := by
        have := TA.few
        rw [List.length_map] at this
        omega
      refine ⟨r, rfl, ⟨_, SqL.of hr⟩, for_list (K := K) (a := r) (xs := ys) (fun i σ H' => ∃ acc y6 y7 y8, σ = [some (.str (tabOf bs)), some (.ref wl), some (.ref wo), some (.int (gateV bs ws (-1))), some (.int acc.2), some (.ref ti), y6, y7, y8] ∧ Fr wo ti HT H' ∧ H' wo = some (.lst ((ws.map fun x => wv x (curM ms i)).map V.int)) ∧ H' ti = some (.lst (acc.1.map V.int)) ∧ TInv (gateV bs ws) ms i acc)
        ⟨([], gateV bs ws (-1)), _, _, _, rfl, Fr.refl, sT _ _ hwo2, sT _ _ h2, tinv0 f01 lo con⟩ (fun i σ H' _ ⟨_, _, _, _, _, z, _⟩ => SqL.of (z _ _ nrw nrt hr)) ?_ ?_⟩
      · rintro i v σ H3 hv ⟨acc, y6, y7, y8, rfl, f3, ho3, ht3, I⟩
        have hi : i < ms.length := by rw [← TA.len]; exact (List.getElem?_eq_some_iff.mp hv).1
        obtain ⟨t, ht⟩ : ∃ t, ms[i]? = some t := ⟨_, List.getElem?_eq_getElem hi⟩
        obtain ⟨a, p, rfl, ha, hp, np⟩ := TA.at_ i v t hv ht
        have na1 : a ≠ wo := ne_of ha (sT _ _ hwo2) (by intro z; cases z)
        have na2 : a ≠ ti := ne_of ha (sT _ _ h2) (by intro z; cases z)
        have np1 : p ≠ wo := (ne_of_none hwo2 np).symm
        have np2 : p ≠ ti := (ne_of_none h2 np).symm
        refine ⟨a, _, rfl, SqT.of (f3 _ _ na1 na2 ha), rfl, _, _, rfl, _, _, rfl, rfl, ?_⟩
        refine ⟨.ref p, rfl, p, rfl, ⟨_, SqL.of (f3 _ _ np1 np2 hp)⟩, for_list (K := K) (a := p) (xs := nV (plcs (ws.map (·.2)) t)) (fun j σ H' => ∃ y8, σ = [some (.str (tabOf bs)), some (.ref wl), some (.ref wo), some (.int (gateV bs ws (-1))), some (.int acc.2), some (.ref ti), some (.int t), some (.ref p), y8] ∧ Fr wo ti HT H' ∧ H' wo = some (.lst ((flipsM (ws.map fun x => wv x (curM ms i)) ((plcs (ws.map (·.2)) t).take j)).map V.int)) ∧ H' ti = some (.lst (acc.1.map V.int)))
          ⟨_, rfl, f3, ho3, ht3⟩ (fun j σ H' _ ⟨_, _, z, _⟩ => SqL.of (z _ _ np1 np2 hp)) ?_ ?_⟩
        · rintro j v σ H4 hv ⟨y8, rfl, f4, ho4, ht4⟩
          obtain ⟨k, hk, rfl⟩ : ∃ k, (plcs (ws.map (·.2)) t)[j]? = some k ∧ v = V.int (k : Nat) := by
            obtain ⟨b, hb, rfl⟩ := vint_at hv
            rw [List.getElem?_map] at hb
            obtain ⟨k, hk, e⟩ := Option.map_eq_some_iff.mp hb
            exact ⟨k, hk, by rw [← e]; rfl⟩
          have kl : k < ws.length := by
            have := (plcs_mem.mp (List.mem_of_getElem? hk)).1
            rw [List.length_map] at this
            exact this
          generalize hF : flipsM (ws.map fun x => wv x (curM ms i)) ((plcs (ws.map (·.2)) t).take j) = F at ho4
          have lF : F.length = ws.length := by rw [← hF, flips_len, List.length_map]
          have hFk : F[k]? = some (F.getD k 0) := by rw [List.getD_eq_getElem?_getD, List.getElem?_eq_getElem (by omega)]; rfl
          refine ⟨.ref wo, rfl, .int (k : Nat), rfl, wo, _, ((k : Nat) : Int), .int (F.getD k 0), rfl, rfl, SqL.of ho4, atI_nat (by rw [List.getElem?_map, hFk]; rfl), _, _, rfl, rfl, .ref wo, rfl, .int (k : Nat), rfl, wo, _, _, k, rfl, rfl, ho4, ixN_k (by rw [List.length_map, lF]; exact kl), ?_⟩
          have nwt : ti ≠ wo := (ne_of_none ho nti).symm
          refine ⟨_, rfl, fun b o h1 h2 e => by rw [upd_ne h1]; exact f4 b o h1 h2 e, ?_, by rw [upd_ne nwt]; exact ht4⟩
          rw [upd_same, List.take_add_one, hk]
          show _ = some (HO.lst ((flipsM _ (_ ++ [k])).map V.int))
          rw [flips_snoc, hF, List.map_set]
        · rintro σ H4 ⟨y8, rfl, f4, ho4, ht4⟩
          rw [nV_len, List.take_length, flips_turn okw TA.rise TA.mem ht] at ho4
          have ec : curM ms (i + 1) = t := by
            unfold curM
            rw [if_neg (Nat.succ_ne_zero i), Nat.add_sub_cancel, List.getD_eq_getElem?_getD, ht]
            rfl
          have nwt : ti ≠ wo := (ne_of_none ho nti).symm
          have st := tinv_step f01 TA.rise con I ht
          have la : acc.1.length ≤ 30000 := by
            have := I.sub.length_le
            rw [List.length_take] at this
            omega
          refine ⟨.str (tabOf bs), rfl, .ref wo, rfl, bs, wo, _, rfl, SqL.of ho4, w01 t, hb' _, l3' _, .int acc.2, rfl, rfl, _, rfl, ite2 (fun e => ?_) (fun e => ?_)⟩
          · have ne : gateV bs ws t ≠ acc.2 := fun z => by
              have : (!decide (V.int (gateV bs ws t) = V.int acc.2)) = true := e
              rw [z, decide_eq_true rfl] at this
              cases this
            have e1 : gateV bs ws t = 1 - acc.2 := by
              have := f01 t
              have h2 := I.here
              omega
            have es : stepT (gateV bs ws) acc t = (acc.1 ++ [t], 1 - acc.2) := by
              unfold stepT
              rw [if_pos ne, e1]
            rw [es] at st
            refine ⟨.int acc.2, rfl, _, _, rfl, rfl, .ref ti, rfl, .inl ⟨rfl, _, SqL.of ht4⟩, .int t, rfl, ti, _, _, rfl, rfl, ht4, ?_, ?_⟩
            · rw [List.length_map]
              exact Nat.lt_of_le_of_lt la (by decide)
            refine ⟨(acc.1 ++ [t], 1 - acc.2), _, _, _, rfl, fun b o h1 h2 e => by rw [upd_ne h2]; exact f4 b o h1 h2 e, ?_, ?_, st⟩
            · rw [upd_ne nwt.symm, ec]
              exact ho4
            · rw [upd_same, List.map_append]
              rfl
          · have eq : gateV bs ws t = acc.2 := by
              apply Classical.byContradiction
              intro ne
              apply e
              show (!decide (V.int (gateV bs ws t) = V.int acc.2)) = true
              rw [decide_eq_false (fun z => ne (V.int.inj z))]
              rfl
            have es : stepT (gateV bs ws) acc t = acc := by
              unfold stepT
              rw [if_neg (fun z => z eq), eq]
            rw [es] at st
            refine ⟨acc, _, _, _, rfl, f4, ?_, ht4, st⟩
            rw [ec]
            exact ho4
      · rintro σ H3 ⟨acc, y6, y7, y8, rfl, f3, ho3, ht3, I⟩
        rw [TA.len] at I
        have W := gateV_end TA.rise lo I
        have s03 : Same H H3 := fun b o e => f3 b o (ne_of_none e nwo) (ne_of_none e nti0) ((s02.trans sT) b o e)
        refine ⟨.int (gateV bs ws (-1)), rfl, .ref ti, rfl, ti, _, rfl, .inl ⟨SqL.of ht3, fun tp ntp => ?_⟩⟩
        have s4 := same_upd (o := HO.tup (acc.1.map V.int)) ntp
        have h4 : upd H3 tp (HO.tup (acc.1.map V.int)) tp = some (.tup (acc.1.map V.int)) := upd_same
        generalize upd H3 tp (HO.tup (acc.1.map V.int)) = H4 at s4 h4 ⊢
        refine ⟨sl2, fun r nr => ?_⟩
        have s5 := same_upd (o := HO.tup [V.int (gateV bs ws (-1)), .ref tp]) nr
        exact q r _ (gateV bs ws (-1), acc.1) ((s03.trans s4).trans s5) (.tup upd_same (.cons (.int _) (.cons (.tup (s5 _ _ h4) (TkAll.ints _)) .nil))) W

end
end Gk

set_option Elab.async false
set_option linter.all false
set_option maxRecDepth 100000
set_option maxHeartbeats 1000000
set_option pp.maxSteps 1500
set_option pp.deepTerms false
namespace Gk
open PySem PySem.Spec PyProof.Rows L2
/-! ### zip of two or three texts, tuples, lists -/
namespace ZpG
open PySem PySem.Spec PyProof.Rows L2
inductive ZS where
  | tx (x : PySem.Str)
  | tu (a : Addr)
  | li (a : Addr)
def ZS.val : ZS → V
  | .tx x => .str x
  | .tu a => .ref a
  | .li a => .ref a
def ZS.at (K : PySem.W.Frag) : ZS → Hp → List V → Prop
  | .tx x, _, xs => xs = x.cps.toList.map fun c => V.str ⟨#[c]⟩
  | .tu a, H, xs => SqT K H a xs
  | .li a, H, xs => SqL K H a xs
def ZS.it : ZS → Addr → Nat → Heap → Prop
  | .tx x, it, i, h => ∃ t, h.IsStrIter it (strIterType x) x t i
  | .tu a, it, i, h => h.IsTupleIter it a i
  | .li a, it, i, h => h.IsListIter it a i
def ZS.lt : ZS → Nat → Prop
  | .tx _, _ => True
  | .tu a, n => a < n
  | .li a, n => a < n
def ZS.off : ZS → Addr → Prop
  | .tx _, _ => True
  | .tu a, c => a ≠ c
  | .li a, c => a ≠ c
theorem ne' {a b : Nat} (h : a ≠ b) : @Ne Addr a b := h
theorem ZS.off_of {n c : Nat} (hc : n ≤ c) : ∀ {z : ZS}, z.lt n → z.off c
  | .tx _, _ => trivial
  | .tu _, h => Nat.ne_of_lt (Nat.lt_of_lt_of_le h hc)
  | .li _, h => Nat.ne_of_lt (Nat.lt_of_lt_of_le h hc)
theorem ZS.obj {it : Addr} {i : Nat} {h : Heap} : ∀ {z : ZS}, z.it it i h → ∃ o, h.get? it = some o ∧ ∀ v, o.data ≠ .cell v
  | .tx _, ⟨_, o, e, _, d⟩ => ⟨o, e, fun v q => by rw [d] at q; cases q⟩
  | .tu _, ⟨o, e, _, d⟩ => ⟨o, e, fun v q => by rw [d] at q; cases q⟩
  | .li _, ⟨o, e, _, d⟩ => ⟨o, e, fun v q => by rw [d] at q; cases q⟩
theorem ZS.move {it : Addr} {i : Nat} {h h' : Heap} (k : ∀ o, h.get? it = some o → h'.get? it = some o) : ∀ {z : ZS}, z.it it i h → z.it it i h'
  | .tx _, ⟨t, o, e, r⟩ => ⟨t, o, k o e, r⟩
  | .tu _, ⟨o, e, r⟩ => ⟨o, k o e, r⟩
  | .li _, ⟨o, e, r⟩ => ⟨o, k o e, r⟩
section
variable {X : Cx} {pins : List (Addr × Obj)} {σ : L2.St} {H : Hp} {s : Shared}
theorem ZS.inj (I : Inv X pins σ H s) {z : ZS} {xs ys : List V} (h1 : z.at X.K H xs) (h2 : z.at X.K H ys) : xs = ys := by
  cases z with
  | tx x =>
    have e1 : xs = _ := h1
    have e2 : ys = _ := h2
    rw [e1, e2]
  | tu a => exact I.tuple_inj h1 h2
  | li a => exact I.list_inj h1 h2
theorem ZS.draws {A : Around} {it : Addr} {i : Nat} {xs : List V} (z : ZS) (I : Inv X pins σ H s) (hq : z.at X.K H xs) (hh : A.handled = none) (off : z.off it) (st : z.it it i s.heap) :
    ∃ (fp : List Addr) (P : Nat → Value → Prop) (St : Nat → Heap → Prop), Draws X.prog X.w A it fp xs.length P St ∧ it ∈ fp ∧ (∀ c, c ∈ fp → c = it ∨ ¬ z.off c) ∧ St i s.heap ∧ (∀ j h, St j h → z.it it j h) ∧ ∀ j v, P j v → ∃ x, xs[j]? = some x ∧ RelV x v := by
  cases z with
  | tx x =>
    obtain ⟨t, st⟩ := st
    have e : xs = x.cps.toList.map fun c => V.str ⟨#[c]⟩ := hq
    have el : xs.length = x.cps.size := by rw [e, List.length_map, Array.length_toList]
    refine ⟨[it], fun i v => ∃ c u, x.cps[i]? = some c ∧ v = .str ⟨#[c]⟩ u, fun i h => h.IsStrIter it (strIterType x) x t i, ?_, List.mem_cons_self, fun c hc => .inl (List.mem_singleton.mp hc), st, fun j h q => ⟨t, q⟩, fun j v p => ?_⟩
    · rw [el]
      exact Draws.text hh it x t
    · obtain ⟨c, u, hc, rfl⟩ := p
      refine ⟨.str ⟨#[c]⟩, ?_, ⟨u, rfl⟩⟩
      rw [e, List.getElem?_map, Array.getElem?_toList, hc]
      rfl
  | tu a =>
    obtain ⟨its, rv, p, _⟩ := I.tuple hq
    have hl := rv.length
    refine ⟨[it, a], fun i v => its.toArray[i]? = some v, fun i h => h.IsTupleIter it a i ∧ h.IsTuple a its.toArray, ?_, List.mem_cons_self, fun c hc => ?_, ⟨st, p⟩, fun j h q => q.1, fun j v q => ?_⟩
    · rw [hl, ← List.size_toArray]
      exact Draws.tuple hh it a off its.toArray
    · rcases List.mem_cons.mp hc with e | e
      · exact .inl e
      · refine .inr fun q => ?_
        rw [List.mem_singleton.mp e] at q
        exact q rfl
    · have q : its[j]? = some v := by simpa using q
      have hj := (List.getElem?_eq_some_iff.mp q).1
      have hx : xs[j]? = some (xs[j]'(by omega)) := List.getElem?_eq_getElem _
      obtain ⟨u, hu, ru⟩ := rv.get hx
      rw [q] at hu
      cases Option.some.inj hu
      exact ⟨_, hx, ru⟩
  | li a =>
    obtain ⟨its, rv, p, _⟩ := I.list hq
    have hl := rv.length
    refine ⟨[it, a], fun i v => its.toArray[i]? = some v, fun i h => h.IsListIter it a i ∧ h.IsList a its.toArray, ?_, List.mem_cons_self, fun c hc => ?_, ⟨st, p.isList⟩, fun j h q => q.1, fun j v q => ?_⟩
    · rw [hl, ← List.size_toArray]
      exact Draws.list hh it a off its.toArray
    · rcases List.mem_cons.mp hc with e | e
      · exact .inl e
      · refine .inr fun q => ?_
        rw [List.mem_singleton.mp e] at q
        exact q rfl
    · have q : its[j]? = some v := by simpa using q
      have hj := (List.getElem?_eq_some_iff.mp q).1
      have hx : xs[j]? = some (xs[j]'(by omega)) := List.getElem?_eq_getElem _
      obtain ⟨u, hu, ru⟩ := rv.get hx
      rw [q] at hu
      cases Option.some.inj hu
      exact ⟨_, hx, ru⟩
theorem ZS.begins {v : Value} {xs : List V} (z : ZS) (I : Inv X pins σ H s) (hq : z.at X.K H xs) (r : RelV z.val v) : ∃ o Hh, Begins v o Hh ∧ Hh s.heap ∧ (∀ it h, h.get? it = some o → z.it it 0 h) ∧ z.lt s.heap.objs.size := by
  cases z with
  | tx x =>
    obtain ⟨t, rfl⟩ := (show ∃ t, v = Value.str x t from r)
    exact ⟨_, _, begins_text x t, trivial, fun it h e => ⟨t, _, e, rfl, rfl⟩, trivial⟩
  | tu a =>
    cases (show v = Value.ref a from r)
    obtain ⟨its, rv, p, _⟩ := I.tuple hq
    obtain ⟨o1, ho1, _⟩ := id p
    exact ⟨_, _, begins_tuple a its.toArray, p, fun it h e => ⟨_, e, rfl, rfl⟩, Heap.lt_size ho1⟩
  | li a =>
    cases (show v = Value.ref a from r)
    obtain ⟨its, rv, p, _⟩ := I.list hq
    exact ⟨_, _, begins_list a its.toArray, p.isList, fun it h e => ⟨_, e, rfl, rfl⟩, p.lt⟩
end
def Itz2 (K : PySem.W.Frag) (z1 z2 : ZS) : It :=
  ⟨fun i H => ∃ (xs1 xs2 : List V) (x1 x2 : V), z1.at K H xs1 ∧ z2.at K H xs2 ∧ xs1[i]? = some x1 ∧ xs2[i]? = some x2,
    fun i H v H' => ∃ T x1 x2, v = .ref T ∧ H T = none ∧ H' = upd H T (.tup [x1, x2]) ∧ (∀ xs, z1.at K H xs → xs[i]? = some x1) ∧ (∀ xs, z2.at K H xs → xs[i]? = some x2),
    fun i H => ∃ xs1 xs2 : List V, z1.at K H xs1 ∧ z2.at K H xs2 ∧ i ≤ xs1.length ∧ i ≤ xs2.length ∧ (i = xs1.length ∨ i = xs2.length)⟩
theorem turn_zip2 {P : Program} {w : World} {K : PySem.W.Frag} {elts : List Expr} {kk : Nat} {tpos : Pos} {z1 z2 : ZS} {n : Nat} (l1 : z1.lt n) (l2 : z2.lt n) :
    Turn P w K (.Tuple elts kk tpos) (Itz2 K z1 z2) [n + 4, n + 2, n + 3, n, n + 1] (n + 4) (fun i h => IsZip h (n + 4) (n + 2) (n + 3) .none ∧ IsTupOf2 h (n + 2) (.ref (n)) (.ref (n + 1)) ∧ (∃ x1 x2, IsTupOf2 h (n + 3) x1 x2) ∧ z1.it (n) i h ∧ z2.it (n + 1) i h) where
  mem := List.mem_cons_self
  obj := fun i h st c hc => by
    obtain ⟨hz, hTI, ⟨x1, x2, hTO⟩, st1, st2⟩ := st
    have e' : c = n + 4 ∨ c = n + 2 ∨ c = n + 3 ∨ c = n ∨ c = n + 1 := by simpa using hc
    rcases e' with q | q | q | q | q
    · rw [q]; exact ⟨_, hz, fun v q => nomatch q⟩
    · rw [q]; exact ⟨_, hTI, fun v q => nomatch q⟩
    · rw [q]; exact ⟨_, hTO, fun v q => nomatch q⟩
    · rw [q]; exact ZS.obj (z := z1) st1
    · rw [q]; exact ZS.obj (z := z2) st2
  keep := fun i h h' st k => by
    obtain ⟨hz, hTI, ⟨x1, x2, hTO⟩, st1, st2⟩ := st
    exact ⟨k _ (by simp) _ hz, k _ (by simp) _ hTI, ⟨x1, x2, k _ (by simp) _ hTO⟩, ZS.move (z := z1) (fun o q => k _ (by simp) o q) st1, ZS.move (z := z2) (fun o q => k _ (by simp) o q) st2⟩
  item := by
    intro X hP hw hK hc i pins s σ H E I hf st hg
    subst hP hw hK
    obtain ⟨hz, hTI, ⟨y1, y2, hTO⟩, st1, st2⟩ := st
    obtain ⟨xs1, xs2, x1, x2, q1, q2, h1, h2⟩ := hg
    have hh : X.A.in1.handled = none := I.ok.hd hc
    obtain ⟨fp1, P1, St1, D1, m1, f1, s1, b1, p1⟩ := z1.draws (A := X.A.in1) I q1 hh (ZS.off_of (by omega) l1) st1
    have nf1 : ∀ c, n ≤ c → c ≠ n → c ∉ fp1 := fun c h1 h2 h3 => by
      rcases f1 c h3 with e | e
      · exact h2 e
      · exact e (ZS.off_of h1 l1)
    obtain ⟨fp2, P2, St2, D2, m2, f2, s2, b2, p2⟩ := z2.draws (A := X.A.in1) I q2 hh (ZS.off_of (by omega) l2) st2
    have nf2 : ∀ c, n ≤ c → c ≠ n + 1 → c ∉ fp2 := fun c h1 h2 h3 => by
      rcases f2 c h3 with e | e
      · exact h2 e
      · exact e (ZS.off_of h1 l2)
    have t1 : i < xs1.length := (List.getElem?_eq_some_iff.mp h1).1
    have t2 : i < xs2.length := (List.getElem?_eq_some_iff.mp h2).1
    have hzl : n + 4 < s.heap.objs.size := Heap.lt_size hz
    have S : ZipSep2 (n + 4) (n + 2) (n + 3) (n) (n + 1) fp1 fp2 := { TIz := (ne' (a := n + 2) (b := n + 4) (by omega)), TOz := (ne' (a := n + 3) (b := n + 4) (by omega)), TITO := (ne' (a := n + 2) (b := n + 3) (by omega)), TIi1 := (ne' (a := n + 2) (b := n) (by omega)), mem1 := m1, zf1 := nf1 (n + 4) (by omega) (ne' (a := n + 4) (b := n) (by omega)), Tf1 := nf1 (n + 3) (by omega) (ne' (a := n + 3) (b := n) (by omega)), TIi2 := (ne' (a := n + 2) (b := n + 1) (by omega)), mem2 := m2, zf2 := nf2 (n + 4) (by omega) (ne' (a := n + 4) (b := n + 1) (by omega)), Tf2 := nf2 (n + 3) (by omega) (ne' (a := n + 3) (b := n + 1) (by omega)), sep1_2 := nf2 (n) (by omega) (ne' (a := n) (b := n + 1) (by omega)), sep2_1 := nf1 (n + 1) (by omega) (ne' (a := n + 1) (b := n) (by omega)) }
    refine wpAny_pyNext_zipD2_item S D1 D2 hz hTI hTO s1 s2 t1 t2 fun u1 u2 h' tk g1 g2 z' TO' w1 w2 hT hsz hk => ?_
    refine ⟨_, rfl, wpAny_letOwnedTupleGo_zip (s := { s with heap := h', toks := tk }) z' fun h'' z'' sb => ?_⟩
    obtain ⟨x1', e1, ru1⟩ := p1 i u1 g1
    rw [h1] at e1
    cases Option.some.inj e1
    obtain ⟨x2', e2, ru2⟩ := p2 i u2 g2
    rw [h2] at e2
    cases Option.some.inj e2
    have hT2 : h''.get? s.heap.objs.size = some { cls := .type "tuple", data := .seq #[u1, u2] } := (sb.2 _ (Nat.ne_of_gt hzl)).trans hT
    have new : ObjOk X.prog X.w (upd H s.heap.objs.size (.tup [x1, x2])) h'' s.heap.objs.size (.tup [x1, x2]) :=
      ⟨by show 2 ≤ sizeLine; decide, [u1, u2], .cons ru1 (.cons ru2 (.nil)), ⟨_, hT2, rfl, _, rfl⟩⟩
    have out5 : ∀ c, c ∉ [n + 4, n + 2, n + 3, n, n + 1] → c ≠ n + 4 ∧ c ≠ n + 3 ∧ c ≠ n ∧ c ≠ n + 1 := fun c hb => ⟨fun q' => hb (by simp [q']), fun q' => hb (by simp [q']), fun q' => hb (by simp [q']), fun q' => hb (by simp [q'])⟩
    have I1 : Inv X pins σ (upd H s.heap.objs.size (.tup [x1, x2])) { s with heap := h'', toks := tk } :=
      I.turnedNew (t' := tk) (ch := [n + 4, n + 2, n + 3, n, n + 1]) (fun c o hb q => by
        obtain ⟨a1, a2, b1', b2'⟩ := out5 c hb
        exact (sb.2 c a1).trans (hk c o a1 a2 b1' b2' q)) hf (Nat.le_refl _) new
    refine ⟨.ref s.heap.objs.size, _, I1, rfl, ⟨_, x1, x2, rfl, I.hok.fresh (Nat.le_refl _), rfl, fun l hl => by rw [ZS.inj I hl q1]; exact h1, fun l hl => by rw [ZS.inj I hl q2]; exact h2⟩, ⟨z'', ?_, ⟨u1, u2, ?_⟩, ?_, ?_⟩, fun c hcm => ?_⟩
    · exact (sb.2 (n + 2) (ne' (a := n + 2) (b := n + 4) (by omega))).trans (hk (n + 2) _ (ne' (a := n + 2) (b := n + 4) (by omega)) (ne' (a := n + 2) (b := n + 3) (by omega)) (ne' (a := n + 2) (b := n) (by omega)) (ne' (a := n + 2) (b := n + 1) (by omega)) hTI)
    · exact (sb.2 (n + 3) (ne' (a := n + 3) (b := n + 4) (by omega))).trans TO'
    · exact ZS.move (z := z1) (fun o q => (sb.2 (n) (ne' (a := n) (b := n + 4) (by omega))).trans q) (b1 _ _ w1)
    · exact ZS.move (z := z2) (fun o q => (sb.2 (n + 1) (ne' (a := n + 1) (b := n + 4) (by omega))).trans q) (b2 _ _ w2)
    · have hlt : c < s.heap.objs.size := by
        have e' : c = n + 4 ∨ c = n + 2 ∨ c = n + 3 ∨ c = n ∨ c = n + 1 := by simpa using hcm
        rcases e' with q | q | q | q | q
        · rw [q]; exact (show (n + 4 : Nat) < s.heap.objs.size by omega)
        · rw [q]; exact (show (n + 2 : Nat) < s.heap.objs.size by omega)
        · rw [q]; exact (show (n + 3 : Nat) < s.heap.objs.size by omega)
        · rw [q]; exact (show (n : Nat) < s.heap.objs.size by omega)
        · rw [q]; exact (show (n + 1 : Nat) < s.heap.objs.size by omega)
      rw [upd_ne (Nat.ne_of_lt hlt)]
      exact (hf c hcm).1
  done := by
    intro X hP hw hK hc i pins s σ H E I hf st hg
    subst hP hw hK
    obtain ⟨hz, hTI, ⟨y1, y2, hTO⟩, st1, st2⟩ := st
    obtain ⟨xs1, xs2, q1, q2, t1, t2, hend⟩ := hg
    have hh : X.A.in1.handled = none := I.ok.hd hc
    obtain ⟨fp1, P1, St1, D1, m1, f1, s1, b1, p1⟩ := z1.draws (A := X.A.in1) I q1 hh (ZS.off_of (by omega) l1) st1
    have nf1 : ∀ c, n ≤ c → c ≠ n → c ∉ fp1 := fun c h1 h2 h3 => by
      rcases f1 c h3 with e | e
      · exact h2 e
      · exact e (ZS.off_of h1 l1)
    obtain ⟨fp2, P2, St2, D2, m2, f2, s2, b2, p2⟩ := z2.draws (A := X.A.in1) I q2 hh (ZS.off_of (by omega) l2) st2
    have nf2 : ∀ c, n ≤ c → c ≠ n + 1 → c ∉ fp2 := fun c h1 h2 h3 => by
      rcases f2 c h3 with e | e
      · exact h2 e
      · exact e (ZS.off_of h1 l2)
    have S : ZipSep2 (n + 4) (n + 2) (n + 3) (n) (n + 1) fp1 fp2 := { TIz := (ne' (a := n + 2) (b := n + 4) (by omega)), TOz := (ne' (a := n + 3) (b := n + 4) (by omega)), TITO := (ne' (a := n + 2) (b := n + 3) (by omega)), TIi1 := (ne' (a := n + 2) (b := n) (by omega)), mem1 := m1, zf1 := nf1 (n + 4) (by omega) (ne' (a := n + 4) (b := n) (by omega)), Tf1 := nf1 (n + 3) (by omega) (ne' (a := n + 3) (b := n) (by omega)), TIi2 := (ne' (a := n + 2) (b := n + 1) (by omega)), mem2 := m2, zf2 := nf2 (n + 4) (by omega) (ne' (a := n + 4) (b := n + 1) (by omega)), Tf2 := nf2 (n + 3) (by omega) (ne' (a := n + 3) (b := n + 1) (by omega)), sep1_2 := nf2 (n) (by omega) (ne' (a := n) (b := n + 1) (by omega)), sep2_1 := nf1 (n + 1) (by omega) (ne' (a := n + 1) (b := n) (by omega)) }
    exact wpAny_pyNext_zipD2_end S D1 D2 hz hTI hTO s1 s2 t1 t2 hend fun h' tk hk => ⟨rfl, I.turnedL (t' := tk) (ch := [n + 4, n + 2, n + 3, n, n + 1]) (fun c o hb q =>
      hk c o (fun q' => hb (by simp [q'])) (fun q' => hb (by simp [q'])) (fun q' => hb (by simp [q'])) (fun q' => hb (by simp [q'])) q) hf⟩
  self := fun A i s Q E st h => wpAny_pyIter_zip st.1 h
def iZip2 (K : PySem.W.Frag) (ta : TA) : TI := fun σ H R => ta σ H fun vs H1 => ∃ (z1 z2 : ZS) (xs1 xs2 : List V), vs = [z1.val, z2.val] ∧ z1.at K H1 xs1 ∧ z2.at K H1 xs2 ∧ R (Itz2 K z1 z2) H1
theorem pi_zip2 {X : Cx} {e e2 : Expr} {ta : TA} {p pos tpos : Pos} {elts : List Expr} {kk : Nat} (hg : Gl X "zip") (hm : X.mg "zip" = none) (ha : PA X [e, e2] ta)
    (hs : starEach [e, e2] X.env = (false, eval e X.env) :: starEach [e2] X.env := by rfl) (hpl : (backTo pos (starEach [e2] X.env)).any (·.1) = false := by rfl) :
    PI X (.Tuple elts kk tpos) (.Call (.Name "zip" p) [e, e2] [] pos) (iZip2 X.K ta) := by
  refine ⟨fun pins s σ H R I h => ?_⟩
  refine Call_ (ld_blt I hg hm PyProof.Rows.boot_zip (PyProof.Rows.callWith_type1 (thn (ha.run pos pins s σ H _ I h) fun us s1 ⟨vs, H1, I1, r1, q1⟩ => ?_) hs hpl))
  obtain ⟨z1, z2, xs1, xs2, ex, q1, q2, q⟩ := q1
  subst ex
  cases r1 with
  | cons r1 rr =>
    cases rr with
    | cons r2 rr =>
      cases rr
      obtain ⟨o1, G1, B1, h1, i1, l1⟩ := z1.begins I1 q1 r1
      obtain ⟨o2, G2, B2, h2, i2, l2⟩ := z2.begins I1 q2 r2
      have fresh5 : ∀ c, c ∈ [s1.heap.objs.size + 4, s1.heap.objs.size + 2, s1.heap.objs.size + 3, s1.heap.objs.size, s1.heap.objs.size + 1] → FpOk X pins H1 c := fun c hcm => by
        have e' : c = s1.heap.objs.size + 4 ∨ c = s1.heap.objs.size + 2 ∨ c = s1.heap.objs.size + 3 ∨ c = s1.heap.objs.size ∨ c = s1.heap.objs.size + 1 := by simpa using hcm
        have hle : s1.heap.objs.size ≤ c := by omega
        exact I1.fpOk hle (I1.hok.fresh hle)
      refine zip_begins2 B1 B2 h1 h2 fun h' hz hTI hTO g1 g2 hsz hk => wpAny_pyIter_zip hz ?_
      have I2 : Inv X pins σ H1 { s1 with heap := h' } := I1.kept (t' := s1.toks) hk
      exact ⟨s1.heap.objs.size + 4, [s1.heap.objs.size + 4, s1.heap.objs.size + 2, s1.heap.objs.size + 3, s1.heap.objs.size, s1.heap.objs.size + 1], _, _, H1, rfl, I2, turn_zip2 l1 l2, ⟨hz, hTI, ⟨_, _, hTO⟩, i1 _ _ g1, i2 _ _ g2⟩, fresh5, q⟩
theorem for_zip2 {K : PySem.W.Frag} {z1 z2 : ZS} {xs1 xs2 : List V} {n : Nat} {g : TG} {tb : TS} {D : Ends} {σ : L2.St} {H : Hp} (n1 : xs1.length = n) (n2 : xs2.length = n) (Pv : Nat → L2.St → Hp → Prop) (h0 : Pv 0 σ H) (hl : ∀ i σ H, i ≤ n → Pv i σ H → z1.at K H xs1 ∧ z2.at K H xs2)
    (hs : ∀ (i : Nat) (x1 x2 : V) (T : Addr) (σ : L2.St) (H : Hp), xs1[i]? = some x1 → xs2[i]? = some x2 → H T = none → Pv i σ H → g (.ref T) σ (upd H T (.tup [x1, x2])) fun σ2 H2 => tb { D with nx := Pv (i + 1), ct := Pv (i + 1), bk := D.nx } σ2 H2) (hd : ∀ σ H, Pv n σ H → D.nx σ H) :
    ∃ W : Nat → Nat → L2.St → Hp → Prop, (∃ m, W 0 m σ H) ∧ ∀ i m σ H, W i m σ H →
      ((Itz2 K z1 z2).stop i H ∧ D.nx σ H) ∨ ((Itz2 K z1 z2).go i H ∧ ∃ N : L2.St → Hp → Prop, (∀ σ' H', N σ' H' → ∃ m', m' < m ∧ W (i + 1) m' σ' H') ∧ ∀ v H', (Itz2 K z1 z2).yld i H v H' → g v σ H' fun σ2 H2 => tb { D with nx := N, ct := N, bk := D.nx } σ2 H2) := by
  refine ⟨fun i m σ H => m = n - i ∧ i ≤ n ∧ Pv i σ H, ⟨n, rfl, Nat.zero_le _, h0⟩, ?_⟩
  rintro i m σ H ⟨rfl, hi, p⟩
  obtain ⟨q1, q2⟩ := hl i σ H hi p
  by_cases hlt : i < n
  · have e1 : xs1[i]? = some (xs1[i]'(by omega)) := List.getElem?_eq_getElem _
    have e2 : xs2[i]? = some (xs2[i]'(by omega)) := List.getElem?_eq_getElem _
    refine .inr ⟨⟨xs1, xs2, _, _, q1, q2, e1, e2⟩, Pv (i + 1), fun σ' H' p' => ⟨n - (i + 1), by omega, rfl, hlt, p'⟩, fun v H' y => ?_⟩
    obtain ⟨T, y1, y2, rfl, hT, rfl, f1, f2⟩ := y
    exact hs i y1 y2 T σ H (f1 xs1 q1) (f2 xs2 q2) hT p
  · have e : i = n := by omega
    subst e
    exact .inl ⟨⟨xs1, xs2, q1, q2, by omega, by omega, .inl (by omega)⟩, hd σ H p⟩
theorem lc_zip2 {K : PySem.W.Frag} {z1 z2 : ZS} {xs1 xs2 : List V} {n : Nat} {g : TG} {tt : TT} {te : TE} {vs : List Nat} {σ : L2.St} {H1 : Hp} {D : Addr} {Qd : Hp → Prop} (n1 : xs1.length = n) (n2 : xs2.length = n) (Pv : Nat → Hp → Prop) (h0 : Pv 0 (upd H1 D (.lst []))) (hl : ∀ i H, i ≤ n → Pv i H → z1.at K H xs1 ∧ z2.at K H xs2)
    (hs : ∀ (i : Nat) (x1 x2 : V) (T : Addr) (H : Hp), xs1[i]? = some x1 → xs2[i]? = some x2 → H T = none → Pv i H → g (.ref T) (wipe σ vs) (upd H T (.tup [x1, x2])) fun σ2 H2 => wipe σ2 vs = wipe σ vs ∧ tt σ2 H2 fun b H3 =>
      if b = true then te σ2 H3 fun y H4 => ∃ acc, H4 D = some (.lst acc) ∧ acc.length < sizeLine ∧ Pv (i + 1) (upd H4 D (.lst (acc ++ [y]))) else Pv (i + 1) H3) (hd : ∀ H, Pv n H → Qd H) :
    ∃ W : Nat → Nat → Hp → Prop, (∃ m, W 0 m (upd H1 D (.lst []))) ∧ ∀ i m H, W i m H →
      ((Itz2 K z1 z2).stop i H ∧ Qd H) ∨ ((Itz2 K z1 z2).go i H ∧ ∃ Nx : Hp → Prop, (∀ H', Nx H' → ∃ m', m' < m ∧ W (i + 1) m' H') ∧ ∀ x H', (Itz2 K z1 z2).yld i H x H' → g x (wipe σ vs) H' fun σ2 H2 => wipe σ2 vs = wipe σ vs ∧ tt σ2 H2 fun b H3 =>
        if b = true then te σ2 H3 fun y H4 => ∃ acc, H4 D = some (.lst acc) ∧ acc.length < sizeLine ∧ Nx (upd H4 D (.lst (acc ++ [y]))) else Nx H3) := by
  refine ⟨fun i m H => m = n - i ∧ i ≤ n ∧ Pv i H, ⟨n, by simp, Nat.zero_le _, h0⟩, ?_⟩
  rintro i m H ⟨rfl, hi, p⟩
  obtain ⟨q1, q2⟩ := hl i H hi p
  by_cases hlt : i < n
  · have e1 : xs1[i]? = some (xs1[i]'(by omega)) := List.getElem?_eq_getElem _
    have e2 : xs2[i]? = some (xs2[i]'(by omega)) := List.getElem?_eq_getElem _
    refine .inr ⟨⟨xs1, xs2, _, _, q1, q2, e1, e2⟩, Pv (i + 1), fun H' p' => ⟨n - (i + 1), by omega, rfl, hlt, p'⟩, fun v H' y => ?_⟩
    obtain ⟨T, y1, y2, rfl, hT, rfl, f1, f2⟩ := y
    exact hs i y1 y2 T H (f1 xs1 q1) (f2 xs2 q2) hT p
  · have e : i = n := by omega
    subst e
    exact .inl ⟨⟨xs1, xs2, q1, q2, by omega, by omega, .inl (by omega)⟩, hd H p⟩
theorem gx_zip2 {α : Type} {K : PySem.W.Frag} {z1 z2 : ZS} {xs1 xs2 : List V} {n : Nat} {g : TG} {tt : TT} {te : TE} {vs : List Nat} {σ0 : L2.St} {End : α → Hp → Prop} {Yd : α → V → Hp → (α → Hp → Prop) → Prop} {a0 : α} {H0 : Hp} (n1 : xs1.length = n) (n2 : xs2.length = n) (Pv : Nat → α → Hp → Prop) (h0 : Pv 0 a0 H0) (hl : ∀ i c H, i ≤ n → Pv i c H → z1.at K H xs1 ∧ z2.at K H xs2)
    (hs : ∀ (i : Nat) (x1 x2 : V) (T : Addr) (c : α) (H : Hp), xs1[i]? = some x1 → xs2[i]? = some x2 → H T = none → Pv i c H → g (.ref T) σ0 (upd H T (.tup [x1, x2])) fun σ2 H2 => wipe σ2 vs = σ0 ∧ tt σ2 H2 fun b H3 => if b = true then te σ2 H3 fun y H4 => Yd c y H4 (Pv (i + 1)) else Pv (i + 1) c H3) (hd : ∀ c H, Pv n c H → End c H) :
    ∃ W : Nat → Nat → α → Hp → Prop, (∃ m, W 0 m a0 H0) ∧ tGx (Itz2 K z1 z2) g tt te σ0 vs End Yd W := by
  refine ⟨fun i m c H => m = n - i ∧ i ≤ n ∧ Pv i c H, ⟨n, rfl, Nat.zero_le _, h0⟩, ?_⟩
  rintro i m c H ⟨rfl, hi, p⟩
  obtain ⟨q1, q2⟩ := hl i c H hi p
  by_cases hlt : i < n
  · have e1 : xs1[i]? = some (xs1[i]'(by omega)) := List.getElem?_eq_getElem _
    have e2 : xs2[i]? = some (xs2[i]'(by omega)) := List.getElem?_eq_getElem _
    refine .inr ⟨⟨xs1, xs2, _, _, q1, q2, e1, e2⟩, Pv (i + 1), fun c' H' p' => ⟨n - (i + 1), by omega, rfl, hlt, p'⟩, fun v H' y => ?_⟩
    obtain ⟨T, y1, y2, rfl, hT, rfl, f1, f2⟩ := y
    exact hs i y1 y2 T c H (f1 xs1 q1) (f2 xs2 q2) hT p
  · have e : i = n := by omega
    subst e
    exact .inl ⟨⟨xs1, xs2, q1, q2, by omega, by omega, .inl (by omega)⟩, hd c H p⟩
def Itz3 (K : PySem.W.Frag) (z1 z2 z3 : ZS) : It :=
  ⟨fun i H => ∃ (xs1 xs2 xs3 : List V) (x1 x2 x3 : V), z1.at K H xs1 ∧ z2.at K H xs2 ∧ z3.at K H xs3 ∧ xs1[i]? = some x1 ∧ xs2[i]? = some x2 ∧ xs3[i]? = some x3,
    fun i H v H' => ∃ T x1 x2 x3, v = .ref T ∧ H T = none ∧ H' = upd H T (.tup [x1, x2, x3]) ∧ (∀ xs, z1.at K H xs → xs[i]? = some x1) ∧ (∀ xs, z2.at K H xs → xs[i]? = some x2) ∧ (∀ xs, z3.at K H xs → xs[i]? = some x3),
    fun i H => ∃ xs1 xs2 xs3 : List V, z1.at K H xs1 ∧ z2.at K H xs2 ∧ z3.at K H xs3 ∧ i ≤ xs1.length ∧ i ≤ xs2.length ∧ i ≤ xs3.length ∧ (i = xs1.length ∨ i = xs2.length ∨ i = xs3.length)⟩
theorem turn_zip3 {P : Program} {w : World} {K : PySem.W.Frag} {elts : List Expr} {kk : Nat} {tpos : Pos} {z1 z2 z3 : ZS} {n : Nat} (l1 : z1.lt n) (l2 : z2.lt n) (l3 : z3.lt n) :
    Turn P w K (.Tuple elts kk tpos) (Itz3 K z1 z2 z3) [n + 5, n + 3, n + 4, n, n + 1, n + 2] (n + 5) (fun i h => IsZip h (n + 5) (n + 3) (n + 4) .none ∧ IsTupOf3 h (n + 3) (.ref (n)) (.ref (n + 1)) (.ref (n + 2)) ∧ (∃ x1 x2 x3, IsTupOf3 h (n + 4) x1 x2 x3) ∧ z1.it (n) i h ∧ z2.it (n + 1) i h ∧ z3.it (n + 2) i h) where
  mem := List.mem_cons_self
  obj := fun i h st c hc => by
    obtain ⟨hz, hTI, ⟨x1, x2, x3, hTO⟩, st1, st2, st3⟩ := st
    have e' : c = n + 5 ∨ c = n + 3 ∨ c = n + 4 ∨ c = n ∨ c = n + 1 ∨ c = n + 2 := by simpa using hc
    rcases e' with q | q | q | q | q | q
    · rw [q]; exact ⟨_, hz, fun v q => nomatch q⟩
    · rw [q]; exact ⟨_, hTI, fun v q => nomatch q⟩
    · rw [q]; exact ⟨_, hTO, fun v q => nomatch q⟩
    · rw [q]; exact ZS.obj (z := z1) st1
    · rw [q]; exact ZS.obj (z := z2) st2
    · rw [q]; exact ZS.obj (z := z3) st3
  keep := fun i h h' st k => by
    obtain ⟨hz, hTI, ⟨x1, x2, x3, hTO⟩, st1, st2, st3⟩ := st
    exact ⟨k _ (by simp) _ hz, k _ (by simp) _ hTI, ⟨x1, x2, x3, k _ (by simp) _ hTO⟩, ZS.move (z := z1) (fun o q => k _ (by simp) o q) st1, ZS.move (z := z2) (fun o q => k _ (by simp) o q) st2, ZS.move (z := z3) (fun o q => k _ (by simp) o q) st3⟩
  item := by
    intro X hP hw hK hc i pins s σ H E I hf st hg
    subst hP hw hK
    obtain ⟨hz, hTI, ⟨y1, y2, y3, hTO⟩, st1, st2, st3⟩ := st
    obtain ⟨xs1, xs2, xs3, x1, x2, x3, q1, q2, q3, h1, h2, h3⟩ := hg
    have hh : X.A.in1.handled = none := I.ok.hd hc
    obtain ⟨fp1, P1, St1, D1, m1, f1, s1, b1, p1⟩ := z1.draws (A := X.A.in1) I q1 hh (ZS.off_of (by omega) l1) st1
    have nf1 : ∀ c, n ≤ c → c ≠ n → c ∉ fp1 := fun c h1 h2 h3 => by
      rcases f1 c h3 with e | e
      · exact h2 e
      · exact e (ZS.off_of h1 l1)
    obtain ⟨fp2, P2, St2, D2, m2, f2, s2, b2, p2⟩ := z2.draws (A := X.A.in1) I q2 hh (ZS.off_of (by omega) l2) st2
    have nf2 : ∀ c, n ≤ c → c ≠ n + 1 → c ∉ fp2 := fun c h1 h2 h3 => by
      rcases f2 c h3 with e | e
      · exact h2 e
      · exact e (ZS.off_of h1 l2)
    obtain ⟨fp3, P3, St3, D3, m3, f3, s3, b3, p3⟩ := z3.draws (A := X.A.in1) I q3 hh (ZS.off_of (by omega) l3) st3
    have nf3 : ∀ c, n ≤ c → c ≠ n + 2 → c ∉ fp3 := fun c h1 h2 h3 => by
      rcases f3 c h3 with e | e
      · exact h2 e
      · exact e (ZS.off_of h1 l3)
    have t1 : i < xs1.length := (List.getElem?_eq_some_iff.mp h1).1
    have t2 : i < xs2.length := (List.getElem?_eq_some_iff.mp h2).1
    have t3 : i < xs3.length := (List.getElem?_eq_some_iff.mp h3).1
    have hzl : n + 5 < s.heap.objs.size := Heap.lt_size hz
    have S : ZipSep3 (n + 5) (n + 3) (n + 4) (n) (n + 1) (n + 2) fp1 fp2 fp3 := { TIz := (ne' (a := n + 3) (b := n + 5) (by omega)), TOz := (ne' (a := n + 4) (b := n + 5) (by omega)), TITO := (ne' (a := n + 3) (b := n + 4) (by omega)), TIi1 := (ne' (a := n + 3) (b := n) (by omega)), mem1 := m1, zf1 := nf1 (n + 5) (by omega) (ne' (a := n + 5) (b := n) (by omega)), Tf1 := nf1 (n + 4) (by omega) (ne' (a := n + 4) (b := n) (by omega)), TIi2 := (ne' (a := n + 3) (b := n + 1) (by omega)), mem2 := m2, zf2 := nf2 (n + 5) (by omega) (ne' (a := n + 5) (b := n + 1) (by omega)), Tf2 := nf2 (n + 4) (by omega) (ne' (a := n + 4) (b := n + 1) (by omega)), TIi3 := (ne' (a := n + 3) (b := n + 2) (by omega)), mem3 := m3, zf3 := nf3 (n + 5) (by omega) (ne' (a := n + 5) (b := n + 2) (by omega)), Tf3 := nf3 (n + 4) (by omega) (ne' (a := n + 4) (b := n + 2) (by omega)), sep1_2 := nf2 (n) (by omega) (ne' (a := n) (b := n + 1) (by omega)), sep1_3 := nf3 (n) (by omega) (ne' (a := n) (b := n + 2) (by omega)), sep2_1 := nf1 (n + 1) (by omega) (ne' (a := n + 1) (b := n) (by omega)), sep2_3 := nf3 (n + 1) (by omega) (ne' (a := n + 1) (b := n + 2) (by omega)), sep3_1 := nf1 (n + 2) (by omega) (ne' (a := n + 2) (b := n) (by omega)), sep3_2 := nf2 (n + 2) (by omega) (ne' (a := n + 2) (b := n + 1) (by omega)) }
    refine wpAny_pyNext_zipD3_item S D1 D2 D3 hz hTI hTO s1 s2 s3 t1 t2 t3 fun u1 u2 u3 h' tk g1 g2 g3 z' TO' w1 w2 w3 hT hsz hk => ?_
    refine ⟨_, rfl, wpAny_letOwnedTupleGo_zip (s := { s with heap := h', toks := tk }) z' fun h'' z'' sb => ?_⟩
    obtain ⟨x1', e1, ru1⟩ := p1 i u1 g1
    rw [h1] at e1
    cases Option.some.inj e1
    obtain ⟨x2', e2, ru2⟩ := p2 i u2 g2
    rw [h2] at e2
    cases Option.some.inj e2
    obtain ⟨x3', e3, ru3⟩ := p3 i u3 g3
    rw [h3] at e3
    cases Option.some.inj e3
    have hT2 : h''.get? s.heap.objs.size = some { cls := .type "tuple", data := .seq #[u1, u2, u3] } := (sb.2 _ (Nat.ne_of_gt hzl)).trans hT
    have new : ObjOk X.prog X.w (upd H s.heap.objs.size (.tup [x1, x2, x3])) h'' s.heap.objs.size (.tup [x1, x2, x3]) :=
      ⟨by show 3 ≤ sizeLine; decide, [u1, u2, u3], .cons ru1 (.cons ru2 (.cons ru3 (.nil))), ⟨_, hT2, rfl, _, rfl⟩⟩
    have out5 : ∀ c, c ∉ [n + 5, n + 3, n + 4, n, n + 1, n + 2] → c ≠ n + 5 ∧ c ≠ n + 4 ∧ c ≠ n ∧ c ≠ n + 1 ∧ c ≠ n + 2 := fun c hb => ⟨fun q' => hb (by simp [q']), fun q' => hb (by simp [q']), fun q' => hb (by simp [q']), fun q' => hb (by simp [q']), fun q' => hb (by simp [q'])⟩
    have I1 : Inv X pins σ (upd H s.heap.objs.size (.tup [x1, x2, x3])) { s with heap := h'', toks := tk } :=
      I.turnedNew (t' := tk) (ch := [n + 5, n + 3, n + 4, n, n + 1, n + 2]) (fun c o hb q => by
        obtain ⟨a1, a2, b1', b2', b3'⟩ := out5 c hb
        exact (sb.2 c a1).trans (hk c o a1 a2 b1' b2' b3' q)) hf (Nat.le_refl _) new
    refine ⟨.ref s.heap.objs.size, _, I1, rfl, ⟨_, x1, x2, x3, rfl, I.hok.fresh (Nat.le_refl _), rfl, fun l hl => by rw [ZS.inj I hl q1]; exact h1, fun l hl => by rw [ZS.inj I hl q2]; exact h2, fun l hl => by rw [ZS.inj I hl q3]; exact h3⟩, ⟨z'', ?_, ⟨u1, u2, u3, ?_⟩, ?_, ?_, ?_⟩, fun c hcm => ?_⟩
    · exact (sb.2 (n + 3) (ne' (a := n + 3) (b := n + 5) (by omega))).trans (hk (n + 3) _ (ne' (a := n + 3) (b := n + 5) (by omega)) (ne' (a := n + 3) (b := n + 4) (by omega)) (ne' (a := n + 3) (b := n) (by omega)) (ne' (a := n + 3) (b := n + 1) (by omega)) (ne' (a := n + 3) (b := n + 2) (by omega)) hTI)
    · exact (sb.2 (n + 4) (ne' (a := n + 4) (b := n + 5) (by omega))).trans TO'
    · exact ZS.move (z := z1) (fun o q => (sb.2 (n) (ne' (a := n) (b := n + 5) (by omega))).trans q) (b1 _ _ w1)
    · exact ZS.move (z := z2) (fun o q => (sb.2 (n + 1) (ne' (a := n + 1) (b := n + 5) (by omega))).trans q) (b2 _ _ w2)
    · exact ZS.move (z := z3) (fun o q => (sb.2 (n + 2) (ne' (a := n + 2) (b := n + 5) (by omega))).trans q) (b3 _ _ w3)
    · have hlt : c < s.heap.objs.size := by
        have e' : c = n + 5 ∨ c = n + 3 ∨ c = n + 4 ∨ c = n ∨ c = n + 1 ∨ c = n + 2 := by simpa using hcm
        rcases e' with q | q | q | q | q | q
        · rw [q]; exact (show (n + 5 : Nat) < s.heap.objs.size by omega)
        · rw [q]; exact (show (n + 3 : Nat) < s.heap.objs.size by omega)
        · rw [q]; exact (show (n + 4 : Nat) < s.heap.objs.size by omega)
        · rw [q]; exact (show (n : Nat) < s.heap.objs.size by omega)
        · rw [q]; exact (show (n + 1 : Nat) < s.heap.objs.size by omega)
        · rw [q]; exact (show (n + 2 : Nat) < s.heap.objs.size by omega)
      rw [upd_ne (Nat.ne_of_lt hlt)]
      exact (hf c hcm).1
  done := by
    intro X hP hw hK hc i pins s σ H E I hf st hg
    subst hP hw hK
    obtain ⟨hz, hTI, ⟨y1, y2, y3, hTO⟩, st1, st2, st3⟩ := st
    obtain ⟨xs1, xs2, xs3, q1, q2, q3, t1, t2, t3, hend⟩ := hg
    have hh : X.A.in1.handled = none := I.ok.hd hc
    obtain ⟨fp1, P1, St1, D1, m1, f1, s1, b1, p1⟩ := z1.draws (A := X.A.in1) I q1 hh (ZS.off_of (by omega) l1) st1
    have nf1 : ∀ c, n ≤ c → c ≠ n → c ∉ fp1 := fun c h1 h2 h3 => by
      rcases f1 c h3 with e | e
      · exact h2 e
      · exact e (ZS.off_of h1 l1)
    obtain ⟨fp2, P2, St2, D2, m2, f2, s2, b2, p2⟩ := z2.draws (A := X.A.in1) I q2 hh (ZS.off_of (by omega) l2) st2
    have nf2 : ∀ c, n ≤ c → c ≠ n + 1 → c ∉ fp2 := fun c h1 h2 h3 => by
      rcases f2 c h3 with e | e
      · exact h2 e
      · exact e (ZS.off_of h1 l2)
    obtain ⟨fp3, P3, St3, D3, m3, f3, s3, b3, p3⟩ := z3.draws (A := X.A.in1) I q3 hh (ZS.off_of (by omega) l3) st3
    have nf3 : ∀ c, n ≤ c → c ≠ n + 2 → c ∉ fp3 := fun c h1 h2 h3 => by
      rcases f3 c h3 with e | e
      · exact h2 e
      · exact e (ZS.off_of h1 l3)
    have S : ZipSep3 (n + 5) (n + 3) (n + 4) (n) (n + 1) (n + 2) fp1 fp2 fp3 := { TIz := (ne' (a := n + 3) (b := n + 5) (by omega)), TOz := (ne' (a := n + 4) (b := n + 5) (by omega)), TITO := (ne' (a := n + 3) (b := n + 4) (by omega)), TIi1 := (ne' (a := n + 3) (b := n) (by omega)), mem1 := m1, zf1 := nf1 (n + 5) (by omega) (ne' (a := n + 5) (b := n) (by omega)), Tf1 := nf1 (n + 4) (by omega) (ne' (a := n + 4) (b := n) (by omega)), TIi2 := (ne' (a := n + 3) (b := n + 1) (by omega)), mem2 := m2, zf2 := nf2 (n + 5) (by omega) (ne' (a := n + 5) (b := n + 1) (by omega)), Tf2 := nf2 (n + 4) (by omega) (ne' (a := n + 4) (b := n + 1) (by omega)), TIi3 := (ne' (a := n + 3) (b := n + 2) (by omega)), mem3 := m3, zf3 := nf3 (n + 5) (by omega) (ne' (a := n + 5) (b := n + 2) (by omega)), Tf3 := nf3 (n + 4) (by omega) (ne' (a := n + 4) (b := n + 2) (by omega)), sep1_2 := nf2 (n) (by omega) (ne' (a := n) (b := n + 1) (by omega)), sep1_3 := nf3 (n) (by omega) (ne' (a := n) (b := n + 2) (by omega)), sep2_1 := nf1 (n + 1) (by omega) (ne' (a := n + 1) (b := n) (by omega)), sep2_3 := nf3 (n + 1) (by omega) (ne' (a := n + 1) (b := n + 2) (by omega)), sep3_1 := nf1 (n + 2) (by omega) (ne' (a := n + 2) (b := n) (by omega)), sep3_2 := nf2 (n + 2) (by omega) (ne' (a := n + 2) (b := n + 1) (by omega)) }
    exact wpAny_pyNext_zipD3_end S D1 D2 D3 hz hTI hTO s1 s2 s3 t1 t2 t3 hend fun h' tk hk => ⟨rfl, I.turnedL (t' := tk) (ch := [n + 5, n + 3, n + 4, n, n + 1, n + 2]) (fun c o hb q =>
      hk c o (fun q' => hb (by simp [q'])) (fun q' => hb (by simp [q'])) (fun q' => hb (by simp [q'])) (fun q' => hb (by simp [q'])) (fun q' => hb (by simp [q'])) q) hf⟩
  self := fun A i s Q E st h => wpAny_pyIter_zip st.1 h
def iZip3 (K : PySem.W.Frag) (ta : TA) : TI := fun σ H R => ta σ H fun vs H1 => ∃ (z1 z2 z3 : ZS) (xs1 xs2 xs3 : List V), vs = [z1.val, z2.val, z3.val] ∧ z1.at K H1 xs1 ∧ z2.at K H1 xs2 ∧ z3.at K H1 xs3 ∧ R (Itz3 K z1 z2 z3) H1
theorem pi_zip3 {X : Cx} {e e2 e3 : Expr} {ta : TA} {p pos tpos : Pos} {elts : List Expr} {kk : Nat} (hg : Gl X "zip") (hm : X.mg "zip" = none) (ha : PA X [e, e2, e3] ta)
    (hs : starEach [e, e2, e3] X.env = (false, eval e X.env) :: starEach [e2, e3] X.env := by rfl) (hpl : (backTo pos (starEach [e2, e3] X.env)).any (·.1) = false := by rfl) :
    PI X (.Tuple elts kk tpos) (.Call (.Name "zip" p) [e, e2, e3] [] pos) (iZip3 X.K ta) := by
  refine ⟨fun pins s σ H R I h => ?_⟩
  refine Call_ (ld_blt I hg hm PyProof.Rows.boot_zip (PyProof.Rows.callWith_type1 (thn (ha.run pos pins s σ H _ I h) fun us s1 ⟨vs, H1, I1, r1, q1⟩ => ?_) hs hpl))
  obtain ⟨z1, z2, z3, xs1, xs2, xs3, ex, q1, q2, q3, q⟩ := q1
  subst ex
  cases r1 with
  | cons r1 rr =>
    cases rr with
    | cons r2 rr =>
      cases rr with
      | cons r3 rr =>
        cases rr
        obtain ⟨o1, G1, B1, h1, i1, l1⟩ := z1.begins I1 q1 r1
        obtain ⟨o2, G2, B2, h2, i2, l2⟩ := z2.begins I1 q2 r2
        obtain ⟨o3, G3, B3, h3, i3, l3⟩ := z3.begins I1 q3 r3
        have fresh5 : ∀ c, c ∈ [s1.heap.objs.size + 5, s1.heap.objs.size + 3, s1.heap.objs.size + 4, s1.heap.objs.size, s1.heap.objs.size + 1, s1.heap.objs.size + 2] → FpOk X pins H1 c := fun c hcm => by
          have e' : c = s1.heap.objs.size + 5 ∨ c = s1.heap.objs.size + 3 ∨ c = s1.heap.objs.size + 4 ∨ c = s1.heap.objs.size ∨ c = s1.heap.objs.size + 1 ∨ c = s1.heap.objs.size + 2 := by simpa using hcm
          have hle : s1.heap.objs.size ≤ c := by omega
          exact I1.fpOk hle (I1.hok.fresh hle)
        refine zip_begins3 B1 B2 B3 h1 h2 h3 fun h' hz hTI hTO g1 g2 g3 hsz hk => wpAny_pyIter_zip hz ?_
        have I2 : Inv X pins σ H1 { s1 with heap := h' } := I1.kept (t' := s1.toks) hk
        exact ⟨s1.heap.objs.size + 5, [s1.heap.objs.size + 5, s1.heap.objs.size + 3, s1.heap.objs.size + 4, s1.heap.objs.size, s1.heap.objs.size + 1, s1.heap.objs.size + 2], _, _, H1, rfl, I2, turn_zip3 l1 l2 l3, ⟨hz, hTI, ⟨_, _, _, hTO⟩, i1 _ _ g1, i2 _ _ g2, i3 _ _ g3⟩, fresh5, q⟩
theorem for_zip3 {K : PySem.W.Frag} {z1 z2 z3 : ZS} {xs1 xs2 xs3 : List V} {n : Nat} {g : TG} {tb : TS} {D : Ends} {σ : L2.St} {H : Hp} (n1 : xs1.length = n) (n2 : xs2.length = n) (n3 : xs3.length = n) (Pv : Nat → L2.St → Hp → Prop) (h0 : Pv 0 σ H) (hl : ∀ i σ H, i ≤ n → Pv i σ H → z1.at K H xs1 ∧ z2.at K H xs2 ∧ z3.at K H xs3)
    (hs : ∀ (i : Nat) (x1 x2 x3 : V) (T : Addr) (σ : L2.St) (H : Hp), xs1[i]? = some x1 → xs2[i]? = some x2 → xs3[i]? = some x3 → H T = none → Pv i σ H → g (.ref T) σ (upd H T (.tup [x1, x2, x3])) fun σ2 H2 => tb { D with nx := Pv (i + 1), ct := Pv (i + 1), bk := D.nx } σ2 H2) (hd : ∀ σ H, Pv n σ H → D.nx σ H) :
    ∃ W : Nat → Nat → L2.St → Hp → Prop, (∃ m, W 0 m σ H) ∧ ∀ i m σ H, W i m σ H →
      ((Itz3 K z1 z2 z3).stop i H ∧ D.nx σ H) ∨ ((Itz3 K z1 z2 z3).go i H ∧ ∃ N : L2.St → Hp → Prop, (∀ σ' H', N σ' H' → ∃ m', m' < m ∧ W (i + 1) m' σ' H') ∧ ∀ v H', (Itz3 K z1 z2 z3).yld i H v H' → g v σ H' fun σ2 H2 => tb { D with nx := N, ct := N, bk := D.nx } σ2 H2) := by
  refine ⟨fun i m σ H => m = n - i ∧ i ≤ n ∧ Pv i σ H, ⟨n, rfl, Nat.zero_le _, h0⟩, ?_⟩
  rintro i m σ H ⟨rfl, hi, p⟩
  obtain ⟨q1, q2, q3⟩ := hl i σ H hi p
  by_cases hlt : i < n
  · have e1 : xs1[i]? = some (xs1[i]'(by omega)) := List.getElem?_eq_getElem _
    have e2 : xs2[i]? = some (xs2[i]'(by omega)) := List.getElem?_eq_getElem _
    have e3 : xs3[i]? = some (xs3[i]'(by omega)) := List.getElem?_eq_getElem _
    refine .inr ⟨⟨xs1, xs2, xs3, _, _, _, q1, q2, q3, e1, e2, e3⟩, Pv (i + 1), fun σ' H' p' => ⟨n - (i + 1), by omega, rfl, hlt, p'⟩, fun v H' y => ?_⟩
    obtain ⟨T, y1, y2, y3, rfl, hT, rfl, f1, f2, f3⟩ := y
    exact hs i y1 y2 y3 T σ H (f1 xs1 q1) (f2 xs2 q2) (f3 xs3 q3) hT p
  · have e : i = n := by omega
    subst e
    exact .inl ⟨⟨xs1, xs2, xs3, q1, q2, q3, by omega, by omega, by omega, .inl (by omega)⟩, hd σ H p⟩
theorem lc_zip3 {K : PySem.W.Frag} {z1 z2 z3 : ZS} {xs1 xs2 xs3 : List V} {n : Nat} {g : TG} {tt : TT} {te : TE} {vs : List Nat} {σ : L2.St} {H1 : Hp} {D : Addr} {Qd : Hp → Prop} (n1 : xs1.length = n) (n2 : xs2.length = n) (n3 : xs3.length = n) (Pv : Nat → Hp → Prop) (h0 : Pv 0 (upd H1 D (.lst []))) (hl : ∀ i H, i ≤ n → Pv i H → z1.at K H xs1 ∧ z2.at K H xs2 ∧ z3.at K H xs3)
    (hs : ∀ (i : Nat) (x1 x2 x3 : V) (T : Addr) (H : Hp), xs1[i]? = some x1 → xs2[i]? = some x2 → xs3[i]? = some x3 → H T = none → Pv i H → g (.ref T) (wipe σ vs) (upd H T (.tup [x1, x2, x3])) fun σ2 H2 => wipe σ2 vs = wipe σ vs ∧ tt σ2 H2 fun b H3 =>
      if b = true then te σ2 H3 fun y H4 => ∃ acc, H4 D = some (.lst acc) ∧ acc.length < sizeLine ∧ Pv (i + 1) (upd H4 D (.lst (acc ++ [y]))) else Pv (i + 1) H3) (hd : ∀ H, Pv n H → Qd H) :
    ∃ W : Nat → Nat → Hp → Prop, (∃ m, W 0 m (upd H1 D (.lst []))) ∧ ∀ i m H, W i m H →
      ((Itz3 K z1 z2 z3).stop i H ∧ Qd H) ∨ ((Itz3 K z1 z2 z3).go i H ∧ ∃ Nx : Hp → Prop, (∀ H', Nx H' → ∃ m', m' < m ∧ W (i + 1) m' H') ∧ ∀ x H', (Itz3 K z1 z2 z3).yld i H x H' → g x (wipe σ vs) H' fun σ2 H2 => wipe σ2 vs = wipe σ vs ∧ tt σ2 H2 fun b H3 =>
        if b = true then te σ2 H3 fun y H4 => ∃ acc, H4 D = some (.lst acc) ∧ acc.length < sizeLine ∧ Nx (upd H4 D (.lst (acc ++ [y]))) else Nx H3) := by
  refine ⟨fun i m H => m = n - i ∧ i ≤ n ∧ Pv i H, ⟨n, by simp, Nat.zero_le _, h0⟩, ?_⟩
  rintro i m H ⟨rfl, hi, p⟩
  obtain ⟨q1, q2, q3⟩ := hl i H hi p
  by_cases hlt : i < n
  · have e1 : xs1[i]? = some (xs1[i]'(by omega)) := List.getElem?_eq_getElem _
    have e2 : xs2[i]? = some (xs2[i]'(by omega)) := List.getElem?_eq_getElem _
    have e3 : xs3[i]? = some (xs3[i]'(by omega)) := List.getElem?_eq_getElem _
    refine .inr ⟨⟨xs1, xs2, xs3, _, _, _, q1, q2, q3, e1, e2, e3⟩, Pv (i + 1), fun H' p' => ⟨n - (i + 1), by omega, rfl, hlt, p'⟩, fun v H' y => ?_⟩
    obtain ⟨T, y1, y2, y3, rfl, hT, rfl, f1, f2, f3⟩ := y
    exact hs i y1 y2 y3 T H (f1 xs1 q1) (f2 xs2 q2) (f3 xs3 q3) hT p
  · have e : i = n := by omega
    subst e
    exact .inl ⟨⟨xs1, xs2, xs3, q1, q2, q3, by omega, by omega, by omega, .inl (by omega)⟩, hd H p⟩
theorem gx_zip3 {α : Type} {K : PySem.W.Frag} {z1 z2 z3 : ZS} {xs1 xs2 xs3 : List V} {n : Nat} {g : TG} {tt : TT} {te : TE} {vs : List Nat} {σ0 : L2.St} {End : α → Hp → Prop} {Yd : α → V → Hp → (α → Hp → Prop) → Prop} {a0 : α} {H0 : Hp} (n1 : xs1.length = n) (n2 : xs2.length = n) (n3 : xs3.length = n) (Pv : Nat → α → Hp → Prop) (h0 : Pv 0 a0 H0) (hl : ∀ i c H, i ≤ n → Pv i c H → z1.at K H xs1 ∧ z2.at K H xs2 ∧ z3.at K H xs3)
    (hs : ∀ (i : Nat) (x1 x2 x3 : V) (T : Addr) (c : α) (H : Hp), xs1[i]? = some x1 → xs2[i]? = some x2 → xs3[i]? = some x3 → H T = none → Pv i c H → g (.ref T) σ0 (upd H T (.tup [x1, x2, x3])) fun σ2 H2 => wipe σ2 vs = σ0 ∧ tt σ2 H2 fun b H3 => if b = true then te σ2 H3 fun y H4 => Yd c y H4 (Pv (i + 1)) else Pv (i + 1) c H3) (hd : ∀ c H, Pv n c H → End c H) :
    ∃ W : Nat → Nat → α → Hp → Prop, (∃ m, W 0 m a0 H0) ∧ tGx (Itz3 K z1 z2 z3) g tt te σ0 vs End Yd W := by
  refine ⟨fun i m c H => m = n - i ∧ i ≤ n ∧ Pv i c H, ⟨n, rfl, Nat.zero_le _, h0⟩, ?_⟩
  rintro i m c H ⟨rfl, hi, p⟩
  obtain ⟨q1, q2, q3⟩ := hl i c H hi p
  by_cases hlt : i < n
  · have e1 : xs1[i]? = some (xs1[i]'(by omega)) := List.getElem?_eq_getElem _
    have e2 : xs2[i]? = some (xs2[i]'(by omega)) := List.getElem?_eq_getElem _
    have e3 : xs3[i]? = some (xs3[i]'(by omega)) := List.getElem?_eq_getElem _
    refine .inr ⟨⟨xs1, xs2, xs3, _, _, _, q1, q2, q3, e1, e2, e3⟩, Pv (i + 1), fun c' H' p' => ⟨n - (i + 1), by omega, rfl, hlt, p'⟩, fun v H' y => ?_⟩
    obtain ⟨T, y1, y2, y3, rfl, hT, rfl, f1, f2, f3⟩ := y
    exact hs i y1 y2 y3 T c H (f1 xs1 q1) (f2 xs2 q2) (f3 xs3 q3) hT p
  · have e : i = n := by omega
    subst e
    exact .inl ⟨⟨xs1, xs2, xs3, q1, q2, q3, by omega, by omega, by omega, .inl (by omega)⟩, hd c H p⟩
end ZpG

end Gk

set_option Elab.async false
set_option linter.all false
set_option maxRecDepth 100000
set_option maxHeartbeats 1000000
set_option pp.maxSteps 1500
set_option pp.deepTerms false
namespace Gk
open PySem PySem.Spec PyProof.Rows L2
section
variable {P : Program} {w : World} {K : PySem.W.Frag} {mg : Str → Option Value} {base : Heap}
/-! ### all waves of a net, or TooMany -/
def delsD (D : List (List Int)) : PyData := .tuple (D.map rowD)
theorem noL_wv (x : Int × List Int) : noL (wvD x) = true := by
  show (true && (noL (rowD x.2) && true)) = true
  rw [noL_row]
  rfl
def wav0 (a b : List Int) : List (Int × List Int) := (a.zip b).map fun p => (p.1, InWave p.1 p.2)
theorem wav0_len {a b : List Int} {m : Nat} (la : a.length = m) (lb : b.length = m) : (wav0 a b).length = m := by
  unfold wav0
  rw [List.length_map, List.length_zip, la, lb, Nat.min_self]
theorem wav0_ok {m : Nat} {gs : List Gt} {D : List (List Int)} {a b : List Int} (la : a.length = m) (lb : b.length = m) (ha : Row01 a) (hb : Row01 b) (okn : NetOk m gs) (sh : Shape gs D) : Wvs (wav0 a b) (valAt gs D a b) := fun r x e => by
  have hr : r < m := by
    have := (List.getElem?_eq_some_iff.mp e).1
    rw [wav0_len la lb] at this
    exact this
  unfold wav0 at e
  have h1 : a[r]? = some (a[r]'(by omega)) := List.getElem?_eq_getElem _
  have h2 : b[r]? = some (b[r]'(by omega)) := List.getElem?_eq_getElem _
  have hz : (a.zip b)[r]? = some (a[r]'(by omega), b[r]'(by omega)) := by rw [List.getElem?_zip_eq_some]; exact ⟨h1, h2⟩
  rw [List.getElem?_map, hz] at e
  cases Option.some.inj e
  refine (in_wv (ha _ (List.getElem_mem _)) (hb _ (List.getElem_mem _))).ext fun t => ?_
  rw [(val_ok la lb okn sh).i r t hr, List.getD_eq_getElem?_getD, List.getD_eq_getElem?_getD, h1, h2]
  rfl
theorem nV_at {ws : List Nat} {j : Nat} {v : V} (h : (nV ws)[j]? = some v) : ∃ k, ws[j]? = some k ∧ v = .int (k : Nat) := by
  obtain ⟨b, hb, rfl⟩ := vint_at h
  rw [List.getElem?_map] at hb
  obtain ⟨k, hk, e⟩ := Option.map_eq_some_iff.mp hb
  exact ⟨k, hk, by rw [← e]; rfl⟩
theorem lateW_len {ws : List (Int × List Int)} {ins : List Nat} {d : List Int} (h : d.length = ins.length) : (lateW ws ins d).length = ins.length := by
  unfold lateW
  rw [List.length_map, List.length_zip, h, Nat.min_self]
def FewW (m : Nat) (gs : List Gt) (D : List (List Int)) (a b : List Int) : Prop := ∀ r, r < m + gs.length → ∀ x, Wv x (valAt gs D a b r) → x.2.length ≤ 200
structure RunOk (m : Nat) (gs : List Gt) (D : List (List Int)) (a b : List Int) : Prop where
  okn : NetOk m gs
  sh : Shape gs D
  nn : NonNeg D
  la : a.length = m
  lb : b.length = m
  ha : Row01 a
  hb : Row01 b
theorem wav0_few {a b : List Int} : ∀ x ∈ wav0 a b, x.2.length ≤ 200 := fun x hx => by
  obtain ⟨e, _, rfl⟩ := List.mem_map.mp hx
  show (InWave e.1 e.2).length ≤ 200
  unfold InWave
  split <;> decide
def sp_waves_of (T : Tx K mg) : Sp := fun vs H Q E => ∃ (nv dv cv : V) (m : Nat) (gs : List Gt) (D : List (List Int)) (a b : List Int), vs = [nv, dv, cv] ∧ Tk H nv (netD m gs) ∧ Tk H dv (delsD D) ∧ Tk H cv (chD a b) ∧ RunOk m gs D a b ∧ m ≤ 1000 ∧ gs.length ≤ 1000 ∧ GxR.TabG H T.P_later ∧
  (∀ r H' ws, Gr H H' → Tk H' (.ref r) (.tuple (ws.map wvD)) → ws.length = m + gs.length → Wvs ws (valAt gs D a b) → (∀ x ∈ ws, x.2.length ≤ 200) → Q (.ref r) H') ∧ ∀ H' r x, Gr H H' → r < m + gs.length → Wv x (valAt gs D a b r) → 200 < x.2.length → E (.ref T.C_TooMany) none H'
theorem ok_waves_of (T : Tx K mg) (B : Tb base T) : FnOk P w K mg base (L2N.CX P w) 3 T.f_waves_of T.fd_waves_of ["net", "delays", "change"] (sp_waves_of T) := by
  refine GxE.okN T.F_waves_of sc_waves_of (fun vs H Q E h => ?_) (fun cdv A outer s H vs Q E hr h => ?_)
  · obtain ⟨nv, dv, cv, m, gs, D, a, b, rfl, _⟩ := h
    rfl
  · obtain ⟨nv, dv, cv, m, gs, D, a, b, rfl, tn, td, tc, ⟨okn, sh, nn, la, lb, ha, hb⟩, m1, g1, tab, q, no⟩ := h
    refine ⟨_, (pss_cons (ps_asg (pv 2) (pg_tup rfl (pgs_cons (pg_name (i := 3) sc_waves_of.nd rfl (by first | exact .inl rfl | exact .inr rfl)) (pgs_cons (pg_name (i := 4) sc_waves_of.nd rfl (by first | exact .inl rfl | exact .inr rfl)) pgs_nil)))) (pss_cons (ps_set (i := 5) sc_waves_of.nd rfl (by first | exact .inl rfl | exact .inr rfl) (pe_lc (own := [("before", 10), ("after", 11)]) (by rfl) sc_waves_of.nd (ZpG.pi_zip2 (by rfl) T.m_zip (pa_cons (pv 3) (pa_cons (pv 4) pa_nil))) (blkOk_by (own := [("before", 10), ("after", 11)]) (N := ["net", "delays", "change", "a", "b", "waves", "table", "ins", "lates", "wave", "before", "after", "wire", "late"]) (sc := defScope s_waves_of) (by decide +kernel)) (fun _ _ _ _ _ => (show PG _ _ (gTup K 2 _) from pg_tup rfl (pgs_cons (pg_name (i := 10) sc_waves_of.nd rfl (by first | exact .inl rfl | exact .inr rfl)) (pgs_cons (pg_name (i := 11) sc_waves_of.nd rfl (by first | exact .inl rfl | exact .inr rfl)) pgs_nil)))) (fun _ _ _ _ _ => pts_nil) (fun _ _ _ _ _ => (pe_call (ok_input_wave T) (hr.mono (by decide)) (by rfl) T.g_input_wave T.F_input_wave.kp T.b_input_wave .nil pass0 (pa_cons (pv 10) (pa_cons (pv 11) pa_nil)))))) (pss_cons (ps_for (L2.passes_of rfl) rfl (ZpG.pi_zip2 (by rfl) T.m_zip (pa_cons (pe_ix ix_tup (pv 0) pe_int (fun _ _ => rfl)) (pa_cons (pv 1) pa_nil))) (pg_tup rfl (pgs_cons (pg_tup rfl (pgs_cons (pg_name (i := 6) sc_waves_of.nd rfl (by first | exact .inl rfl | exact .inr rfl)) (pgs_cons (pg_name (i := 7) sc_waves_of.nd rfl (by first | exact .inl rfl | exact .inr rfl)) pgs_nil))) (pgs_cons (pg_name (i := 8) sc_waves_of.nd rfl (by first | exact .inl rfl | exact .inr rfl)) pgs_nil))) (pss_cons (ps_set (i := 9) sc_waves_of.nd rfl (by first | exact .inl rfl | exact .inr rfl) (pe_call (ok_gate_wave T) (hr.mono (by decide)) (by rfl) T.g_gate_wave T.F_gate_wave.kp T.b_gate_wave .nil pass0 (pa_cons (pv 6) (pa_cons (pe_lc (own := [("wire", 12), ("late", 13)]) (by rfl) sc_waves_of.nd (ZpG.pi_zip2 (by rfl) T.m_zip (pa_cons (pv 7) (pa_cons (pv 8) pa_nil))) (blkOk_by (own := [("wire", 12), ("late", 13)]) (N := ["net", "delays", "change", "a", "b", "waves", "table", "ins", "lates", "wave", "before", "after", "wire", "late"]) (sc := defScope s_waves_of) (by decide +kernel)) (fun _ _ _ _ _ => (show PG _ _ (gTup K 2 _) from pg_tup rfl (pgs_cons (pg_name (i := 12) sc_waves_of.nd rfl (by first | exact .inl rfl | exact .inr rfl)) (pgs_cons (pg_name (i := 13) sc_waves_of.nd rfl (by first | exact .inl rfl | exact .inr rfl)) pgs_nil)))) (fun _ _ _ _ _ => pts_nil) (fun _ _ _ _ _ => (pe_call (ok_later T B) (hr.mono (by decide)) (by rfl) T.g_later T.F_later.kp T.b_later .nil pass0 (pa_cons (pe_ix (show IxR _ (rIxL K) from ix_list) (pv 5) (pv 12) (fun _ _ => rfl)) (pa_cons (pv 13) pa_nil))))) pa_nil)))) (pss_cons (ps_if (pt_cmpR op_gt (pe_callB call_len_seq (by rfl) T.m_len PySem.boot_len (pa_cons (pe_ix ix_tup (pv 9) pe_int (fun _ _ => rfl)) pa_nil)) (pe_glob (v := .int 200) (by rfl) T.k_MOST_CHANGES.choose_spec ⟨_, rfl⟩) (nomark _)) (pss_one (L2N.ps_raise rfl GxE.takesE (L2N.pmk_own PySem.F.excBase_ValueError T.q_TooMany T.gC_TooMany T.kC_TooMany (raises_own T.su_TooMany T.ty_TooMany) (by rfl)))) pss_nil) (pss_one (ps_expr (pe_bm PySem.F.plainAttrs_list PySem.F.slot_list_append PySem.F.type_list_append mt_append (pv 5) (pa_cons (pv 9) pa_nil))))))) (pss_one (ps_ret (pe_callTy call_tuple_of (by rfl) T.m_tuple (by decide +kernel) (pa_cons (pv 5) pa_nil))))))), ?_⟩
    obtain ⟨c, ra, rb, rfl, hc, hra, hrb⟩ := tc.ch_inv
    obtain ⟨n, g, xs, rfl, hn, hg, tg⟩ := tn.net_inv
    obtain ⟨da, ds, rfl, hd, tds⟩ := td.tup_inv
    have lx : xs.length = gs.length := by rw [tg.length, List.length_map]
    have lD : ds.length = D.length := by rw [tds.length, List.length_map]
    refine ⟨.ref c, rfl, c, _, rfl, SqT.of hc, rfl, _, _, rfl, _, _, rfl, rfl, ?_⟩
    refine ⟨.ref ra, rfl, .ref rb, rfl, .tu ra, .tu rb, _, _, rfl, SqT.of hra, SqT.of hrb, fun W nW => ?_⟩
    refine ZpG.lc_zip2 (K := K) (z1 := .tu ra) (z2 := .tu rb) (xs1 := a.map V.int) (xs2 := b.map V.int) (n := m) (by rw [List.length_map, la]) (by rw [List.length_map, lb])
      (fun i H' => Same H (hd1 W H') ∧ ∃ vs, H' W = some (.lst vs) ∧ TkAll H' vs (((wav0 a b).take i).map wvD)) ⟨hd1_of (same_upd nW) nW, [], upd_same, .nil⟩ (fun i H' _ z => ⟨SqT.of (hd1_le _ _ (z.1 _ _ hra)), SqT.of (hd1_le _ _ (z.1 _ _ hrb))⟩) ?_ ?_
    · rintro i v1 v2 T' H1 h1 h2 nT ⟨s1, vs, hW, tv⟩
      obtain ⟨x, hx, rfl⟩ := vint_at h1
      obtain ⟨y, hy, rfl⟩ := vint_at h2
      have hi : i < m := by rw [← la]; exact (List.getElem?_eq_some_iff.mp hx).1
      have s2 := same_upd (o := HO.tup [V.int x, V.int y]) nT
      have h2' : upd H1 T' (HO.tup [V.int x, V.int y]) T' = some (.tup [V.int x, V.int y]) := upd_same
      generalize upd H1 T' (HO.tup [V.int x, V.int y]) = H2 at s2 h2' ⊢
      refine ⟨T', _, rfl, SqT.of h2', rfl, _, _, rfl, _, _, rfl, rfl, rfl, .int x, rfl, .int y, rfl, x, y, rfl, fun r H3 s3 tr => ?_⟩
      have s13 := s2.trans s3
      have hW3 := s13 _ _ hW
      have lv : vs.length = i := by rw [tv.length, List.length_map, List.length_take, wav0_len la lb]; omega
      have ts := Ts.set (ys := vs ++ [V.ref r]) hW3
      refine ⟨vs, hW3, ?_, (s1.trans (hd1_same s13)).trans hd1_upd, vs ++ [.ref r], upd_same, ?_⟩
      · exact Nat.lt_of_le_of_lt (show vs.length ≤ 1000 by omega) (by decide)
      · have e : (wav0 a b)[i]? = some (x, InWave x y) := by
          unfold wav0
          have hz : (a.zip b)[i]? = some (x, y) := by rw [List.getElem?_zip_eq_some]; exact ⟨hx, hy⟩
          rw [List.getElem?_map, hz]
          rfl
        rw [List.take_add_one, e, List.map_append]
        exact ((tv.same s13).ts ts (noLs_map noL_wv _)).append (.cons (tr.ts ts (noL_wv _)) .nil)
    · rintro H1 ⟨s1, vs, hW, tv⟩
      rw [List.take_of_length_le (by rw [wav0_len la lb]; exact Nat.le_refl _)] at tv
      have k1 : ∀ {b o}, H b = some o → H1 b = some o := fun e => hd1_le _ _ (s1 _ _ e)
      have gd1 : GrD W H H1 := Gr.of s1
      refine ⟨.ref n, rfl, n, _, 1, .ref g, rfl, rfl, SqT.of (k1 hn), rfl, .ref da, rfl, .tu g, .tu da, _, _, rfl, SqT.of (k1 hg), SqT.of (k1 hd), ?_⟩
      refine ZpG.for_zip2 (K := K) (z1 := .tu g) (z2 := .tu da) (xs1 := xs) (xs2 := ds) (n := gs.length) lx (by rw [lD, sh.1])
        (fun i σ H' => ∃ y6 y7 y8 y9 vs ws, σ = [some (.ref n), some (.ref da), some (.ref c), some (.ref ra), some (.ref rb), some (.ref W), y6, y7, y8, y9, none, none, none, none] ∧ GrD W H H' ∧ H' W = some (.lst vs) ∧ TkAll H' vs (ws.map wvD) ∧ ws.length = m + i ∧ Wvs ws (valAt gs D a b) ∧ ∀ x ∈ ws, x.2.length ≤ 200)
        ⟨_, _, _, _, vs, wav0 a b, rfl, gd1, hW, tv, by rw [wav0_len la lb]; rfl, wav0_ok la lb ha hb okn sh, wav0_few⟩ (fun i σ H' _ ⟨_, _, _, _, _, _, _, z, _⟩ => ⟨SqT.of (z.gr.tup hg), SqT.of (z.gr.tup hd)⟩) ?_ ?_
      · rintro i v1 v2 T' σ H2 h1 h2 nT ⟨y6, y7, y8, y9, vs, ws, rfl, gd2, hW2, tv2, lw, wok, few⟩
        obtain ⟨gt, hgt, tgt⟩ := tg.at h1
        obtain ⟨d, hdd, tdd⟩ := tds.at h2
        obtain ⟨ga, ii, rfl, hga, hii⟩ := tgt.gt_inv
        obtain ⟨dl, rfl, hdl⟩ := tdd.row_inv
        have okg := okn i gt hgt
        have ld := sh.2 i gt d hgt hdd
        have hi := (List.getElem?_eq_some_iff.mp hgt).1
        have s3 := same_upd (o := HO.tup [V.ref ga, V.ref dl]) nT
        have h3 : upd H2 T' (HO.tup [V.ref ga, V.ref dl]) T' = some (.tup [V.ref ga, V.ref dl]) := upd_same
        have gd3 := gd2.then hW2 (Gr.of s3)
        have hW3 := s3 _ _ hW2
        have tv3 := tv2.same s3
        generalize upd H2 T' (HO.tup [V.ref ga, V.ref dl]) = H3 at s3 h3 gd3 hW3 tv3 ⊢
        have hga3 := gd3.gr.tup hga
        have hii3 := gd3.gr.tup hii
        have hdl3 := gd3.gr.tup hdl
        refine ⟨T', _, rfl, SqT.of h3, rfl, _, _, rfl, ga, _, rfl, SqT.of hga3, rfl, _, _, rfl, _, _, rfl, rfl, _, _, rfl, rfl, ?_⟩
        refine ⟨.str (tabOf gt.1), rfl, .ref ii, rfl, .ref dl, rfl, .tu ii, .tu dl, _, _, rfl, SqT.of hii3, SqT.of hdl3, fun C nC => ?_⟩
        have lL := lateW_len (ws := ws) ld
        have few' : ∀ (r : Nat) (x : Int × List Int), ws[r]? = some x → x.2.length ≤ 200 := fun r x e => few x (List.mem_of_getElem? e)
        have lvs : vs.length = ws.length := by rw [tv3.length, List.length_map]
        refine ZpG.lc_zip2 (K := K) (z1 := .tu ii) (z2 := .tu dl) (xs1 := nV gt.2) (xs2 := d.map V.int) (n := gt.2.length) (nV_len _) (by rw [List.length_map, ld])
          (fun j H' => GrD C H3 H' ∧ ∃ us, H' C = some (.lst us) ∧ TkAll H' us (((lateW ws gt.2 d).take j).map wvD)) ⟨GrD.new nC, [], upd_same, .nil⟩ (fun j H' _ z => ⟨SqT.of (z.1.gr.tup hii3), SqT.of (z.1.gr.tup hdl3)⟩) ?_ ?_
        · rintro j v1 v2 T2 H4 h1 h2 nT2 ⟨gd4, us, hC4, tu4⟩
          obtain ⟨r, hr', rfl⟩ := nV_at h1
          obtain ⟨x, hx, rfl⟩ := vint_at h2
          have rl := okg.2.2.2 r (List.mem_of_getElem? hr')
          have s5 := same_upd (o := HO.tup [V.int (r : Nat), V.int x]) nT2
          have h5 : upd H4 T2 (HO.tup [V.int (r : Nat), V.int x]) T2 = some (.tup [V.int (r : Nat), V.int x]) := upd_same
          generalize upd H4 T2 (HO.tup [V.int (r : Nat), V.int x]) = H5 at s5 h5 ⊢
          have gd5 := gd4.then hC4 (Gr.of s5)
          have hC5 := s5 _ _ hC4
          have hW5 := gd5.gr.lst hW3
          have hw : ws[r]? = some (ws.getD r (0, [])) := by rw [List.getD_eq_getElem?_getD, List.getElem?_eq_getElem (by omega)]; rfl
          obtain ⟨wv', hv, tw⟩ := tv3.at' hw
          obtain ⟨wa, wt, rfl, _, _⟩ := tw.wv_inv
          have hj := (List.getElem?_eq_some_iff.mp hr').1
          refine ⟨T2, _, rfl, SqT.of h5, rfl, _, _, rfl, _, _, rfl, rfl, rfl, .ref W, rfl, .int (r : Nat), rfl, W, vs, ((r : Nat) : Int), .ref wa, rfl, rfl, SqL.of hW5, atI_nat hv, .int x, rfl, wa, ws.getD r (0, []), x, rfl, tw.gr gd5.gr, Nat.le_trans (few' r _ hw) (by decide), (gd3.gr.trans gd5.gr).2 _ tab, fun r2 H6 g6 t6 => ?_⟩
          have hC6 := g6.lst hC5
          have lu : us.length = j := by rw [tu4.length, List.length_map, List.length_take, lL]; omega
          have ts := Ts.set (ys := us ++ [V.ref r2]) hC6
          refine ⟨us, hC6, ?_, (gd5.then hC5 g6).set, us ++ [.ref r2], upd_same, ?_⟩
          · have := okg.2.2.1
            exact Nat.lt_of_le_of_lt (show us.length ≤ 3 by omega) (by decide)
          · have e : (lateW ws gt.2 d)[j]? = some (shiftW (ws.getD r (0, [])) x) := by
              unfold lateW
              have hz : (gt.2.zip d)[j]? = some (r, x) := by rw [List.getElem?_zip_eq_some]; exact ⟨hr', hx⟩
              rw [List.getElem?_map, hz]
              rfl
            rw [List.take_add_one, e, List.map_append]
            exact (((tu4.same s5).gr g6).ts ts (noLs_map noL_wv _)).append (.cons (t6.ts ts (noL_wv _)) .nil)
        · rintro H4 ⟨gd4, us, hC4, tu4⟩
          rw [List.take_of_length_le (by rw [lL]; exact Nat.le_refl _)] at tu4
          have okl := lateW_ok okn nn hgt hdd lw wok
          refine ⟨gt.1, C, us, lateW ws gt.2 d, rfl, hC4, tu4, by rw [lL]; exact okg.1, by rw [lL]; exact okg.2.2.1, fun x hx => ⟨okl x hx, ?_⟩, fun r2 H5 y s5 ty Wy => ?_⟩
          · obtain ⟨e, he, rfl⟩ := List.mem_map.mp hx
            have hrl := okg.2.2.2 e.1 (List.of_mem_zip (a := e.1) (b := e.2) he).1
            have hw : ws[e.1]? = some (ws.getD e.1 (0, [])) := by rw [List.getD_eq_getElem?_getD, List.getElem?_eq_getElem (by omega)]; rfl
            show ((ws.getD e.1 (0, [])).2.map _).length ≤ 10000
            rw [List.length_map]
            exact Nat.le_trans (few' _ _ hw) (by decide)
          have Wy' : Wv y (valAt gs D a b (m + i)) := Wy.ext fun t => lateW_V la lb okn sh nn hgt hdd lw wok t
          have g35 : Gr H3 H5 := gd4.gr.trans (Gr.of s5)
          have hW5 := g35.lst hW3
          obtain ⟨wa, wt, e, hwa, hwt⟩ := ty.wv_inv
          cases e
          refine ⟨.ref r2, rfl, r2, _, 1, .ref wt, rfl, rfl, SqT.of hwa, rfl, wt, _, rfl, .inr (SqT.of hwt), _, _, rfl, rfl, _, rfl, ite2 (fun e => ?_) (fun e => ?_)⟩
          · have e := of_decide_eq_true e
            rw [List.length_map] at e
            exact no _ (m + i) y (gd3.gr.trans g35) (by omega) Wy' (by omega)
          have ts := Ts.set (ys := vs ++ [V.ref r2]) hW5
          refine ⟨.ref W, rfl, .inl ⟨rfl, _, SqL.of hW5⟩, .ref r2, rfl, W, _, _, rfl, rfl, hW5, ?_, ?_⟩
          · exact Nat.lt_of_le_of_lt (show vs.length ≤ 2000 by omega) (by decide)
          refine ⟨_, _, _, _, vs ++ [.ref r2], ws ++ [y], rfl, (gd3.then hW3 g35).set, upd_same, ?_, by rw [List.length_append, lw]; rfl, wok.snoc (by rw [lw]; exact Wy'), fun x hx => ?_⟩
          · rw [List.map_append]
            exact ((tv3.gr g35).ts ts (noLs_map noL_wv _)).append (.cons (ty.ts ts (noL_wv _)) .nil)
          · rcases List.mem_append.mp hx with k | k
            · exact few x k
            · have z : ¬ ((y.2.map V.int).length : Int) > 200 := fun q => e (decide_eq_true q)
              rw [List.length_map] at z
              rw [List.mem_singleton.mp k]
              omega
      · rintro σ H2 ⟨y6, y7, y8, y9, vs, ws, rfl, gd2, hW2, tv2, lw, wok, few⟩
        refine ⟨.ref W, rfl, W, _, rfl, .inl ⟨SqL.of hW2, fun p np => ?_⟩⟩
        have s3 := same_upd (o := HO.tup vs) np
        exact q p _ ws (gd2.gr.trans (Gr.of s3)) (.tup upd_same (tv2.same s3)) lw wok few

end
end Gk

set_option Elab.async false
set_option linter.all false
set_option maxRecDepth 100000
set_option maxHeartbeats 1000000
set_option pp.maxSteps 1500
set_option pp.deepTerms false
namespace Gk
open PySem PySem.Spec PyProof.Rows L2
section
variable {P : Program} {w : World} {K : PySem.W.Frag} {mg : Str → Option Value} {base : Heap}
def rRepS : V → V → Hp → VK → Prop := fun x y H Q => ∃ (z : Str) (n : Int), x = .str z ∧ y = .int n ∧ z.length ≤ 16 ∧ 0 ≤ n ∧ n ≤ 1048576 ∧ Q (.str (Txt.mul z n)) H
theorem op_repS {X : Cx} : OpR X (binaryOp .Mult) rRepS := by
  intro pins s σ H x y v u Q I rx ry h
  obtain ⟨i, j, rfl, rfl, h1, h2, h3, q⟩ := h
  obtain ⟨t, rfl⟩ := rx
  obtain ⟨t', rfl⟩ := ry
  exact SB.mul (mulOk_of 16 1048576 h1 h3 (by omega) (by decide) (by decide)) fun t' tk => ⟨.str _, H, I.tok _, ⟨_, rfl⟩, q⟩

/-! ### what a draw keeps -/
theorem Ts.frF {H H' : Hp} {d l : Addr} {n : Int} (D : DeckF H d l n) (f : Fr d l H H') : Ts H H' := fun b xs e => by
  obtain ⟨ne, cs, z, y, hd, hl, r⟩ := D
  exact f b _ (ne_of e hd (by intro z; cases z)) (ne_of e hl (by intro z; cases z)) e
theorem tab_frF {H H' : Hp} {d l P : Addr} {n : Int} (D : DeckF H d l n) (f : Fr d l H H') (t : GxR.TabG H P) : GxR.TabG H' P := by
  obtain ⟨ps, e, tr⟩ := t
  obtain ⟨ne, cs, z, y, hd, hl, r⟩ := D
  exact ⟨ps, f _ _ (ne_of e hd (by intro z; cases z)) (ne_of e hl (by intro z; cases z)) e, tr⟩
theorem none_of_frF {d l p : Addr} {H H' : Hp} {n : Int} (f : Fr d l H H') (D : DeckF H' d l n) (h : H' p = none) : H p = none := by
  have o := D.off h
  cases z : H p with
  | none => rfl
  | some u => rw [f _ _ o.1 o.2 z] at h; cases h

/-! ### drawn tables (k07, k09 to k13) -/
def sg (b : Bool) : Str := SX.S [if b = true then 49 else 48]
theorem joinL_nil : ∀ l : List (List Nat), TL.joinL [] l = l.flatten
  | [] => rfl
  | [p] => by simp [TL.joinL]
  | p :: q :: r => by
    show p ++ ([] ++ TL.joinL [] (q :: r)) = _
    rw [joinL_nil (q :: r)]
    rfl
theorem join_sg (bs : List Bool) : Txt.join (Str.ofString "") (bs.map sg) = tabOf bs := by
  have e : bs.map sg = (bs.map fun b => [if b = true then 49 else 48]).map SX.S := by rw [List.map_map]; rfl
  have z : Str.ofString "" = SX.S [] := by decide +kernel
  rw [e, z, SX.join_S, joinL_nil]
  have : (bs.map fun b => [if b = true then 49 else 48]).flatten = bs.map fun b => if b = true then 49 else 48 := by
    clear e z
    induction bs with
    | nil => rfl
    | cons b r ih => rw [List.map_cons, List.flatten_cons, ih]; rfl
  rw [this]
  rfl
theorem zo_S : Str.ofString "01" = SX.S [48, 49] := by decide +kernel
theorem Fr.upd {d l p : Addr} {H H' : Hp} {o : HO} (f : Fr d l H H') (h : H p = none) : Fr d l H (upd H' p o) := fun b u h1 h2 e => by
  rw [upd_ne (ne_of_none e h)]
  exact f b u h1 h2 e
theorem size07 {k : Nat} (h : k = 1 ∨ k = 2 ∨ k = 3) : ∃ (N : Nat) (A B C : List Bool), 2 ^ k = N ∧ N ≤ 8 ∧ 2 ≤ N ∧ A.length = N ∧ B.length = N ∧ C.length = N ∧ atI [V.int 2, V.int 4, V.int 8] ((k : Int) - 1) = some (.int (N : Int)) ∧
    Txt.mul (Str.ofString "0") ((N : Int) - 1) ++ Str.ofString "1" = tabOf A ∧ Str.ofString "0" ++ Txt.mul (Str.ofString "1") ((N : Int) - 1) = tabOf B ∧
    (Txt.mul (Str.ofString "0") ((N : Int) - 1)).length = N - 1 ∧ (Txt.mul (Str.ofString "1") ((N : Int) - 1)).length = N - 1 ∧
    atI [V.str (Str.ofString "10"), V.str (Str.ofString "0110"), V.str (Str.ofString "01101001")] ((k : Int) - 1) = some (.str (tabOf C)) := by
  rcases h with rfl | rfl | rfl
  · exact ⟨2, [false, true], [false, true], [true, false], by decide, by decide, by decide, by decide, by decide, by decide, rfl, by decide +kernel, by decide +kernel, by decide +kernel, by decide +kernel, by decide +kernel⟩
  · exact ⟨4, [false, false, false, true], [false, true, true, true], [false, true, true, false], by decide, by decide, by decide, by decide, by decide, by decide, rfl, by decide +kernel, by decide +kernel, by decide +kernel, by decide +kernel, by decide +kernel⟩
  · exact ⟨8, [false, false, false, false, false, false, false, true], [false, true, true, true, true, true, true, true], [false, true, true, false, true, false, false, true], by decide, by decide, by decide, by decide, by decide, by decide, rfl, by decide +kernel, by decide +kernel, by decide +kernel, by decide +kernel, by decide +kernel⟩
def sp_table (K : PySem.W.Frag) : Sp := fun vs H Q _ => ∃ (d l : Addr) (n : Int) (k : Nat), vs = [.ref d, .int k] ∧ DeckF H d l n ∧ n < 100000000 ∧ 1 ≤ k ∧ k ≤ 3 ∧ ∀ H' bs, DeckF H' d l (n + 320) → Fr d l H H' → bs.length = 2 ^ k → Q (.str (tabOf bs)) H'
theorem ok_table (T : Tx K mg) : FnOk P w K mg base CX0 8 T.f_table T.fd_table ["_law_deck_here", "_law_many"] (sp_table K) := by
  refine T.F_table.ok sc_table (fun vs H Q E h => ?_) (fun cdv A outer s H vs Q E hr h => ?_)
  · obtain ⟨d, l, n, k, rfl, _⟩ := h
    rfl
  · obtain ⟨d, l, n, k, rfl, D, hn, k1, k3, q⟩ := h
    refine ⟨_, (pss_cons (ps_set (i := 2) sc_table.nd rfl (by first | exact .inl rfl | exact .inr rfl) (pe_call (ok_draw T) (hr.mono (by decide)) (by rfl) T.g_draw T.F_draw.kp T.b_draw .nil pass0 (pa_cons (pv 0) (pa_cons pe_int pa_nil)))) (pss_cons (ps_set (i := 3) sc_table.nd rfl (by first | exact .inl rfl | exact .inr rfl) (pe_ix ix_list (pe_lst (pa_cons pe_int (pa_cons pe_int (pa_cons pe_int pa_nil)))) (pe_op op_sub (pv 1) pe_int) (fun _ _ => rfl))) (pss_cons (ps_if (pt_cmpR op_eq (pv 2) pe_int (nomark _)) (pss_one (ps_ret (pe_op op_add_str (pe_op op_repS pe_str (pe_op op_sub (pv 3) pe_int)) pe_str))) pss_nil) (pss_cons (ps_if (pt_cmpR op_eq (pv 2) pe_int (nomark _)) (pss_one (ps_ret (pe_op op_add_str pe_str (pe_op op_repS pe_str (pe_op op_sub (pv 3) pe_int))))) pss_nil) (pss_cons (ps_if (pt_cmpR op_eq (pv 2) pe_int (nomark _)) (pss_one (ps_ret (pe_ix ix_list (pe_lst (pa_cons pe_str (pa_cons pe_str (pa_cons pe_str pa_nil)))) (pe_op op_sub (pv 1) pe_int) (fun _ _ => rfl)))) pss_nil) (pss_one (ps_ret (pe_join pe_str (pe_lc (own := [("_law_k", 4)]) (by rfl) sc_table.nd (pi_range1 (by rfl) T.m_range (pa_cons (pv 3) pa_nil)) (blkOk_by (own := [("_law_k", 4)]) (N := ["_law_deck_here", "_law_many", "_law_way", "_law_size", "_law_k"]) (sc := defScope s_table) (by decide +kernel)) (fun _ _ _ _ _ => (pg_name (i := 4) sc_table.nd rfl (by first | exact .inl rfl | exact .inr rfl))) (fun _ _ _ _ _ => pts_nil) (fun _ _ _ _ _ => (pe_item_str pe_str (pe_call (ok_draw T) (hr.mono (by decide)) (by rfl) T.g_draw T.F_draw.kp T.b_draw .nil pass0 (pa_cons (pv 0) (pa_cons pe_int pa_nil))) (fun _ _ => rfl)))))))))))), ?_⟩
    obtain ⟨N, A, B, C, hN, n8, n2, lA, lB, lC, a1, eA, eB, lA', lB', eC⟩ := size07 (show k = 1 ∨ k = 2 ∨ k = 3 by omega)
    rw [← hN] at lA lB lC
    refine ⟨.ref d, rfl, d, l, 6, n, rfl, D, by omega, by decide, by decide, fun H1 way D1 fr1 w0 w1 => ?_⟩
    refine ⟨sl3, fun p np => ?_⟩
    have s2 := same_upd (o := HO.lst [V.int 2, V.int 4, V.int 8]) np
    have h2 : upd H1 p (HO.lst [V.int 2, V.int 4, V.int 8]) p = some (.lst [V.int 2, V.int 4, V.int 8]) := upd_same
    generalize upd H1 p (HO.lst [V.int 2, V.int 4, V.int 8]) = H2 at s2 h2 ⊢
    have D2 := D1.same s2
    have fr2 := fr1.trans (Fr.of s2)
    refine ⟨.int k, rfl, _, _, rfl, rfl, p, _, (k : Int) - 1, _, rfl, rfl, SqL.of h2, a1, ?_⟩
    refine ⟨.int way, rfl, rfl, _, rfl, ite2 (fun _ => ?_) (fun _ => ?_)⟩
    · refine ⟨.int N, rfl, _, _, rfl, rfl, _, _, rfl, rfl, by decide, by omega, by omega, _, _, rfl, rfl, ?_, ?_⟩
      · rw [lA']
        exact Nat.le_trans (show N - 1 + 1 ≤ 8 by omega) (by decide)
      · rw [eA]
        exact q H2 A (D2.mono (by omega)) fr2 lA
    refine ⟨.int way, rfl, rfl, _, rfl, ite2 (fun _ => ?_) (fun _ => ?_)⟩
    · refine ⟨.int N, rfl, _, _, rfl, rfl, _, _, rfl, rfl, by decide, by omega, by omega, _, _, rfl, rfl, ?_, ?_⟩
      · rw [lB']
        exact Nat.le_trans (show 1 + (N - 1) ≤ 8 by omega) (by decide)
      · rw [eB]
        exact q H2 B (D2.mono (by omega)) fr2 lB
    refine ⟨.int way, rfl, rfl, _, rfl, ite2 (fun _ => ?_) (fun _ => ?_)⟩
    · refine ⟨sl3, fun p3 np3 => ?_⟩
      refine ⟨.int k, rfl, _, _, rfl, rfl, p3, _, (k : Int) - 1, _, rfl, rfl, SqL.of upd_same, eC, ?_⟩
      exact q _ C ((D2.same (same_upd np3)).mono (by omega)) (fr2.trans (Fr.new np3)) lC
    refine ⟨⟨_, rfl⟩, .int N, rfl, N, rfl, by omega, by omega, fun L nL => ?_⟩
    have oL := D2.off nL
    have nL0 : H L = none := none_of_frF fr2 D2 nL
    refine lc_range (lo := 0) (n := ((N : Nat) : Int).toNat) (fun i H' => DeckF H' d l (n + 32 + 32 * i) ∧ Fr d l H H' ∧ ∃ bs : List Bool, bs.length = i ∧ H' L = some (.lst (bs.map fun b => V.str (sg b)))) ⟨(D2.same (same_upd nL)).mono (by omega), fr2.trans (Fr.new nL), [], rfl, upd_same⟩ ?_ ?_
    · rintro i H6 hi ⟨D6, fr6, bs, lbs, hL⟩
      have hi' : i < N := by simpa using hi
      refine ⟨rfl, .ref d, rfl, d, l, 2, _, rfl, D6, by omega, by decide, by decide, fun H7 x D7 fr7 x0 x1 => ?_⟩
      have hL7 := fr7 _ _ oL.1 oL.2 hL
      refine ⟨Str.ofString "01", x, (if x = 1 then 49 else 48), rfl, rfl, x0, by omega, ?_, ?_, _, hL7, ?_, (D7.upd oL.1 oL.2).mono (by push_cast; omega), Fr.upd (fr6.trans fr7) nL0, bs ++ [decide (x = 1)], by rw [List.length_append, lbs]; rfl, ?_⟩
      · rw [zo_S, SX.S_len]
        exact x1
      · rw [zo_S]
        have : x = 0 ∨ x = 1 := by omega
        rcases this with rfl | rfl <;> rfl
      · rw [List.length_map, lbs]
        exact Nat.lt_of_lt_of_le (show i < 64 by omega) (by decide)
      · rw [upd_same, List.map_append]
        have : x = 0 ∨ x = 1 := by omega
        rcases this with rfl | rfl <;> rfl
    · rintro H6 ⟨D6, fr6, bs, lbs, hL⟩
      have lb : bs.length = 2 ^ k := by rw [lbs, hN]; simp
      refine ⟨Str.ofString "", L, bs.map sg, rfl, rfl, .inl (SqL.of (by rw [hL, List.map_map]; rfl)), ?_, ?_⟩
      · rw [List.map_map, List.length_map]
        have : (bs.map ((fun x => x.length) ∘ sg)).sum = bs.length := by
          clear hL lbs lb
          induction bs with
          | nil => rfl
          | cons b r ih =>
            rw [List.map_cons, List.sum_cons, ih, List.length_cons]
            cases b <;> (show 1 + _ = _; omega)
        rw [this]
        show bs.length + bs.length * 0 ≤ _
        have : bs.length ≤ 8 := by rw [lb, hN]; exact n8
        omega
      · rw [join_sg]
        exact q H6 bs (D6.mono (by
          have : (((N : Nat) : Int).toNat : Int) ≤ 8 := by omega
          omega)) fr6 lb

end
end Gk

set_option Elab.async false
set_option linter.all false
set_option maxRecDepth 100000
set_option maxHeartbeats 1000000
set_option pp.maxSteps 1500
set_option pp.deepTerms false
namespace Gk
open PySem PySem.Spec PyProof.Rows L2
section
variable {P : Program} {w : World} {K : PySem.W.Frag} {mg : Str → Option Value} {base : Heap}
/-! ### drawn rows, drawn delays -/
def sp_rows (K : PySem.W.Frag) : Sp := fun vs H Q _ => ∃ (d l : Addr) (n : Int) (m : Nat), vs = [.ref d, .int m] ∧ DeckF H d l n ∧ n < 100000000 ∧ m ≤ 100 ∧ ∀ r H' a b, DeckF H' d l (n + 64 * m + 32) → Fr d l H H' → Tk H' (.ref r) (chD a b) → a.length = m → b.length = m → Row01 a → Row01 b → Q (.ref r) H'
theorem ok_rows (T : Tx K mg) : FnOk P w K mg base CX0 8 T.f_rows T.fd_rows ["_law_deck_here", "_law_many"] (sp_rows K) := by
  refine T.F_rows.ok sc_rows (fun vs H Q E h => ?_) (fun cdv A outer s H vs Q E hr h => ?_)
  · obtain ⟨d, l, n, m, rfl, _⟩ := h
    rfl
  · obtain ⟨d, l, n, m, rfl, D, hn, hm, q⟩ := h
    refine ⟨_, (pss_cons (ps_set (i := 2) sc_rows.nd rfl (by first | exact .inl rfl | exact .inr rfl) (pe_callTy call_tuple_of (by rfl) T.m_tuple (by decide +kernel) (pa_cons (pe_lc (own := [("_law_k", 5)]) (by rfl) sc_rows.nd (pi_range1 (by rfl) T.m_range (pa_cons (pv 1) pa_nil)) (blkOk_by (own := [("_law_k", 5)]) (N := ["_law_deck_here", "_law_many", "_law_one", "_law_other", "_law_way", "_law_k", "_law_worth_here"]) (sc := defScope s_rows) (by decide +kernel)) (fun _ _ _ _ _ => (pg_name (i := 5) sc_rows.nd rfl (by first | exact .inl rfl | exact .inr rfl))) (fun _ _ _ _ _ => pts_nil) (fun _ _ _ _ _ => (pe_call (ok_draw T) (hr.mono (by decide)) (by rfl) T.g_draw T.F_draw.kp T.b_draw .nil pass0 (pa_cons (pv 0) (pa_cons pe_int pa_nil))))) pa_nil))) (pss_cons (ps_set (i := 3) sc_rows.nd rfl (by first | exact .inl rfl | exact .inr rfl) (pe_callTy call_tuple_of (by rfl) T.m_tuple (by decide +kernel) (pa_cons (pe_lc (own := [("_law_k", 5)]) (by rfl) sc_rows.nd (pi_range1 (by rfl) T.m_range (pa_cons (pv 1) pa_nil)) (blkOk_by (own := [("_law_k", 5)]) (N := ["_law_deck_here", "_law_many", "_law_one", "_law_other", "_law_way", "_law_k", "_law_worth_here"]) (sc := defScope s_rows) (by decide +kernel)) (fun _ _ _ _ _ => (pg_name (i := 5) sc_rows.nd rfl (by first | exact .inl rfl | exact .inr rfl))) (fun _ _ _ _ _ => pts_nil) (fun _ _ _ _ _ => (pe_call (ok_draw T) (hr.mono (by decide)) (by rfl) T.g_draw T.F_draw.kp T.b_draw .nil pass0 (pa_cons (pv 0) (pa_cons pe_int pa_nil))))) pa_nil))) (pss_cons (ps_set (i := 4) sc_rows.nd rfl (by first | exact .inl rfl | exact .inr rfl) (pe_call (ok_draw T) (hr.mono (by decide)) (by rfl) T.g_draw T.F_draw.kp T.b_draw .nil pass0 (pa_cons (pv 0) (pa_cons pe_int pa_nil)))) (pss_cons (ps_if (pt_cmpR op_eq (pv 4) pe_int (nomark _)) (pss_one (ps_ret (pe_tup (pa_cons (pv 2) (pa_cons (pv 2) pa_nil))))) pss_nil) (pss_cons (ps_if (pt_cmpR op_lt (pv 4) pe_int (nomark _)) (pss_one (ps_ret (pe_tup (pa_cons (pv 2) (pa_cons (pe_callTy call_tuple_of (by rfl) T.m_tuple (by decide +kernel) (pa_cons (pe_lc (own := [("_law_worth_here", 6)]) (by rfl) sc_rows.nd (pi_tup (pv 2)) (blkOk_by (own := [("_law_worth_here", 6)]) (N := ["_law_deck_here", "_law_many", "_law_one", "_law_other", "_law_way", "_law_k", "_law_worth_here"]) (sc := defScope s_rows) (by decide +kernel)) (fun _ _ _ _ _ => (pg_name (i := 6) sc_rows.nd rfl (by first | exact .inl rfl | exact .inr rfl))) (fun _ _ _ _ _ => pts_nil) (fun _ _ _ _ _ => (pe_op op_sub pe_int (pv 6)))) pa_nil)) pa_nil))))) pss_nil) (pss_one (ps_ret (pe_tup (pa_cons (pv 2) (pa_cons (pv 3) pa_nil)))))))))), ?_⟩
    refine ⟨.int m, rfl, m, rfl, by omega, by omega, fun I nI => ?_⟩
    have oI := D.off nI
    refine lc_range (lo := 0) (n := (m : Int).toNat) (fun j H' => DeckF H' d l (n + 32 * j) ∧ Fr d l H H' ∧ ∃ bs : List Int, H' I = some (.lst (bs.map V.int)) ∧ bs.length = j ∧ Row01 bs)
      ⟨(D.same (same_upd nI)).mono (by omega), Fr.new nI, [], upd_same, rfl, fun x hx => by cases hx⟩ ?_ ?_
    · rintro j H2 hj ⟨D2, fr2, bs, hI, lb, okb⟩
      have hj' : j < m := by simpa using hj
      refine ⟨rfl, .ref d, rfl, d, l, 2, _, rfl, D2, by omega, by decide, by decide, fun H3 x D3 fr3 x0 x1 => ?_⟩
      have hI3 := fr3 _ _ oI.1 oI.2 hI
      refine ⟨_, hI3, ?_, (D3.upd oI.1 oI.2).mono (by push_cast; omega), Fr.upd (fr2.trans fr3) nI, bs ++ [x], ?_, by rw [List.length_append, lb]; rfl, fun y hy => ?_⟩
      · rw [List.length_map, lb]
        exact Nat.lt_of_lt_of_le (show j < 128 by omega) (by decide)
      · rw [upd_same, List.map_append]
        rfl
      · rcases List.mem_append.mp hy with z | z
        · exact okb y z
        · rw [List.mem_singleton.mp z]; omega
    rintro H2 ⟨D2, fr2, a, hI, la', oka⟩
    have la : a.length = m := by rw [la']; simp
    refine ⟨I, _, rfl, .inl ⟨SqL.of hI, fun ta nta => ?_⟩⟩
    have s3 := same_upd (o := HO.tup (a.map V.int)) nta
    have h3 : upd H2 ta (HO.tup (a.map V.int)) ta = some (.tup (a.map V.int)) := upd_same
    have ota := D2.off nta
    have D3 := D2.same s3
    have fr3 := fr2.trans (Fr.of (d := d) (l := l) s3)
    generalize upd H2 ta (HO.tup (a.map V.int)) = H3 at s3 h3 D3 fr3 ⊢
    refine ⟨.int m, rfl, m, rfl, by omega, by omega, fun J nJ => ?_⟩
    have oJ := D3.off nJ
    have nJ0 := none_of_frF fr3 D3 nJ
    have taJ : ta ≠ J := ne_of_none h3 nJ
    refine lc_range (lo := 0) (n := (m : Int).toNat) (fun j H' => DeckF H' d l (n + 32 * m + 32 * j) ∧ Fr d l H H' ∧ H' ta = some (.tup (a.map V.int)) ∧ ∃ bs : List Int, H' J = some (.lst (bs.map V.int)) ∧ bs.length = j ∧ Row01 bs)
      ⟨(D3.same (same_upd nJ)).mono (by
        have : ((m : Int).toNat : Int) = m := by omega
        omega), fr3.trans (Fr.new nJ), same_upd nJ _ _ h3, [], upd_same, rfl, fun x hx => by cases hx⟩ ?_ ?_
    · rintro j H4 hj ⟨D4, fr4, h4, bs, hJ, lb, okb⟩
      have hj' : j < m := by simpa using hj
      refine ⟨rfl, .ref d, rfl, d, l, 2, _, rfl, D4, by omega, by decide, by decide, fun H5 x D5 fr5 x0 x1 => ?_⟩
      have hJ5 := fr5 _ _ oJ.1 oJ.2 hJ
      refine ⟨_, hJ5, ?_, (D5.upd oJ.1 oJ.2).mono (by push_cast; omega), Fr.upd (fr4.trans fr5) nJ0, by rw [upd_ne taJ]; exact fr5 _ _ ota.1 ota.2 h4, bs ++ [x], ?_, by rw [List.length_append, lb]; rfl, fun y hy => ?_⟩
      · rw [List.length_map, lb]
        exact Nat.lt_of_lt_of_le (show j < 128 by omega) (by decide)
      · rw [upd_same, List.map_append]
        rfl
      · rcases List.mem_append.mp hy with z | z
        · exact okb y z
        · rw [List.mem_singleton.mp z]; omega
    rintro H4 ⟨D4, fr4, h4, b, hJ, lb', okb⟩
    have lb : b.length = m := by rw [lb']; simp
    refine ⟨J, _, rfl, .inl ⟨SqL.of hJ, fun tb ntb => ?_⟩⟩
    have s5 := same_upd (o := HO.tup (b.map V.int)) ntb
    have h5 : upd H4 tb (HO.tup (b.map V.int)) tb = some (.tup (b.map V.int)) := upd_same
    have otb := D4.off ntb
    have D5 := D4.same s5
    have fr5 := fr4.trans (Fr.of (d := d) (l := l) s5)
    have h45 := s5 _ _ h4
    generalize upd H4 tb (HO.tup (b.map V.int)) = H5 at s5 h5 D5 fr5 h45 ⊢
    refine ⟨.ref d, rfl, d, l, 6, _, rfl, D5, by omega, by decide, by decide, fun H6 way D6 fr6 w0 w1 => ?_⟩
    have fr06 := fr5.trans fr6
    have ha6 := fr6 _ _ ota.1 ota.2 h45
    have hb6 := fr6 _ _ otb.1 otb.2 h5
    have em : ((m : Int).toNat : Int) = m := by omega
    refine ⟨.int way, rfl, rfl, _, rfl, ite2 (fun _ => ?_) (fun _ => ?_)⟩
    · refine ⟨.ref ta, rfl, .ref ta, rfl, sl2, fun r nr => ?_⟩
      have s7 := same_upd (o := HO.tup [V.ref ta, .ref ta]) nr
      exact q r _ a a ((D6.same s7).mono (by omega)) (fr06.trans (Fr.of s7)) (.tup upd_same (.cons (.tup (s7 _ _ ha6) (TkAll.ints _)) (.cons (.tup (s7 _ _ ha6) (TkAll.ints _)) .nil))) la la oka oka
    refine ⟨.int way, rfl, _, _, rfl, rfl, _, rfl, ite2 (fun _ => ?_) (fun _ => ?_)⟩
    · refine ⟨.ref ta, rfl, .ref ta, rfl, ta, rfl, ⟨_, SqT.of ha6⟩, fun C nC => ?_⟩
      have oC := D6.off nC
      have nC0 := none_of_frF fr06 D6 nC
      have sC := same_upd (o := HO.lst []) nC
      have taC : ta ≠ C := ne_of_none ha6 nC
      refine lc_tup (K := K) (a := ta) (xs := a.map V.int) (fun j H' => Same H6 (hd1 C H') ∧ H' C = some (.lst (((a.take j).map fun x => 1 - x).map V.int))) ⟨hd1_of (same_upd nC) nC, upd_same⟩ (fun j H' _ z => SqT.of (hd1_le _ _ (z.1 _ _ ha6))) ?_ ?_
      · rintro j v H7 hv ⟨s7, hC⟩
        obtain ⟨x, hx, rfl⟩ : ∃ b, a[j]? = some b ∧ v = V.int b := by
          rw [List.getElem?_map] at hv
          obtain ⟨b, hb, e⟩ := Option.map_eq_some_iff.mp hv
          exact ⟨b, hb, e.symm⟩
        refine ⟨rfl, .int x, rfl, _, _, rfl, rfl, _, hC, ?_, s7.trans hd1_upd, ?_⟩
        · rw [List.length_map, List.length_map, List.length_take]
          exact Nat.lt_of_le_of_lt (show min j a.length ≤ 100 by omega) (by decide)
        · rw [upd_same, List.take_add_one, hx, List.map_append, List.map_append]
          rfl
      · rintro H7 ⟨s7, hC⟩
        have e0 : (a.map V.int).length = a.length := List.length_map ..
        rw [e0, List.take_length] at hC
        have s67 : Same H6 H7 := fun b o e => hd1_le _ _ (s7 b o e)
        refine ⟨C, _, rfl, .inl ⟨SqL.of hC, fun tc ntc => ?_⟩⟩
        have s8 := same_upd (o := HO.tup ((a.map fun x => 1 - x).map V.int)) ntc
        have h8 : upd H7 tc (HO.tup ((a.map fun x => 1 - x).map V.int)) tc = some (.tup ((a.map fun x => 1 - x).map V.int)) := upd_same
        generalize upd H7 tc (HO.tup ((a.map fun x => 1 - x).map V.int)) = H8 at s8 h8 ⊢
        have s68 := s67.trans s8
        refine ⟨sl2, fun r nr => ?_⟩
        have s9 := same_upd (o := HO.tup [V.ref ta, .ref tc]) nr
        refine q r _ a (a.map fun x => 1 - x) (((D6.same s68).same s9).mono (by omega)) ((fr06.trans (Fr.of s68)).trans (Fr.of s9)) (.tup upd_same (.cons (.tup (s9 _ _ (s68 _ _ ha6)) (TkAll.ints _)) (.cons (.tup (s9 _ _ h8) (TkAll.ints _)) .nil))) la (by rw [List.length_map]; exact la) oka fun x hx => ?_
        obtain ⟨y, hy, rfl⟩ := List.mem_map.mp hx
        rcases oka y hy with z | z <;> omega
    · refine ⟨.ref ta, rfl, .ref tb, rfl, sl2, fun r nr => ?_⟩
      have s7 := same_upd (o := HO.tup [V.ref ta, .ref tb]) nr
      exact q r _ a b ((D6.same s7).mono (by omega)) (fr06.trans (Fr.of s7)) (.tup upd_same (.cons (.tup (s7 _ _ ha6) (TkAll.ints _)) (.cons (.tup (s7 _ _ hb6) (TkAll.ints _)) .nil))) la lb oka okb

end
end Gk

set_option Elab.async false
set_option linter.all false
set_option maxRecDepth 100000
set_option maxHeartbeats 1000000
set_option pp.maxSteps 1500
set_option pp.deepTerms false
namespace Gk
open PySem PySem.Spec PyProof.Rows L2
/-! ### l != [] of any list -/
namespace NeL
section
open PySem.W PySem.Calls HT
variable {X : Cx}
def rNeN (K : PySem.W.Frag) : R2 := fun x y H Q => ∃ a b xs, x = .ref a ∧ y = .ref b ∧ SqL K H a xs ∧ SqL K H b [] ∧ Q (.bl (!xs.isEmpty)) H
theorem op_neN (hu : X.A.units + 64 < cLine) : OpR X (compareOp .NotEq) (rNeN X.K) := by
  intro pins s σ H x y v u Q I rx ry h
  obtain ⟨a, b, xs, rfl, rfl, ha, hb, q⟩ := h
  cases rx
  cases ry
  obtain ⟨us, r1, t1, _⟩ := I.list ha
  obtain ⟨ws, r2, t2, _⟩ := I.list hb
  cases r2
  cases r1 with
  | nil => exact SeqAt.RcNeAt.lists (e := fun _ => true) t1.isList t2.isList rfl (by omega) (fun j h1 _ => absurd h1 (Nat.not_lt_zero _)) _ _ _ _ ⟨.bl false, H, I, rfl, q⟩
  | cons _ _ => exact SeqAt.RcNeAt.lists_lengths t1.isList t2.isList (by simp) (by omega) _ _ _ _ ⟨.bl true, H, I, rfl, q⟩
def rEqN (K : PySem.W.Frag) : R2 := fun x y H Q => ∃ a b xs, x = .ref a ∧ y = .ref b ∧ SqL K H a xs ∧ SqL K H b [] ∧ Q (.bl xs.isEmpty) H
theorem op_eqN (hu : X.A.units + 64 < cLine) : OpR X (compareOp .Eq) (rEqN X.K) := by
  intro pins s σ H x y v u Q I rx ry h
  obtain ⟨a, b, xs, rfl, rfl, ha, hb, q⟩ := h
  cases rx
  cases ry
  obtain ⟨us, r1, t1, _⟩ := I.list ha
  obtain ⟨ws, r2, t2, _⟩ := I.list hb
  cases r2
  cases r1 with
  | nil => exact SeqAt.RcAt.lists (e := fun _ => true) t1.isList t2.isList rfl (by omega) (fun j h1 _ => absurd h1 (Nat.not_lt_zero _)) _ _ _ _ ⟨.bl true, H, I, rfl, q⟩
  | cons _ _ => exact SeqAt.RcAt.lists_lengths t1.isList t2.isList (by simp) (by omega) _ _ _ _ ⟨.bl false, H, I, rfl, q⟩
end
end NeL

section
variable {P : Program} {w : World} {K : PySem.W.Frag} {mg : Str → Option Value} {base : Heap}
/-! ### drawn nets (k07, k09 to k13) -/
theorem NetOk.snoc {n : Nat} {gs : List Gt} {g : Gt} (h : NetOk n gs) (hg : GtOk (n + gs.length) g) : NetOk n (gs ++ [g]) := fun k g' e => by
  by_cases hk : k < gs.length
  · rw [List.getElem?_append_left hk] at e
    exact h k g' e
  · rw [List.getElem?_append_right (by omega)] at e
    cases hz : k - gs.length with
    | zero =>
      rw [hz] at e
      cases Option.some.inj e
      rw [show k = gs.length by omega]
      exact hg
    | succ j => rw [hz] at e; cases e
theorem back_nV {fl : List Nat} {x : Int} (x0 : 0 ≤ x) (xl : x < fl.length) : ∃ w ∈ fl, atI (nV fl) (-1 - x) = some (.int (w : Nat)) := by
  have e : ixN (nV fl).length (-1 - x) = some (fl.length - 1 - x.toNat) := by
    unfold ixN
    rw [nV_len, if_neg (by omega), if_pos (by omega)]
    congr 1
    omega
  have hk : fl.length - 1 - x.toNat < fl.length := by omega
  refine ⟨fl[fl.length - 1 - x.toNat], List.getElem_mem hk, ?_⟩
  unfold atI
  rw [e]
  show (nV fl)[fl.length - 1 - x.toNat]? = _
  unfold nV
  rw [List.getElem?_map, List.getElem?_map, List.getElem?_eq_getElem hk]
  rfl
def sp_net (K : PySem.W.Frag) : Sp := fun vs H Q _ => ∃ (d l : Addr) (n : Int) (c : Nat) (f : Bool), vs = [.ref d, .int c, .bl f] ∧ DeckF H d l n ∧ n < 10000000 ∧ 1 ≤ c ∧ c ≤ 100 ∧
  ∀ r H' m gs, DeckF H' d l (n + 64 + 640 * c) → Fr d l H H' → Tk H' (.ref r) (netD (m : Nat) gs) → 1 ≤ m → m ≤ 4 → gs.length = c → NetOk m gs → Q (.ref r) H'
theorem ok_net (T : Tx K mg) : FnOk P w K mg base CX0 9 T.f_net T.fd_net ["_law_deck_here", "_law_gates", "_law_formula"] (sp_net K) := by
  refine T.F_net.ok sc_net (fun vs H Q E h => ?_) (fun cdv A outer s H vs Q E hr h => ?_)
  · obtain ⟨d, l, n, c, f, rfl, _⟩ := h
    rfl
  · obtain ⟨d, l, n, c, f, rfl, D, hn, c1, c100, q⟩ := h
    refine ⟨_, (pss_cons (ps_set (i := 3) sc_net.nd rfl (by first | exact .inl rfl | exact .inr rfl) (pe_op op_add pe_int (pe_call (ok_draw T) (hr.mono (by decide)) (by rfl) T.g_draw T.F_draw.kp T.b_draw .nil pass0 (pa_cons (pv 0) (pa_cons pe_int pa_nil))))) (pss_cons (ps_set (i := 4) sc_net.nd rfl (by first | exact .inl rfl | exact .inr rfl) (pe_lst pa_nil)) (pss_cons (ps_set (i := 5) sc_net.nd rfl (by first | exact .inl rfl | exact .inr rfl) (pe_lst pa_nil)) (pss_cons (ps_for PassesOwn.never rfl (pi_range1 (by rfl) T.m_range (pa_cons (pv 1) pa_nil)) (pg_name (i := 6) sc_net.nd rfl (by first | exact .inl rfl | exact .inr rfl)) (pss_cons (ps_set (i := 7) sc_net.nd rfl (by first | exact .inl rfl | exact .inr rfl) (pe_lst pa_nil)) (pss_cons (ps_for PassesOwn.never rfl (pi_range1 (by rfl) T.m_range (pa_cons (pe_op op_add pe_int (pe_call (ok_draw T) (hr.mono (by decide)) (by rfl) T.g_draw T.F_draw.kp T.b_draw .nil pass0 (pa_cons (pv 0) (pa_cons pe_int pa_nil)))) pa_nil)) (pg_name (i := 8) sc_net.nd rfl (by first | exact .inl rfl | exact .inr rfl)) (pss_cons (ps_set (i := 9) sc_net.nd rfl (by first | exact .inl rfl | exact .inr rfl) (pe_call (ok_draw T) (hr.mono (by decide)) (by rfl) T.g_draw T.F_draw.kp T.b_draw .nil pass0 (pa_cons (pv 0) (pa_cons pe_int pa_nil)))) (pss_one (ps_if (pt_cut (pw_and (pt_cmpR op_gt (pv 9) pe_int (nomark _)) (pw_and1 (pt_cmpR (NeL.op_neN hr.units) (pv 4) (pe_lst pa_nil) (nomark _)))).pt) (pss_cons (ps_set (i := 10) sc_net.nd rfl (by first | exact .inl rfl | exact .inr rfl) (pe_ix ix_list (pv 4) (pe_op op_sub (pe_un un_neg pe_int) (pe_call (ok_draw T) (hr.mono (by decide)) (by rfl) T.g_draw T.F_draw.kp T.b_draw .nil pass0 (pa_cons (pv 0) (pa_cons (pe_callB (call_min2 rfl) (by rfl) T.m_min (by decide +kernel) (pa_cons (pe_callB call_len_seq (by rfl) T.m_len PySem.boot_len (pa_cons (pv 4) pa_nil)) (pa_cons pe_int pa_nil))) pa_nil)))) (fun _ _ => rfl))) (C8.pss_cut (ps_if (pt_val (pv 2)) (pss_one (ps_setLc (i := 4) (own := [("_law_one", 11)]) (by rfl) sc_net.nd rfl rfl (sw_true rfl rfl rfl (by decide +kernel)) (pi_list (pv 4)) (blkOk_by (own := [("_law_one", 11)]) (N := ["_law_deck_here", "_law_gates", "_law_formula", "_law_many", "_law_free", "_law_made", "_law_k", "_law_ins", "_law_place", "_law_way", "_law_wire", "_law_one"]) (sc := defScope s_net) (by decide +kernel)) (fun _ _ _ _ _ => (pg_name (i := 11) sc_net.nd rfl (by first | exact .inl rfl | exact .inr rfl))) (fun _ _ _ _ _ => (pts_one (pt_cmpR op_ne (pv 11) (pv 10) (nomark _)))) (fun _ _ _ _ _ => (pv 11)))) pss_nil) (pss_one (ps_expr (pe_bm PySem.F.plainAttrs_list PySem.F.slot_list_append PySem.F.type_list_append mt_append (pv 7) (pa_cons (pv 10) pa_nil)))))) (pss_one (ps_expr (pe_bm PySem.F.plainAttrs_list PySem.F.slot_list_append PySem.F.type_list_append mt_append (pv 7) (pa_cons (pe_call (ok_draw T) (hr.mono (by decide)) (by rfl) T.g_draw T.F_draw.kp T.b_draw .nil pass0 (pa_cons (pv 0) (pa_cons (pv 3) pa_nil))) pa_nil)))))))) (pss_cons (ps_expr (pe_bm PySem.F.plainAttrs_list PySem.F.slot_list_append PySem.F.type_list_append mt_append (pv 5) (pa_cons (pe_tup (pa_cons (pe_call (ok_table T) (hr.mono (by decide)) (by rfl) T.g_table T.F_table.kp T.b_table .nil pass0 (pa_cons (pv 0) (pa_cons (pe_callB call_len_seq (by rfl) T.m_len PySem.boot_len (pa_cons (pv 7) pa_nil)) pa_nil))) (pa_cons (pe_callTy call_tuple_of (by rfl) T.m_tuple (by decide +kernel) (pa_cons (pv 7) pa_nil)) pa_nil))) pa_nil))) (pss_one (ps_expr (pe_bm PySem.F.plainAttrs_list PySem.F.slot_list_append PySem.F.type_list_append mt_append (pv 4) (pa_cons (pe_op op_add (pv 3) (pv 6)) pa_nil)))))))) (pss_one (ps_ret (pe_tup (pa_cons (pv 3) (pa_cons (pe_callTy call_tuple_of (by rfl) T.m_tuple (by decide +kernel) (pa_cons (pv 5) pa_nil)) pa_nil))))))))), ?_⟩
    refine ⟨.ref d, rfl, d, l, 4, _, rfl, D, by omega, by decide, by decide, fun H1 x D1 fr1 x0 x1 => ⟨_, _, rfl, rfl, ?_⟩⟩
    obtain ⟨m, hm, m1, m4⟩ : ∃ m : Nat, 1 + x = (m : Int) ∧ 1 ≤ m ∧ m ≤ 4 := ⟨(1 + x).toNat, by omega, by omega, by omega⟩
    have em : (fun i j : Int => V.int (i + j)) 1 x = V.int m := by
      show V.int (1 + x) = _
      rw [hm]
    rw [em]
    refine ⟨Nat.zero_le _, fun F nF => ?_⟩
    have oF := D1.off nF
    have nF0 := none_of_frF fr1 D1 nF
    have s2 := same_upd (o := (HO.lst [])) nF
    have hF : upd H1 F (HO.lst []) F = some (HO.lst []) := upd_same
    generalize upd H1 F (HO.lst []) = H2 at s2 hF ⊢
    have D2 := D1.same s2
    have fr2 := fr1.trans (Fr.of s2)
    refine ⟨Nat.zero_le _, fun G nG => ?_⟩
    have oG := D2.off nG
    have nG0 := none_of_frF fr2 D2 nG
    have FG : F ≠ G := ne_of_none hF nG
    have s3 := same_upd (o := (HO.lst [])) nG
    have hG : upd H2 G (HO.lst []) G = some (HO.lst []) := upd_same
    generalize upd H2 G (HO.lst []) = H3 at s3 hG ⊢
    have D3 := D2.same s3
    have fr3 := fr2.trans (Fr.of s3)
    have hF3 := s3 _ _ hF
    refine ⟨.int c, rfl, c, rfl, by omega, by omega, ?_⟩
    refine for_range (lo := 0) (n := (c : Int).toNat) (fun i σ H' => ∃ (Fa : Addr) (fl : List Nat) (y6 y7 y8 y9 y10 : Option V), σ = [some (.ref d), some (.int c), some (.bl f), some (.int m), some (.ref Fa), some (.ref G), y6, y7, y8, y9, y10, none] ∧ DeckF H' d l (n + 32 + 640 * i) ∧ Fr d l H H' ∧ H Fa = none ∧ Fa ≠ G ∧ H' Fa = some (.lst (nV fl)) ∧ fl.length ≤ i ∧ (∀ x ∈ fl, x < m + i) ∧ ∃ acc gs, H' G = some (.lst acc) ∧ TkAll H' acc (gs.map gD) ∧ gs.length = i ∧ NetOk m gs)
      ⟨F, [], _, _, _, _, _, rfl, D3.mono (by omega), fr3, nF0, FG, hF3, Nat.zero_le _, (fun x hx => by cases hx), [], [], hG, .nil, rfl, fun k g e => by simp at e⟩ ?_ ?_
    · rintro i σ H4 hi ⟨Fa, fl, y6, y7, y8, y9, y10, rfl, D4, fr4, nFa, FaG, hFa4, lfl, okfl, acc, gs, hG4, tg4, lg, ok⟩
      have hi' : i < c := by simpa using hi
      refine ⟨Nat.zero_le _, fun I nI => ?_⟩
      have oI := D4.off nI
      have nI0 := none_of_frF fr4 D4 nI
      have GI : G ≠ I := ne_of_none hG4 nI
      have FI : Fa ≠ I := ne_of_none hFa4 nI
      have s5 := same_upd (o := (HO.lst [])) nI
      have hI : upd H4 I (HO.lst []) I = some (HO.lst []) := upd_same
      generalize upd H4 I (HO.lst []) = H5 at s5 hI ⊢
      have D5 := D4.same s5
      have fr5 := fr4.trans (Fr.of s5)
      have hFa5 := s5 _ _ hFa4
      have hG5 := s5 _ _ hG4
      have tg5 := tg4.same s5
      refine ⟨.ref d, rfl, d, l, 3, _, rfl, D5, by omega, by decide, by decide, fun H6 u D6 fr6 u0 u1 => ⟨_, _, rfl, rfl, ?_⟩⟩
      obtain ⟨cn, hcn, cn1, cn3⟩ : ∃ cn : Nat, 1 + u = (cn : Int) ∧ 1 ≤ cn ∧ cn ≤ 3 := ⟨(1 + u).toNat, by omega, by omega, by omega⟩
      have ec : (fun i j : Int => V.int (i + j)) 1 u = V.int cn := by
        show V.int (1 + u) = _
        rw [hcn]
      rw [ec]
      have fr6' := fr5.trans fr6
      have hI6 := fr6 _ _ oI.1 oI.2 hI
      have hG6 := fr6 _ _ oG.1 oG.2 hG5
      have oFa : Fa ≠ d ∧ Fa ≠ l := D.off nFa
      have hFa6 := fr6 _ _ oFa.1 oFa.2 hFa5
      have tg6 := tg5.ts (Ts.frF D5 fr6) (noL_gates gs)
      refine ⟨(cn : Int), rfl, by omega, by omega, ?_⟩
      refine for_range (lo := 0) (n := (cn : Int).toNat) (fun j σ H' => ∃ (Fa : Addr) (fl : List Nat) (y8 y9 y10 : Option V), σ = [some (.ref d), some (.int c), some (.bl f), some (.int m), some (.ref Fa), some (.ref G), some (.int (0 + (i : Int))), some (.ref I), y8, y9, y10, none] ∧ DeckF H' d l (n + 64 + 640 * i + 64 * j) ∧ Fr d l H H' ∧ H Fa = none ∧ Fa ≠ G ∧ Fa ≠ I ∧ H' Fa = some (.lst (nV fl)) ∧ fl.length ≤ i ∧ (∀ x ∈ fl, x < m + i) ∧ H' G = some (.lst acc) ∧ TkAll H' acc (gs.map gD) ∧ ∃ ws : List Nat, H' I = some (.lst (nV ws)) ∧ ws.length = j ∧ ∀ w ∈ ws, w < m + i)
        ⟨Fa, fl, _, _, _, rfl, D6.mono (by omega), fr6', nFa, FaG, FI, hFa6, lfl, okfl, hG6, tg6, [], hI6, rfl, (fun x hx => by cases hx)⟩ ?_ ?_
      · rintro j σ H7 hj ⟨Fa, fl, y8, y9, y10, rfl, D7, fr7, nFa, FaG, FaI, hFa7, lfl, okfl, hG7, tg7, ws, hI7, lw, okw⟩
        have hj' : j < cn := by simpa using hj
        have oFa : Fa ≠ d ∧ Fa ≠ l := D.off nFa
        -- an in more
        have fin : ∀ {H' : Hp} {Fb : Addr} {fb : List Nat} {y8 y9 y10 : Option V} {v : V} {x : Nat}, v = .int (x : Nat) → x < m + i → DeckF H' d l (n + 64 + 640 * i + 64 * j + 64) → Fr d l H H' → H Fb = none → Fb ≠ G → Fb ≠ I → H' Fb = some (.lst (nV fb)) → fb.length ≤ i → (∀ x ∈ fb, x < m + i) → H' G = some (.lst acc) → TkAll H' acc (gs.map gD) → H' I = some (.lst (nV ws)) →
            rAppend (.ref I) [v] H' (fun _ H' => ∃ (Fa : Addr) (fl : List Nat) (y8' y9' y10' : Option V), [some (V.ref d), some (.int c), some (.bl f), some (.int m), some (.ref Fb), some (.ref G), some (.int (0 + (i : Int))), some (.ref I), y8, y9, y10, none] = [some (.ref d), some (.int c), some (.bl f), some (.int m), some (.ref Fa), some (.ref G), some (.int (0 + (i : Int))), some (.ref I), y8', y9', y10', none] ∧ DeckF H' d l (n + 64 + 640 * i + 64 * ((j + 1 : Nat) : Int)) ∧ Fr d l H H' ∧ H Fa = none ∧ Fa ≠ G ∧ Fa ≠ I ∧ H' Fa = some (.lst (nV fl)) ∧ fl.length ≤ i ∧ (∀ x ∈ fl, x < m + i) ∧ H' G = some (.lst acc) ∧ TkAll H' acc (gs.map gD) ∧ ∃ ws : List Nat, H' I = some (.lst (nV ws)) ∧ ws.length = j + 1 ∧ ∀ w ∈ ws, w < m + i) := by
          intro H' Fb fb y8 y9 y10 v x ev hx Dn frn nFb FbG FbI hFb lfb okfb hGn tgn hIn
          subst ev
          refine ⟨I, _, _, rfl, rfl, hIn, ?_, Fb, fb, _, _, _, rfl, (Dn.upd oI.1 oI.2).mono (by push_cast; omega), Fr.upd frn nI0, nFb, FbG, FbI, by rw [upd_ne FbI]; exact hFb, lfb, okfb, by rw [upd_ne GI]; exact hGn, tgn.ts (Ts.set hIn) (noL_gates gs), ws ++ [x], ?_, by rw [List.length_append, lw]; rfl, fun w hw => ?_⟩
          · rw [nV_len, lw]
            exact Nat.lt_of_lt_of_le (show j < 64 by omega) (by decide)
          · rw [upd_same, nV_app]
            rfl
          · rcases List.mem_append.mp hw with z | z
            · exact okw w z
            · rw [List.mem_singleton.mp z]
              exact hx
        refine ⟨.ref d, rfl, d, l, 3, _, rfl, D7, by omega, by decide, by decide, fun H8 way D8 fr8 w0 w1 => ?_⟩
        have hI8 := fr8 _ _ oI.1 oI.2 hI7
        have hFa8 := fr8 _ _ oFa.1 oFa.2 hFa7
        have hG8 := fr8 _ _ oG.1 oG.2 hG7
        have tg8 := tg7.ts (Ts.frF D7 fr8) (noL_gates gs)
        have frB := fr7.trans fr8
        refine ⟨fun b H' => Same H8 H' ∧ (b = true → fl ≠ []), ?_, ?_⟩
        · refine ⟨.int way, rfl, _, _, rfl, rfl, _, rfl, ite2 (fun _ => ?_) (fun _ => ⟨Same.refl _, fun z => by cases z⟩)⟩
          refine ⟨.ref Fa, rfl, Nat.zero_le _, fun p np => ?_⟩
          have sp := same_upd (o := HO.lst []) np
          refine ⟨Fa, p, _, rfl, rfl, SqL.of (sp _ _ hFa8), SqL.of upd_same, _, rfl, sp, fun z e => ?_⟩
          rw [e] at z
          cases z
        · rintro b H9 ⟨s89, hb⟩
          have D9 := D8.same s89
          have hI9 := s89 _ _ hI8
          have hFa9 := s89 _ _ hFa8
          have hG9 := s89 _ _ hG8
          have tg9 := tg8.same s89
          have frC := frB.trans (Fr.of s89)
          refine ite2 (fun eb => ?_) (fun _ => ?_)
          · have hne := hb eb
            have lpos : 0 < fl.length := List.length_pos_iff.mpr hne
            refine ⟨.ref Fa, rfl, 1, rfl, .ref d, rfl, .ref Fa, rfl, Fa, _, rfl, .inl (SqL.of hFa9), _, _, rfl, ?_⟩
            rw [nV_len]
            refine ⟨d, l, _, _, rfl, D9, by omega, by split <;> omega, by split <;> omega, fun H10 x D10 fr10 x0 x1 => ⟨_, _, rfl, rfl, ?_⟩⟩
            have hI10 := fr10 _ _ oI.1 oI.2 hI9
            have hFa10 := fr10 _ _ oFa.1 oFa.2 hFa9
            have hG10 := fr10 _ _ oG.1 oG.2 hG9
            have tg10 := tg9.ts (Ts.frF D9 fr10) (noL_gates gs)
            have frE := frC.trans fr10
            have xl : x < fl.length := by split at x1 <;> omega
            obtain ⟨w0, hw0, hat⟩ := back_nV (fl := fl) x0 xl
            have hwb := okfl w0 hw0
            refine ⟨Fa, _, -1 - x, .int (w0 : Nat), rfl, rfl, SqL.of hFa10, hat, ?_⟩
            refine ⟨fun σ H' => ∃ (Fb : Addr) (fb : List Nat), σ = [some (.ref d), some (.int c), some (.bl f), some (.int m), some (.ref Fb), some (.ref G), some (.int (0 + (i : Int))), some (.ref I), some (.int (0 + (j : Int))), some (.int way), some (.int (w0 : Nat)), none] ∧ DeckF H' d l (n + 64 + 640 * i + 64 * j + 64) ∧ Fr d l H H' ∧ H Fb = none ∧ Fb ≠ G ∧ Fb ≠ I ∧ H' Fb = some (.lst (nV fb)) ∧ fb.length ≤ i ∧ (∀ x ∈ fb, x < m + i) ∧ H' G = some (.lst acc) ∧ TkAll H' acc (gs.map gD) ∧ H' I = some (.lst (nV ws)), ?_, ?_⟩
            rotate_left
            · rintro σ H11 ⟨Fb, fb, rfl, D11, fr11, nFb, FbG, FbI, hFb, lfb, okfb, hG11, tg11, hI11⟩
              exact ⟨.ref I, rfl, .inl ⟨rfl, _, SqL.of hI11⟩, .int (w0 : Nat), rfl, fin rfl hwb D11 fr11 nFb FbG FbI hFb lfb okfb hG11 tg11 hI11⟩
            refine ⟨.bl f, rfl, f, rfl, ?_⟩
            cases f with
            | false =>
              refine iteF ?_
              exact ⟨Fa, fl, rfl, D10.mono (by omega), frE, nFa, FaG, FaI, hFa10, lfl, okfl, hG10, tg10, hI10⟩
            | true =>
              refine iteT ?_
              refine ⟨.ref Fa, rfl, Fa, rfl, ⟨_, SqL.of hFa10⟩, fun L nL => ?_⟩
              have nL0 := none_of_frF frE D10 nL
              have GL : G ≠ L := ne_of_none hG10 nL
              have IL : I ≠ L := ne_of_none hI10 nL
              refine lc_list (K := K) (a := Fa) (xs := nV fl) (fun k H' => Same H10 (hd1 L H') ∧ ∃ fb : List Nat, H' L = some (.lst (nV fb)) ∧ fb.length ≤ k ∧ ∀ x ∈ fb, x ∈ fl) ⟨hd1_of (same_upd nL) nL, [], upd_same, Nat.zero_le _, (fun x h => by cases h)⟩ (fun k H' _ z => SqL.of (hd1_le _ _ (z.1 _ _ hFa10))) ?_ ?_
              · rintro k v H11 hv ⟨s11, fb, hL, lfb, okfb⟩
                obtain ⟨o, ho, rfl⟩ := nV_at hv
                have hk := (List.getElem?_eq_some_iff.mp ho).1
                refine ⟨rfl, .int (o : Nat), rfl, .int (w0 : Nat), rfl, rfl, _, rfl, ite2 (fun _ => ?_) (fun _ => ⟨s11, fb, hL, by omega, okfb⟩)⟩
                refine ⟨.int (o : Nat), rfl, _, hL, ?_, s11.trans hd1_upd, fb ++ [o], ?_, by rw [List.length_append]; exact Nat.succ_le_succ lfb, fun x hx => ?_⟩
                · rw [nV_len]
                  exact Nat.lt_of_le_of_lt (show fb.length ≤ 200 by omega) (by decide)
                · rw [upd_same, nV_app]
                  rfl
                · rcases List.mem_append.mp hx with z | z
                  · exact okfb x z
                  · rw [List.mem_singleton.mp z]
                    exact List.mem_of_getElem? ho
              · rintro H11 ⟨s11, fb, hL, lfb, okfb⟩
                rw [nV_len] at lfb
                have s1 : Same H10 H11 := fun b o e => hd1_le _ _ (s11 b o e)
                exact ⟨L, fb, rfl, (D10.same s1).mono (by omega), frE.trans (Fr.of s1), nL0, GL.symm, IL.symm, hL, by omega, fun x hx => okfl x (okfb x hx), s1 _ _ hG10, tg10.same s1, s1 _ _ hI10⟩
          · refine ⟨.ref I, rfl, .inl ⟨rfl, _, SqL.of hI9⟩, .ref d, rfl, .int m, rfl, d, l, _, _, rfl, D9, by omega, by omega, by omega, fun H10 x D10 fr10 x0 x1 => ?_⟩
            obtain ⟨x', rfl⟩ := Int.eq_ofNat_of_zero_le x0
            exact fin rfl (by omega) (D10.mono (by omega)) (frC.trans fr10) nFa FaG FaI (fr10 _ _ oFa.1 oFa.2 hFa9) lfl okfl (fr10 _ _ oG.1 oG.2 hG9) (tg9.ts (Ts.frF D9 fr10) (noL_gates gs)) (fr10 _ _ oI.1 oI.2 hI9)
      · rintro σ H7 ⟨Fa, fl, y8, y9, y10, rfl, D7, fr7, nFa, FaG, FaI, hFa7, lfl, okfl, hG7, tg7, ws, hI7, lw, okw⟩
        have oFa : Fa ≠ d ∧ Fa ≠ l := D.off nFa
        have lw' : ws.length = cn := by rw [lw]; simp
        have ecn : ((cn : Int).toNat : Int) = cn := by omega
        refine ⟨.ref G, rfl, .inl ⟨rfl, _, SqL.of hG7⟩, .ref d, rfl, .ref I, rfl, I, _, rfl, .inl (SqL.of hI7), ?_⟩
        rw [nV_len, lw']
        refine ⟨d, l, _, cn, rfl, D7, by omega, cn1, cn3, fun H8 bs D8 fr8 lb => ?_⟩
        have hI8 := fr8 _ _ oI.1 oI.2 hI7
        have hFa8 := fr8 _ _ oFa.1 oFa.2 hFa7
        have hG8 := fr8 _ _ oG.1 oG.2 hG7
        have tg8 := tg7.ts (Ts.frF D7 fr8) (noL_gates gs)
        have frB := fr7.trans fr8
        refine ⟨.ref I, rfl, I, _, rfl, .inl ⟨SqL.of hI8, fun ti nti => ?_⟩⟩
        have s9 := same_upd (o := (HO.tup (nV ws))) nti
        have hti : upd H8 ti (HO.tup (nV ws)) ti = some (HO.tup (nV ws)) := upd_same
        generalize upd H8 ti (HO.tup (nV ws)) = H9 at s9 hti ⊢
        refine ⟨sl2, fun tt ntt => ?_⟩
        have s10 := same_upd (o := (HO.tup [V.str (tabOf bs), .ref ti])) ntt
        have htt : upd H9 tt (HO.tup [V.str (tabOf bs), .ref ti]) tt = some (HO.tup [V.str (tabOf bs), .ref ti]) := upd_same
        generalize upd H9 tt (HO.tup [V.str (tabOf bs), .ref ti]) = H10 at s10 htt ⊢
        have sA := s9.trans s10
        have hG10 := sA _ _ hG8
        have hFa10 := sA _ _ hFa8
        have D10 := D8.same sA
        have fr10 := frB.trans (Fr.of sA)
        have tg10 := tg8.same sA
        have tnew : Tk H10 (.ref tt) (gD (bs, ws)) := .tup htt (.cons (.str _) (.cons (.tup (s10 _ _ hti) (TkAll.ints _)) .nil))
        have lacc : acc.length = i := by rw [tg10.length, List.length_map, lg]
        refine ⟨G, _, _, rfl, rfl, hG10, ?_, ?_⟩
        · exact Nat.lt_of_lt_of_le (show acc.length < 200 by omega) (by decide)
        have hFa11 : upd H10 G (.lst (acc ++ [V.ref tt])) Fa = some (.lst (nV fl)) := by rw [upd_ne FaG]; exact hFa10
        refine ⟨.ref Fa, rfl, .inl ⟨rfl, _, SqL.of hFa11⟩, .int m, rfl, .int (0 + (i : Int)), rfl, _, _, rfl, rfl, Fa, _, _, rfl, rfl, hFa11, ?_, ?_⟩
        · rw [nV_len]
          exact Nat.lt_of_lt_of_le (show fl.length < 200 by omega) (by decide)
        have tsG := Ts.set (ys := acc ++ [V.ref tt]) hG10
        have tsF := Ts.set (ys := nV fl ++ [V.int ((m : Int) + (0 + (i : Int)))]) hFa11
        have tsA := tsG.trans tsF
        refine ⟨Fa, fl ++ [m + i], _, _, _, _, _, rfl, ((D10.upd oG.1 oG.2).upd oFa.1 oFa.2).mono (by push_cast; omega), Fr.upd (Fr.upd fr10 nG0) nFa, nFa, FaG, ?_, by rw [List.length_append]; exact Nat.succ_le_succ lfl, fun x hx => ?_, acc ++ [.ref tt], gs ++ [(bs, ws)], by rw [upd_ne FaG.symm, upd_same], ?_, by rw [List.length_append, lg]; rfl, ok.snoc ⟨by rw [lb, lw'], by rw [lw']; exact cn1, by rw [lw']; exact cn3, fun w hw => by rw [lg]; exact okw w hw⟩⟩
        · rw [upd_same, nV_app]
          show some (HO.lst (nV fl ++ [V.int ((m : Int) + (0 + (i : Int)))])) = some (HO.lst (nV fl ++ [V.int ((m + i : Nat) : Int)]))
          rw [show (m : Int) + (0 + (i : Int)) = ((m + i : Nat) : Int) by push_cast; omega]
        · rcases List.mem_append.mp hx with z | z
          · have := okfl x z
            omega
          · rw [List.mem_singleton.mp z]
            omega
        · rw [List.map_append]
          exact (tg10.ts tsA (noL_gates gs)).append (.cons (tnew.ts tsA (noL_gate _)) .nil)
    · rintro σ H4 ⟨Fa, fl, y6, y7, y8, y9, y10, rfl, D4, fr4, nFa, FaG, hFa4, lfl, okfl, acc, gs, hG4, tg4, lg, ok⟩
      have lg' : gs.length = c := by rw [lg]; simp
      have ecn : ((c : Int).toNat : Int) = c := by omega
      refine ⟨.int m, rfl, .ref G, rfl, G, _, rfl, .inl ⟨SqL.of hG4, fun tp ntp => ?_⟩⟩
      have s5 := same_upd (o := (HO.tup acc)) ntp
      have htp : upd H4 tp (HO.tup acc) tp = some (HO.tup acc) := upd_same
      generalize upd H4 tp (HO.tup acc) = H5 at s5 htp ⊢
      refine ⟨sl2, fun r nr => ?_⟩
      have s6 := same_upd (o := HO.tup [V.int m, .ref tp]) nr
      exact q r _ m gs ((D4.same (s5.trans s6)).mono (by omega)) (fr4.trans (Fr.of (s5.trans s6))) (.tup upd_same (.cons (.int _) (.cons (.tup (s6 _ _ htp) (tg4.same (s5.trans s6))) .nil))) m1 m4 lg' ok
def sp_delays (K : PySem.W.Frag) : Sp := fun vs H Q _ => ∃ (d l : Addr) (n : Int) (nv : V) (m : Nat) (gs : List Gt) (most : Int), vs = [.ref d, nv, .int most] ∧ DeckF H d l n ∧ n < 100000000 ∧ Tk H nv (netD m gs) ∧ NetOk m gs ∧ gs.length ≤ 100 ∧ 0 < most ∧ most ≤ 1000000000000000000000000000000000000 ∧
  ∀ r H' D, DeckF H' d l (n + 96 * gs.length) → Fr d l H H' → Tk H' (.ref r) (delsD D) → Shape gs D → (∀ d ∈ D, ∀ x ∈ d, 0 ≤ x ∧ x < most) → Q (.ref r) H'
theorem ok_delays (T : Tx K mg) : FnOk P w K mg base CX0 8 T.f_delays T.fd_delays ["_law_deck_here", "_law_net_here", "_law_most"] (sp_delays K) := by
  refine T.F_delays.ok sc_delays (fun vs H Q E h => ?_) (fun cdv A outer s H vs Q E hr h => ?_)
  · obtain ⟨d, l, n, nv, m, gs, most, rfl, _⟩ := h
    rfl
  · obtain ⟨d, l, n, nv, m, gs, most, rfl, D, hn, tn, okn, g100, m0, m6, q⟩ := h
    refine ⟨_, (pss_cons (ps_set (i := 3) sc_delays.nd rfl (by first | exact .inl rfl | exact .inr rfl) (pe_lst pa_nil)) (pss_cons (ps_for PassesOwn.never rfl (pi_tup (pe_ix ix_tup (pv 1) pe_int (fun _ _ => rfl))) (pg_tup rfl (pgs_cons (pg_name (i := 4) sc_delays.nd rfl (by first | exact .inl rfl | exact .inr rfl)) (pgs_cons (pg_name (i := 5) sc_delays.nd rfl (by first | exact .inl rfl | exact .inr rfl)) pgs_nil))) (pss_one (ps_expr (pe_bm PySem.F.plainAttrs_list PySem.F.slot_list_append PySem.F.type_list_append mt_append (pv 3) (pa_cons (pe_callTy call_tuple_of (by rfl) T.m_tuple (by decide +kernel) (pa_cons (pe_lc (own := [("_law_wire", 6)]) (by rfl) sc_delays.nd (pi_tup (pv 5)) (blkOk_by (own := [("_law_wire", 6)]) (N := ["_law_deck_here", "_law_net_here", "_law_most", "_law_made", "_law_table_here", "_law_ins", "_law_wire"]) (sc := defScope s_delays) (by decide +kernel)) (fun _ _ _ _ _ => (pg_name (i := 6) sc_delays.nd rfl (by first | exact .inl rfl | exact .inr rfl))) (fun _ _ _ _ _ => pts_nil) (fun _ _ _ _ _ => (pe_call (ok_draw T) (hr.mono (by decide)) (by rfl) T.g_draw T.F_draw.kp T.b_draw .nil pass0 (pa_cons (pv 0) (pa_cons (pv 2) pa_nil))))) pa_nil)) pa_nil))))) (pss_one (ps_ret (pe_callTy call_tuple_of (by rfl) T.m_tuple (by decide +kernel) (pa_cons (pv 3) pa_nil)))))), ?_⟩
    obtain ⟨nn, g, xs, rfl, hn', hg, tg⟩ := tn.net_inv
    have lx : xs.length = gs.length := by rw [tg.length, List.length_map]
    refine ⟨Nat.zero_le _, fun G nG => ?_⟩
    have oG := D.off nG
    have s1 := same_upd (o := (HO.lst [])) nG
    have hG : upd H G (HO.lst []) G = some (HO.lst []) := upd_same
    generalize upd H G (HO.lst []) = H1 at s1 hG ⊢
    have D1 := D.same s1
    have fr1 : Fr d l H H1 := Fr.of s1
    have ts1 : Ts H H1 := Ts.same s1
    refine ⟨.ref nn, rfl, nn, _, 1, .ref g, rfl, rfl, SqT.of (ts1 _ _ hn'), rfl, g, rfl, ⟨_, SqT.of (ts1 _ _ hg)⟩, ?_⟩
    refine for_tup (K := K) (a := g) (xs := xs) (fun i σ H' => ∃ y4 y5 acc D, σ = [some (.ref d), some (.ref nn), some (.int most), some (.ref G), y4, y5, none] ∧ DeckF H' d l (n + 96 * i) ∧ Fr d l H H' ∧ H' G = some (.lst acc) ∧ TkAll H' acc (D.map rowD) ∧ D.length = i ∧ (∀ (j : Nat) (gt : Gt) (dd : List Int), gs[j]? = some gt → D[j]? = some dd → dd.length = gt.2.length) ∧ ∀ dd ∈ D, ∀ x ∈ dd, 0 ≤ x ∧ x < most)
      ⟨_, _, [], [], rfl, D1.mono (by omega), fr1, hG, .nil, rfl, (fun j gt dd _ h => by cases h), (fun dd h => by cases h)⟩ (fun i σ H' _ ⟨_, _, _, _, _, _, z, _⟩ => SqT.of (Ts.frF D z _ _ hg)) ?_ ?_
    · rintro i v σ H2 hv ⟨y4, y5, acc, DD, rfl, D2, fr2, hG2, tD2, lD, shD, okD⟩
      obtain ⟨gt, hgt, tgt⟩ := tg.at hv
      obtain ⟨ga, ii, rfl, hga, hii⟩ := tgt.gt_inv
      have okg := okn i gt hgt
      have hi := (List.getElem?_eq_some_iff.mp hgt).1
      have ts2 := Ts.frF D fr2
      refine ⟨ga, _, rfl, SqT.of (ts2 _ _ hga), rfl, _, _, rfl, _, _, rfl, rfl, ?_⟩
      refine ⟨.ref G, rfl, .inl ⟨rfl, _, SqL.of hG2⟩, .ref ii, rfl, ii, rfl, ⟨_, SqT.of (ts2 _ _ hii)⟩, fun I nI => ?_⟩
      have oI := D2.off nI
      have nI0 := none_of_frF fr2 D2 nI
      have GI : G ≠ I := ne_of_none hG2 nI
      refine lc_tup (K := K) (a := ii) (xs := (gt.2.map Int.ofNat).map V.int) (fun j H' => DeckF H' d l (n + 96 * i + 32 * j) ∧ Fr d l H H' ∧ H' G = some (.lst acc) ∧ TkAll H' acc (DD.map rowD) ∧ ∃ ls : List Int, H' I = some (.lst (ls.map V.int)) ∧ ls.length = j ∧ ∀ x ∈ ls, 0 ≤ x ∧ x < most)
        ⟨(D2.same (same_upd nI)).mono (by omega), fr2.trans (Fr.new nI), same_upd nI _ _ hG2, tD2.same (same_upd nI), [], upd_same, rfl, (fun x h => by cases h)⟩ (fun j H' _ z => SqT.of (Ts.frF D z.2.1 _ _ hii)) ?_ ?_
      · rintro j v H3 hv ⟨D3, fr3, hG3, tD3, ls, hI3, ll, okl⟩
        have hj : j < 3 := by
          have := (List.getElem?_eq_some_iff.mp hv).1
          rw [List.length_map, List.length_map] at this
          have := okg.2.2.1
          omega
        refine ⟨rfl, .ref d, rfl, .int most, rfl, d, l, _, _, rfl, D3, by omega, m0, m6, fun H4 x D4 fr4 x0 x1 => ?_⟩
        have hI4 := fr4 _ _ oI.1 oI.2 hI3
        have hG4 := fr4 _ _ oG.1 oG.2 hG3
        have tD4 := tD3.ts (Ts.frF D3 fr4) (noLs_map noL_row _)
        refine ⟨_, hI4, ?_, (D4.upd oI.1 oI.2).mono (by push_cast; omega), Fr.upd (fr3.trans fr4) nI0, by rw [upd_ne GI]; exact hG4, tD4.ts (Ts.set hI4) (noLs_map noL_row _), ls ++ [x], ?_, by rw [List.length_append, ll]; rfl, fun y hy => ?_⟩
        · rw [List.length_map, ll]
          exact Nat.lt_of_lt_of_le (show j < 64 by omega) (by decide)
        · rw [upd_same, List.map_append]
          rfl
        · rcases List.mem_append.mp hy with z | z
          · exact okl y z
          · rw [List.mem_singleton.mp z]
            exact ⟨x0, x1⟩
      · rintro H3 ⟨D3, fr3, hG3, tD3, ls, hI3, ll, okl⟩
        rw [List.length_map, List.length_map] at ll D3
        refine ⟨I, _, rfl, .inl ⟨SqL.of hI3, fun ta nta => ?_⟩⟩
        have s4 := same_upd (o := (HO.tup (ls.map V.int))) nta
        have hta : upd H3 ta (HO.tup (ls.map V.int)) ta = some (HO.tup (ls.map V.int)) := upd_same
        generalize upd H3 ta (HO.tup (ls.map V.int)) = H4 at s4 hta ⊢
        have hG4 := s4 _ _ hG3
        have tD4 := tD3.same s4
        have lacc : acc.length = i := by rw [tD4.length, List.length_map, lD]
        refine ⟨G, _, _, rfl, rfl, hG4, ?_, ?_⟩
        · exact Nat.lt_of_lt_of_le (show acc.length < 200 by omega) (by decide)
        have := okg.2.2.1
        have nG0 : H G = none := nG
        refine ⟨_, _, acc ++ [.ref ta], DD ++ [ls], rfl, ((D3.same s4).upd oG.1 oG.2).mono (by push_cast; omega), Fr.upd (fr3.trans (Fr.of s4)) nG0, upd_same, ?_, by rw [List.length_append, lD]; rfl, fun j gt' dd h1 h2 => ?_, fun dd hd => ?_⟩
        · rw [List.map_append]
          have ts := Ts.set (ys := acc ++ [V.ref ta]) hG4
          exact (tD4.ts ts (noLs_map noL_row _)).append (.cons (.tup (ts _ _ hta) (TkAll.ints _)) .nil)
        · by_cases z : j < DD.length
          · rw [List.getElem?_append_left z] at h2
            exact shD j gt' dd h1 h2
          · rw [List.getElem?_append_right (by omega)] at h2
            have ej : j = i := by
              have := (List.getElem?_eq_some_iff.mp h2).1
              simp at this
              omega
            subst ej
            rw [lD, Nat.sub_self] at h2
            cases Option.some.inj h2
            cases Option.some.inj (h1.symm.trans hgt)
            exact ll
        · rcases List.mem_append.mp hd with z | z
          · exact okD dd z
          · rw [List.mem_singleton.mp z]
            exact okl
    · rintro σ H2 ⟨y4, y5, acc, DD, rfl, D2, fr2, hG2, tD2, lD, shD, okD⟩
      rw [lx] at lD D2
      refine ⟨.ref G, rfl, G, _, rfl, .inl ⟨SqL.of hG2, fun r nr => ?_⟩⟩
      have s3 := same_upd (o := HO.tup acc) nr
      exact q r _ DD (D2.same s3) (fr2.trans (Fr.of s3)) (.tup upd_same (tD2.same s3)) ⟨lD, fun g gt dd h1 h2 => shD g gt dd h1 h2⟩ okD

end
end Gk

set_option Elab.async false
set_option linter.all false
set_option maxRecDepth 100000
set_option maxHeartbeats 1000000
set_option pp.maxSteps 1500
set_option pp.deepTerms false
namespace Gk
open PySem PySem.Spec PyProof.Rows L2
section
variable {P : Program} {w : World} {K : PySem.W.Frag} {mg : Str → Option Value} {base : Heap}
theorem ok_worth (T : Tx K mg) : FnOk P w K mg base CX0 1 T.f_worth T.fd_worth ["_law_table_here", "_law_worths"] (spGate K) := by
  refine T.F_worth.ok sc_worth (fun vs H Q E h => ?_) (fun cdv A outer s H vs Q E hr h => ?_)
  · obtain ⟨bs, la, ws, rfl, _⟩ := h
    rfl
  · obtain ⟨bs, la, ws, rfl, hS, hw, hb, h3, q⟩ := h
    obtain ⟨b, p0, p1, p2, p3, p4⟩ := gate_read hw hb h3
    refine ⟨_, (pss_cons (ps_set (i := 2) sc_worth.nd rfl (by first | exact .inl rfl | exact .inr rfl) pe_int) (pss_cons (ps_for PassesOwn.never rfl (pi_list (pv 1)) (pg_name (i := 3) sc_worth.nd rfl (by first | exact .inl rfl | exact .inr rfl)) (pss_one (ps_set (i := 2) sc_worth.nd rfl (by first | exact .inl rfl | exact .inr rfl) (pe_op op_add (pe_op op_mul pe_int (pv 2)) (pv 3))))) (pss_one (ps_ret (pe_callTy call_int_str (by rfl) T.m_int (by decide +kernel) (pa_cons (pe_item_str (pv 0) (pv 2) (fun _ _ => rfl)) pa_nil)))))), ?_⟩
    refine ⟨.ref la, rfl, la, rfl, ⟨_, hS⟩, for_list (K := K) (a := la) (xs := ws.map V.int) (fun i σ H' => ∃ y, σ = [some (.str (tabOf bs)), some (.ref la), some (.int (plc (ws.take i))), y] ∧ H' = H) ⟨none, rfl, rfl⟩ (fun i σ H' _ ⟨_, _, e⟩ => by rw [e]; exact hS) ?_ ?_⟩
    · rintro i x σ H' hx ⟨y, rfl, rfl⟩
      obtain ⟨u, hu, rfl⟩ : ∃ u, ws[i]? = some u ∧ x = V.int u := by
        rw [List.getElem?_map] at hx
        cases hz : ws[i]? with
        | none => rw [hz] at hx; cases hx
        | some u => rw [hz] at hx; exact ⟨u, rfl, (Option.some.inj hx).symm⟩
      refine ⟨.int (plc (ws.take i)), rfl, 2, _, rfl, rfl, .inl ⟨by decide, by decide⟩, .int u, rfl, _, _, rfl, rfl, some (.int u), ?_, rfl⟩
      rw [plc_take hu]
      rfl
    · rintro σ H' ⟨y, rfl, rfl⟩
      rw [List.length_map, List.take_length]
      refine ⟨.str (tabOf bs), rfl, .int (plc ws), rfl, _, _, _, rfl, rfl, p0, p1, p2, p3, _, _, rfl, int_sign b, (show 1 ≤ 640 by decide), ?_⟩
      rw [← p4]
      exact q

/-! ### the law's wave of a gate -/
structure TpAt (H : Hp) (da : Addr) (L : TL3) : Prop where
  d : H da = some (.dK (kvL L))
  ls : ∀ e ∈ L, H e.2.1 = some (.tup (nV e.2.2))
  nk : (L.map fun e => e.1).Nodup
theorem TpAt.keep {H H' : Hp} {da : Addr} {L : TL3} (h : TpAt H da L) (hd : H' da = H da) (t : Ts H H') : TpAt H' da L := ⟨hd.trans h.d, fun e he => t _ _ (h.ls e he), h.nk⟩
theorem TpAt.same {H H' : Hp} {da : Addr} {L : TL3} (h : TpAt H da L) (s : Same H H') : TpAt H' da L := ⟨s _ _ h.d, fun e he => s _ _ (h.ls e he), h.nk⟩
def putL (L : TL3) (u : Int) (q : Addr) (S : List Nat) : TL3 := if u ∈ L.map (fun e => e.1) then L.map (fun e => if e.1 = u then (u, q, S) else e) else L ++ [(u, q, S)]
theorem putL_kv (L : TL3) (u : Int) (q : Addr) (S : List Nat) : putK (kvL L) (Sum.inl u) (V.ref q) = kvL (putL L u q S) := by
  unfold putL putK
  have any : (kvL L).any (fun e => e.1 = Sum.inl u) = true ↔ u ∈ L.map fun e => e.1 := by
    unfold kvL
    rw [List.any_map, List.any_eq_true, List.mem_map]
    constructor
    · rintro ⟨e, he, h⟩
      exact ⟨e, he, Sum.inl.inj (of_decide_eq_true h)⟩
    · rintro ⟨e, he, h⟩
      exact ⟨e, he, decide_eq_true (congrArg Sum.inl h)⟩
  by_cases z : u ∈ L.map fun e => e.1
  · rw [if_pos z, if_pos (any.mpr z)]
    unfold kvL
    rw [List.map_map, List.map_map]
    refine List.map_congr_left fun e _ => ?_
    show (if (Sum.inl e.1 : Key) = Sum.inl u then ((Sum.inl e.1 : Key), V.ref q) else ((Sum.inl e.1 : Key), V.ref e.2.1)) = (fun e : Int × Addr × List Nat => ((Sum.inl e.1 : Key), V.ref e.2.1)) (if e.1 = u then (u, q, S) else e)
    by_cases y : e.1 = u
    · rw [if_pos (congrArg Sum.inl y), if_pos y, y]
    · rw [if_neg (fun k => y (Sum.inl.inj k)), if_neg y]
  · rw [if_neg z, if_neg (fun k => z (any.mp k))]
    unfold kvL
    rw [List.map_append]
    rfl
theorem putL_keys (L : TL3) (u : Int) (q : Addr) (S : List Nat) : (putL L u q S).map (fun e => e.1) = if u ∈ L.map (fun e => e.1) then L.map (fun e => e.1) else L.map (fun e => e.1) ++ [u] := by
  unfold putL
  by_cases z : u ∈ L.map fun e => e.1
  · rw [if_pos z, if_pos z, List.map_map]
    refine List.map_congr_left fun e _ => ?_
    show (if e.1 = u then (u, q, S) else e).1 = e.1
    by_cases y : e.1 = u
    · rw [if_pos y, y]
    · rw [if_neg y]
  · rw [if_neg z, if_neg z, List.map_append]
    rfl
theorem putL_len (L : TL3) (u : Int) (q : Addr) (S : List Nat) : (putL L u q S).length ≤ L.length + 1 := by
  unfold putL
  split
  · rw [List.length_map]; omega
  · rw [List.length_append]; exact Nat.le_refl _
theorem TpAt.put {H : Hp} {da q : Addr} {L : TL3} (h : TpAt H da L) (u : Int) {S : List Nat} (hq : H q = some (.tup (nV S))) : TpAt (upd H da (.dK (putK (kvL L) (Sum.inl u) (.ref q)))) da (putL L u q S) := by
  have ts : ∀ {b : Addr} {xs : List V}, H b = some (.tup xs) → upd H da (.dK (putK (kvL L) (Sum.inl u) (.ref q))) b = some (.tup xs) := fun {b xs} e => by
    rw [upd_ne (ne_of e h.d (by intro z; cases z))]
    exact e
  refine ⟨by rw [upd_same, putL_kv L u q S], fun e he => ?_, ?_⟩
  · unfold putL at he
    split at he
    · obtain ⟨f, hf, rfl⟩ := List.mem_map.mp he
      split
      · exact ts hq
      · exact ts (h.ls f hf)
    · rcases List.mem_append.mp he with k | k
      · exact ts (h.ls e k)
      · rw [List.mem_singleton.mp k]
        exact ts hq
  · rw [putL_keys]
    split
    · exact h.nk
    · rename_i z
      exact List.nodup_append.mpr ⟨h.nk, List.nodup_cons.mpr ⟨List.not_mem_nil, .nil⟩, fun a ha b hb => by rw [List.mem_singleton.mp hb]; exact fun y => z (y ▸ ha)⟩
theorem SemT.ext {L L' : TL3} {tss : List (List Int)} {k j : Nat} (s : SemT L tss k j) (h : L.map (fun e => (e.1, e.2.2)) = L'.map fun e => (e.1, e.2.2)) : SemT L' tss k j := by
  refine ⟨fun e he => ?_, fun t => ?_⟩
  · have : (e.1, e.2.2) ∈ L.map (fun e => (e.1, e.2.2)) := by rw [h]; exact List.mem_map.mpr ⟨e, he, rfl⟩
    obtain ⟨f, hf, e1⟩ := List.mem_map.mp this
    have e2 := congrArg Prod.fst e1
    have e3 := congrArg Prod.snd e1
    dsimp only at e2 e3
    rw [← e2, ← e3]
    exact s.pl f hf
  · have : L'.map (fun e => e.1) = L.map fun e => e.1 := by
      have := congrArg (List.map Prod.fst) h
      rw [List.map_map, List.map_map] at this
      exact this.symm
    rw [this]
    exact s.ks t
theorem sem_put {L : TL3} {tss : List (List Int)} {k j : Nat} {u : Int} {q : Addr} {S : List Nat} (h : SemT L tss k j) (rise : (tss.getD k []).Pairwise (· < ·)) (hu : (tss.getD k [])[j]? = some u) (nk : (L.map fun e => e.1).Nodup)
    (hS : (∃ e ∈ L, e.1 = u ∧ S = e.2.2 ++ [k]) ∨ (u ∉ L.map (fun e => e.1) ∧ S = [k])) : SemT (putL L u q S) tss k (j + 1) := by
  rcases hS with ⟨e, he, e1, e2⟩ | ⟨no, e2⟩
  · have mem : u ∈ L.map fun e => e.1 := List.mem_map.mpr ⟨e, he, e1⟩
    refine (h.step rise hu mem).ext ?_
    unfold bumpT putL
    rw [if_pos mem, List.map_map, List.map_map]
    refine List.map_congr_left fun f hf => ?_
    show (fun e : Int × Addr × List Nat => (e.1, e.2.2)) (if f.1 = u then (f.1, f.2.1, f.2.2 ++ [k]) else f) = (fun e : Int × Addr × List Nat => (e.1, e.2.2)) (if f.1 = u then (u, q, S) else f)
    by_cases y : f.1 = u
    · rw [if_pos y, if_pos y]
      have : f = e := nodup_key nk hf he (y.trans e1.symm)
      rw [this, e1, e2]
    · rw [if_neg y, if_neg y]
  · refine (h.lay (q := q) rise hu no).ext ?_
    unfold bumpT putL
    rw [if_neg no, List.map_append, List.map_append, List.map_append, e2]
    congr 1
    · rw [List.map_map]
      refine List.map_congr_left fun f hf => ?_
      show (fun e : Int × Addr × List Nat => (e.1, e.2.2)) (if f.1 = u then (f.1, f.2.1, f.2.2 ++ [k]) else f) = (f.1, f.2.2)
      rw [if_neg (fun y => no (List.mem_map.mpr ⟨f, hf, y⟩))]
    · show [(fun e : Int × Addr × List Nat => (e.1, e.2.2)) (if u = u then (u, q, [] ++ [k]) else (u, q, []))] = _
      rw [if_pos rfl]
      rfl
def shWs (ws : List (Int × List Int)) (d : List Int) : List (Int × List Int) := (ws.zip d).map fun e => shiftW e.1 e.2
theorem shWs_len {ws : List (Int × List Int)} {d : List Int} (h : d.length = ws.length) : (shWs ws d).length = ws.length := by unfold shWs; rw [List.length_map, List.length_zip, h, Nat.min_self]
theorem shWs_at {ws : List (Int × List Int)} {d : List Int} {k : Nat} {x : Int × List Int} {y : Int} (hx : ws[k]? = some x) (hy : d[k]? = some y) : (shWs ws d)[k]? = some (shiftW x y) := by
  unfold shWs
  have hz : (ws.zip d)[k]? = some (x, y) := by rw [List.getElem?_zip_eq_some]; exact ⟨hx, hy⟩
  rw [List.getElem?_map, hz]
  rfl
theorem shWs_ok {ws : List (Int × List Int)} {d : List Int} (okw : ∀ x ∈ ws, Wv x (wv x)) (d0 : ∀ y ∈ d, 0 ≤ y) : ∀ x ∈ shWs ws d, Wv x (wv x) := fun x hx => by
  obtain ⟨e, he, rfl⟩ := List.mem_map.mp hx
  obtain ⟨h1, h2⟩ := List.of_mem_zip (a := e.1) (b := e.2) he
  exact ((okw _ h1).shift (d0 _ h2)).self
theorem shWs_firsts {ws : List (Int × List Int)} {d : List Int} (h : d.length = ws.length) : (shWs ws d).map (·.1) = ws.map (·.1) := by
  unfold shWs
  rw [List.map_map]
  have : ∀ (ws : List (Int × List Int)) (d : List Int), d.length = ws.length → (ws.zip d).map (fun e => e.1.1) = ws.map (·.1) := fun ws => by
    induction ws with
    | nil => intro d _; rfl
    | cons x r ih =>
      intro d h
      match d, h with
      | y :: t, h => rw [List.zip_cons_cons, List.map_cons, List.map_cons, ih t (by simpa using h)]
  exact this ws d h
theorem atI_last2 (zs : List Int) (x y : Int) : atI ((((zs ++ [x]) ++ [y])).map V.int) (-2) = some (.int x) := by
  have l : (((zs ++ [x]) ++ [y]).map V.int).length = zs.length + 2 := by rw [List.length_map, List.length_append, List.length_append]; rfl
  unfold atI ixN
  rw [l, if_neg (by decide), if_pos (by omega)]
  show (((zs ++ [x]) ++ [y]).map V.int)[((-2 : Int) + ((zs.length + 2 : Nat) : Int)).toNat]? = _
  rw [show ((-2 : Int) + ((zs.length + 2 : Nat) : Int)).toNat = zs.length by omega, List.getElem?_map, List.append_assoc, List.getElem?_append_right (Nat.le_refl _), Nat.sub_self]
  rfl
theorem atI_last1 (zs : List Int) (y : Int) : atI ((zs ++ [y]).map V.int) (-1) = some (.int y) := by
  rw [List.map_append]
  exact L2.atI_last ..
def Kp3 (a b c : Addr) (H H' : Hp) : Prop := ∀ x o, x ≠ a → x ≠ b → x ≠ c → H x = some o → H' x = some o
theorem Kp3.refl {a b c : Addr} {H : Hp} : Kp3 a b c H H := fun _ _ _ _ _ e => e
def sp_l_wave (K : PySem.W.Frag) : Sp := fun vs H Q _ => ∃ (bs : List Bool) (wl da : Addr) (xs : List V) (ws : List (Int × List Int)) (d : List Int), vs = [.str (tabOf bs), .ref wl, .ref da] ∧ H wl = some (.lst xs) ∧ TkAll H xs (ws.map wvD) ∧ H da = some (.tup (d.map V.int)) ∧ d.length = ws.length ∧ bs.length = 2 ^ ws.length ∧ ws.length ≤ 3 ∧ (∀ x ∈ ws, Wv x (wv x) ∧ x.2.length ≤ 10000) ∧ (∀ y ∈ d, 0 ≤ y) ∧
  ∀ r H' y, Same H H' → Tk H' (.ref r) (wvD y) → Wv y (gateV bs (shWs ws d)) → Q (.ref r) H'
theorem ok_wave (T : Tx K mg) : FnOk P w K mg base CX0 2 T.f_wave T.fd_wave ["_law_table_here", "_law_waves", "_law_delays_here"] (sp_l_wave K) := by
  refine T.F_wave.ok sc_wave (fun vs H Q E h => ?_) (fun cdv A outer s H vs Q E hr h => ?_)
  · obtain ⟨bs, wl, da, xs, ws, d, rfl, _⟩ := h
    rfl
  · obtain ⟨bs, wl, da, xs, ws, d, rfl, hw, tw, hda, ld, hb, l3, okw0, d0, q⟩ := h
    have okw : ∀ x ∈ ws, Wv x (wv x) := fun x hx => (okw0 x hx).1
    have okv := shWs_ok okw d0
    have lx : xs.length = ws.length := by rw [tw.length, List.length_map]
    have lv := shWs_len ld
    generalize hV : shWs ws d = vw at *
    refine ⟨_, (pss_cons (ps_set (i := 3) sc_wave.nd rfl (by first | exact .inl rfl | exact .inr rfl) pe_dnewK) (pss_cons (ps_for PassesOwn.never rfl (pi_range1 (by rfl) T.m_range (pa_cons (pe_callB call_len_seq (by rfl) T.m_len PySem.boot_len (pa_cons (pv 1) pa_nil)) pa_nil)) (pg_name (i := 4) sc_wave.nd rfl (by first | exact .inl rfl | exact .inr rfl)) (pss_one (ps_for PassesOwn.never rfl (pi_tup (pe_ix ix_tup (pe_ix ix_list (pv 1) (pv 4) (fun _ _ => rfl)) pe_int (fun _ _ => rfl))) (pg_name (i := 5) sc_wave.nd rfl (by first | exact .inl rfl | exact .inr rfl)) (pss_cons (ps_set (i := 6) sc_wave.nd rfl (by first | exact .inl rfl | exact .inr rfl) (pe_op op_add (pv 5) (pe_ix ix_tup (pv 2) (pv 4) (fun _ _ => rfl)))) (pss_one (ps_dput (hu_of hr) (pv 3) (pv 6) (pe_op op_catA (pe_dget2 (hu_of hr) (pv 3) (pv 6) (pe_tup pa_nil) ⟨rfl, rfl, rfl, rfl⟩) (pe_tup (pa_cons (pv 4) pa_nil))) rfl)))))) (pss_cons (ps_setLc (i := 7) (own := [("_law_wave_here", 10)]) (by rfl) sc_wave.nd rfl rfl (sw_true rfl rfl rfl (by decide +kernel)) (pi_list (pv 1)) (blkOk_by (own := [("_law_wave_here", 10)]) (N := ["_law_table_here", "_law_waves", "_law_delays_here", "_law_moments", "_law_place", "_law_time", "_law_moment", "_law_worths", "_law_told_here", "_law_times", "_law_wave_here"]) (sc := defScope s_wave) (by decide +kernel)) (fun _ _ _ _ _ => (pg_name (i := 10) sc_wave.nd rfl (by first | exact .inl rfl | exact .inr rfl))) (fun _ _ _ _ _ => pts_nil) (fun _ _ _ _ _ => (pe_ix (show IxR _ (rIxT K) from ix_tup) (pv 10) pe_int (fun _ _ => rfl)))) (pss_cons (ps_set (i := 8) sc_wave.nd rfl (by first | exact .inl rfl | exact .inr rfl) (pe_lst (pa_cons (pe_call (ok_worth T) (hr.mono (by decide)) (by rfl) T.g_worth T.F_worth.kp T.b_worth .nil pass0 (pa_cons (pv 0) (pa_cons (pv 7) pa_nil))) pa_nil))) (pss_cons (ps_set (i := 9) sc_wave.nd rfl (by first | exact .inl rfl | exact .inr rfl) (pe_lst pa_nil)) (pss_cons (ps_for PassesOwn.never rfl (pi_list (pe_callB (SrtDi.cr_sortedDi rfl) (by rfl) T.m_sorted (by decide +kernel) (pa_cons (pv 3) pa_nil))) (pg_name (i := 6) sc_wave.nd rfl (by first | exact .inl rfl | exact .inr rfl)) (pss_cons (ps_for PassesOwn.never rfl (pi_tup (pe_dget (hu_of hr) (pv 3) (pv 6) (fun _ _ => rfl))) (pg_name (i := 4) sc_wave.nd rfl (by first | exact .inl rfl | exact .inr rfl)) (pss_one (ps_asg (pe_op op_sub pe_int (pe_ix ix_list (pv 7) (pv 4) (fun _ _ => rfl))) (pg_sub (pv 7) (pv 4) set_list)))) (pss_cons (ps_expr (pe_bm PySem.F.plainAttrs_list PySem.F.slot_list_append PySem.F.type_list_append mt_append (pv 8) (pa_cons (pe_call (ok_worth T) (hr.mono (by decide)) (by rfl) T.g_worth T.F_worth.kp T.b_worth .nil pass0 (pa_cons (pv 0) (pa_cons (pv 7) pa_nil))) pa_nil))) (pss_one (ps_if (pt_cmpR op_ne (pe_ix ix_list (pv 8) (pe_un un_neg pe_int) (fun _ _ => rfl)) (pe_ix ix_list (pv 8) (pe_un un_neg pe_int) (fun _ _ => rfl)) (nomark _)) (pss_one (ps_expr (pe_bm PySem.F.plainAttrs_list PySem.F.slot_list_append PySem.F.type_list_append mt_append (pv 9) (pa_cons (pv 6) pa_nil)))) pss_nil))))) (pss_one (ps_ret (pe_tup (pa_cons (pe_ix ix_list (pv 8) pe_int (fun _ _ => rfl)) (pa_cons (pe_callTy call_tuple_of (by rfl) T.m_tuple (by decide +kernel) (pa_cons (pv 9) pa_nil)) pa_nil))))))))))), ?_⟩
    refine fun ma nma => ?_
    have s1 := same_upd (o := (HO.dK [])) nma
    have h1 : upd H ma (HO.dK []) ma = some (HO.dK []) := upd_same
    generalize upd H ma (HO.dK []) = H1 at s1 h1 ⊢
    refine ⟨.ref wl, rfl, wl, _, rfl, .inl (SqL.of (s1 _ _ hw)), xs.length, rfl, by omega, by omega, ?_⟩
    refine for_range (lo := 0) (n := (xs.length : Int).toNat) (fun k σ H' => ∃ y4 y5 y6 L, σ = [some (.str (tabOf bs)), some (.ref wl), some (.ref da), some (.ref ma), y4, y5, y6, none, none, none, none] ∧ Same H H' ∧ TpAt H' ma L ∧ SemT L (vw.map (·.2)) k 0 ∧ L.length ≤ 10000 * k)
      ⟨_, _, _, [], rfl, s1, ⟨h1, (fun e h => by cases h), .nil⟩, .none, Nat.zero_le _⟩ ?_ ?_
    · rintro k σ H2 hk ⟨y4, y5, y6, L, rfl, s2, tl, sm, ll⟩
      have hk' : k < ws.length := by omega
      obtain ⟨x, hx⟩ : ∃ x, ws[k]? = some x := ⟨_, List.getElem?_eq_getElem hk'⟩
      obtain ⟨y, hy⟩ : ∃ y, d[k]? = some y := ⟨_, List.getElem?_eq_getElem (by omega)⟩
      obtain ⟨v, hv, tx⟩ := tw.at' hx
      obtain ⟨wa, t, rfl, ha, ht⟩ := tx.wv_inv
      obtain ⟨rise, lx2⟩ : x.2.Pairwise (· < ·) ∧ x.2.length ≤ 10000 := ⟨(okw0 x (List.mem_of_getElem? hx)).1.rise, (okw0 x (List.mem_of_getElem? hx)).2⟩
      have hvk := shWs_at hx hy
      rw [hV] at hvk
      have ek : (vw.map (·.2)).getD k [] = x.2.map fun t => t + y := by
        rw [List.getD_eq_getElem?_getD, List.getElem?_map, hvk]
        rfl
      have rise' : ((vw.map (·.2)).getD k []).Pairwise (· < ·) := by
        rw [ek, List.pairwise_map]
        exact rise.imp fun h => by omega
      have e0 : (0 : Int) + (k : Int) = (k : Int) := Int.zero_add _
      rw [e0]
      refine ⟨.ref wl, rfl, .int (k : Nat), rfl, wl, _, ((k : Nat) : Int), .ref wa, rfl, rfl, SqL.of (s2 _ _ hw), atI_nat hv, wa, _, 1, .ref t, rfl, rfl, SqT.of (s2 _ _ ha), rfl, t, rfl, ⟨_, SqT.of (s2 _ _ ht)⟩, ?_⟩
      refine for_tup (K := K) (a := t) (xs := x.2.map V.int) (fun j σ H' => ∃ y5 y6 L, σ = [some (.str (tabOf bs)), some (.ref wl), some (.ref da), some (.ref ma), some (.int (k : Nat)), y5, y6, none, none, none, none] ∧ Same H H' ∧ TpAt H' ma L ∧ SemT L (vw.map (·.2)) k j ∧ L.length ≤ 10000 * k + j)
        ⟨_, _, L, rfl, s2, tl, sm, ll⟩ (fun j σ H' _ ⟨_, _, _, _, z, _⟩ => SqT.of (z _ _ ht)) ?_ ?_
      · rintro j v σ H3 hv3 ⟨y5, y6, L, rfl, s3, tl3, sm3, ll3⟩
        obtain ⟨u, hu, rfl⟩ := vint_at hv3
        have hj := (List.getElem?_eq_some_iff.mp hu).1
        have hu' : ((vw.map (·.2)).getD k [])[j]? = some (u + y) := by rw [ek, List.getElem?_map, hu]; rfl
        refine ⟨.int u, rfl, .ref da, rfl, .int (k : Nat), rfl, da, _, ((k : Nat) : Int), .int y, rfl, rfl, SqT.of (s3 _ _ hda), atI_nat (by rw [List.getElem?_map, hy]; rfl), _, _, rfl, rfl, ?_⟩
        refine ⟨.ref ma, rfl, ma, rfl, .inl ⟨_, .inl tl3.d⟩, .int (u + y), rfl, Nat.zero_le _, fun q0 nq0 => ?_⟩
        have s4 := same_upd (o := (HO.tup [])) nq0
        have h4 : upd H3 q0 (HO.tup []) q0 = some (HO.tup []) := upd_same
        generalize upd H3 q0 (HO.tup []) = H4 at s4 h4 ⊢
        have tl4 := tl3.same s4
        obtain ⟨o, S, dg, ho, hS⟩ : ∃ (o : Option V) (S : List Nat), DGet H4 ma (.int (u + y)) o ∧ (∃ qa, o.getD (V.ref q0) = .ref qa ∧ H4 qa = some (.tup (nV S))) ∧ ((∃ e ∈ L, e.1 = u + y ∧ S ++ [k] = e.2.2 ++ [k]) ∨ (u + y ∉ L.map (fun e => e.1) ∧ S ++ [k] = [k])) := by
          rcases kvL_at (u + y) L with ⟨e, he, e1, e2⟩ | ⟨no, e2⟩
          · exact ⟨some (.ref e.2.1), e.2.2, by rw [← e2]; exact DGet.k (k := Sum.inl (u + y)) tl4.d, ⟨_, rfl, tl4.ls e he⟩, .inl ⟨e, he, e1, rfl⟩⟩
          · exact ⟨none, [], by rw [← e2]; exact DGet.k (k := Sum.inl (u + y)) tl4.d, ⟨_, rfl, h4⟩, .inr ⟨no, rfl⟩⟩
        obtain ⟨qa, eqa, hqa⟩ := ho
        refine ⟨o, dg, ?_⟩
        rw [eqa]
        refine ⟨.int (k : Nat), rfl, sl1, fun q1 nq1 => ?_⟩
        have s5 := same_upd (o := (HO.tup [V.int (k : Nat)])) nq1
        have h5 : upd H4 q1 (HO.tup [V.int (k : Nat)]) q1 = some (HO.tup [V.int (k : Nat)]) := upd_same
        generalize upd H4 q1 (HO.tup [V.int (k : Nat)]) = H5 at s5 h5 ⊢
        have lS : S.length ≤ k + 1 := by
          rcases hS with ⟨e, he, _, e2⟩ | ⟨_, e2⟩
          · have := sm3.pl e he
            have h2 := plAt_len (vw.map (·.2)) k j e.1
            have h3 := congrArg List.length e2
            rw [List.length_append, List.length_append, this] at h3
            omega
          · have h3 := congrArg List.length e2
            rw [List.length_append] at h3
            have h3 : S.length + 1 = 1 := h3
            omega
        refine catA (s5 _ _ hqa) h5 (by rw [nV_len]; exact Nat.le_trans (show S.length + 1 ≤ 100 by omega) (by decide)) fun q2 H6 s6 h6 => ?_
        have tl6 := (tl4.same s5).same s6
        have s36 := s3.trans (s4.trans (s5.trans s6))
        have h6 : H6 q2 = some (.tup (nV (S ++ [k]))) := by rw [nV_app]; exact h6
        refine ⟨.ref ma, rfl, .int (u + y), rfl, ma, _, rfl, DPut.k (k := Sum.inl (u + y)) tl6.d ?_, ?_⟩
        · unfold kvL
          rw [List.length_map]
          exact Nat.lt_of_le_of_lt (show L.length ≤ 50000 by omega) (by decide)
        refine ⟨_, _, putL L (u + y) q2 (S ++ [k]), rfl, sameU s36 nma, tl6.put (u + y) h6, sem_put sm3 rise' hu' tl3.nk hS, ?_⟩
        have := putL_len L (u + y) q2 (S ++ [k])
        omega
      · rintro σ H3 ⟨y5, y6, L, rfl, s3, tl3, sm3, ll3⟩
        rw [List.length_map] at sm3 ll3
        refine ⟨_, _, _, L, rfl, s3, tl3, ?_, by omega⟩
        have : SemT L (vw.map (·.2)) k ((vw.map (·.2)).getD k []).length := by rw [ek, List.length_map]; exact sm3
        exact this.next
    rintro σ H2 ⟨y4, y5, y6, L, rfl, s2, tl, sm, ll⟩
    have elx : (xs.length : Int).toNat = vw.length := by omega
    rw [elx] at sm ll
    refine ⟨.ref wl, rfl, wl, rfl, ⟨_, SqL.of (s2 _ _ hw)⟩, fun wo nwo => ?_⟩
    refine lc_list (K := K) (a := wl) (xs := xs) (fun i H' => Same H2 H' ∧ H' wo = some (.lst (((ws.take i).map (·.1)).map V.int))) ⟨same_upd nwo, upd_same⟩ (fun i H' _ z => SqL.of (z.1 _ _ (s2 _ _ hw))) ?_ ?_
    · rintro i v H3 hv ⟨s3, ho⟩
      obtain ⟨x, hx, tx⟩ := tw.at hv
      obtain ⟨wa, t, rfl, ha, ht⟩ := tx.wv_inv
      have hi := (List.getElem?_eq_some_iff.mp hx).1
      refine ⟨rfl, .ref wa, rfl, wa, _, 0, .int x.1, rfl, rfl, SqT.of (s3 _ _ (s2 _ _ ha)), rfl, _, ho, ?_, sameU s3 nwo, ?_⟩
      · rw [List.length_map, List.length_map, List.length_take]
        exact Nat.lt_of_le_of_lt (show min i ws.length ≤ 3 by omega) (by decide)
      · rw [upd_same, List.take_add_one, hx, List.map_append, List.map_append]
        rfl
    rintro H3 ⟨s3, ho⟩
    have hfirst := shWs_firsts ld
    rw [hV, firsts okv] at hfirst
    rw [lx, List.take_length, ← hfirst] at ho
    have s03 := s2.trans s3
    have tl3 := tl.same s3
    have nwo0 := none_of_same s2 nwo
    have w01 : ∀ t, ∀ u ∈ vw.map (fun x => wv x t), u = 0 ∨ u = 1 := fun t u hu => by
      obtain ⟨x, _, rfl⟩ := List.mem_map.mp hu
      exact wv01 x t
    have lW : ∀ t, (vw.map fun x => wv x t).length = ws.length := fun t => (List.length_map ..).trans lv
    have hb' : ∀ t, bs.length = 2 ^ (vw.map fun x => wv x t).length := fun t => by rw [lW]; exact hb
    have l3' : ∀ t, (vw.map fun x => wv x t).length ≤ 3 := fun t => by rw [lW]; exact l3
    refine ⟨.str (tabOf bs), rfl, .ref wo, rfl, bs, wo, _, rfl, SqL.of ho, w01 (-1), hb' _, l3' _, ?_⟩
    refine ⟨sl1, fun ta nta => ?_⟩
    have nta0 := none_of_same s03 nta
    have nwta : wo ≠ ta := ne_of_none ho nta
    have s4 := same_upd (o := (HO.lst [V.int (gateM bs (vw.map fun x => wv x (-1)))])) nta
    have h4 : upd H3 ta (HO.lst [V.int (gateM bs (vw.map fun x => wv x (-1)))]) ta = some (HO.lst [V.int (gateM bs (vw.map fun x => wv x (-1)))]) := upd_same
    generalize upd H3 ta (HO.lst [V.int (gateM bs (vw.map fun x => wv x (-1)))]) = H4 at s4 h4 ⊢
    refine ⟨Nat.zero_le _, fun ti nti => ?_⟩
    have nti0 := none_of_same (s03.trans s4) nti
    have ho4 := s4 _ _ ho
    have nwti : wo ≠ ti := ne_of_none ho4 nti
    have ntti : ta ≠ ti := ne_of_none h4 nti
    have s5 := same_upd (o := (HO.lst [])) nti
    have h5 : upd H4 ti (HO.lst []) ti = some (HO.lst []) := upd_same
    generalize upd H4 ti (HO.lst []) = H5 at s5 h5 ⊢
    have tl5 := (tl3.same s4).same s5
    have s05 := (s03.trans s4).trans s5
    refine ⟨.ref ma, rfl, ma, kvL L, L.map (·.1), rfl, tl5.d, ?_, fun ms p pm pw np => ?_⟩
    · unfold kvL
      rw [List.map_map, List.map_map]
      rfl
    have sT := same_upd (o := (HO.lst (ms.map V.int))) np
    have hT : upd H5 p (HO.lst (ms.map V.int)) p = some (HO.lst (ms.map V.int)) := upd_same
    generalize upd H5 p (HO.lst (ms.map V.int)) = HT at sT hT ⊢
    have tlT := tl5.same sT
    have rise : ms.Pairwise (· < ·) := (pw.and ((pm.nodup_iff).mpr tl.nk)).imp fun {x y} h => by
      obtain ⟨h1, h2⟩ := h
      omega
    have mem : ∀ t, t ∈ ms ↔ ∃ i, i < (vw.map (·.2)).length ∧ t ∈ (vw.map (·.2)).getD i [] := fun t => by
      rw [pm.mem_iff, List.length_map]
      refine (sm.ks t).trans ⟨fun h => ?_, fun ⟨i, h1, h2⟩ => .inl ⟨i, h1, h2⟩⟩
      rcases h with ⟨i, h1, h2⟩ | h
      · exact ⟨i, h1, h2⟩
      · rw [List.take_zero] at h
        cases h
    have mem' : ∀ t, t ∈ ms ↔ ∃ x ∈ vw, t ∈ x.2 := fun t => by
      rw [mem]
      constructor
      · rintro ⟨i, h1, h2⟩
        rw [List.length_map] at h1
        refine ⟨vw[i], List.getElem_mem h1, ?_⟩
        rw [List.getD_eq_getElem?_getD, List.getElem?_map, List.getElem?_eq_getElem h1] at h2
        exact h2
      · rintro ⟨x, hx, h⟩
        obtain ⟨i, hi⟩ := List.getElem?_of_mem hx
        refine ⟨i, by rw [List.length_map]; exact (List.getElem?_eq_some_iff.mp hi).1, ?_⟩
        rw [List.getD_eq_getElem?_getD, List.getElem?_map, hi]
        exact h
    have lo : ∀ t ∈ ms, 0 ≤ t := fun t ht => by
      obtain ⟨x, hx, h⟩ := (mem' t).mp ht
      exact (okv x hx).lo t h
    have f01 : ∀ t, gateV bs vw t = 0 ∨ gateV bs vw t = 1 := fun t => gate01 _ _
    have con := gateV_con (bs := bs) mem'
    have few : ms.length ≤ 30000 := by
      have := pm.length_eq
      rw [List.length_map] at this
      omega
    have npw : p ≠ wo := (ne_of_none (s5 _ _ ho4) np).symm
    have npa : p ≠ ta := (ne_of_none (s5 _ _ h4) np).symm
    have npi : p ≠ ti := (ne_of_none h5 np).symm
    refine ⟨p, rfl, ⟨_, SqL.of hT⟩, ?_⟩
    refine for_list (K := K) (a := p) (xs := ms.map V.int) (fun i σ H' => ∃ y4 y5 y6 acc pre, σ = [some (.str (tabOf bs)), some (.ref wl), some (.ref da), some (.ref ma), y4, y5, y6, some (.ref wo), some (.ref ta), some (.ref ti), none] ∧ Kp3 wo ta ti HT H' ∧ H' wo = some (.lst ((vw.map fun x => wv x (curM ms i)).map V.int)) ∧ H' ta = some (.lst ((pre ++ [acc.2]).map V.int)) ∧ pre.length = i ∧ (pre ++ [acc.2])[0]? = some (gateV bs vw (-1)) ∧ H' ti = some (.lst (acc.1.map V.int)) ∧ TInv (gateV bs vw) ms i acc)
      ⟨_, _, _, ([], gateV bs vw (-1)), [], rfl, Kp3.refl, sT _ _ (s5 _ _ ho4), sT _ _ (s5 _ _ h4), rfl, rfl, sT _ _ h5, tinv0 f01 lo con⟩ (fun i σ H' _ ⟨_, _, _, _, _, _, z, _⟩ => SqL.of (z _ _ npw npa npi hT)) ?_ ?_
    · rintro i v σ H6 hv ⟨y4, y5, y6, acc, pre, rfl, k6, ho6, ha6, lpre, h06, ht6, I⟩
      obtain ⟨t, ht, rfl⟩ := vint_at hv
      have hi : i < ms.length := (List.getElem?_eq_some_iff.mp ht).1
      have hmem : t ∈ L.map (fun e => e.1) := pm.mem_iff.mp (List.mem_of_getElem? ht)
      obtain ⟨e, he, e1, e2⟩ := (kvL_at t L).resolve_right fun z => z.1 hmem
      have pl := sm.pl e he
      rw [e1] at pl
      have pe := plAt_end (vw.map (·.2)) t
      rw [List.length_map] at pe
      rw [pe] at pl
      have hls := tlT.ls e he
      rw [pl] at hls
      have h6 : ∀ {b o}, b ≠ wo → b ≠ ta → b ≠ ti → HT b = some o → H6 b = some o := fun h1 h2 h3 e => k6 _ _ h1 h2 h3 e
      have new3 : ∀ {b : Addr} {o : HO}, H2 b = some o → b ≠ wo ∧ b ≠ ta ∧ b ≠ ti := fun z => ⟨ne_of_none z nwo, ne_of_none (s3 _ _ z) nta, ne_of_none (s4 _ _ (s3 _ _ z)) nti⟩
      obtain ⟨m1, m2, m3⟩ := new3 tl.d
      obtain ⟨q1, q2, q3⟩ := new3 (tl.ls e he)
      have hma := h6 m1 m2 m3 tlT.d
      have hqa := h6 q1 q2 q3 hls
      refine ⟨.ref ma, rfl, .int t, rfl, ma, .ref e.2.1, rfl, (by rw [← e2]; exact DGet.k (k := Sum.inl t) hma), e.2.1, rfl, ⟨_, SqT.of hqa⟩, ?_⟩
      refine for_tup (K := K) (a := e.2.1) (xs := nV (plcs (vw.map (·.2)) t)) (fun j σ H' => ∃ y4, σ = [some (.str (tabOf bs)), some (.ref wl), some (.ref da), some (.ref ma), y4, y5, some (.int t), some (.ref wo), some (.ref ta), some (.ref ti), none] ∧ Kp3 wo ta ti HT H' ∧ H' wo = some (.lst ((flipsM (vw.map fun x => wv x (curM ms i)) ((plcs (vw.map (·.2)) t).take j)).map V.int)) ∧ H' ta = some (.lst ((pre ++ [acc.2]).map V.int)) ∧ H' ti = some (.lst (acc.1.map V.int)))
        ⟨_, rfl, k6, ho6, ha6, ht6⟩ (fun j σ H' _ ⟨_, _, z, _⟩ => SqT.of (z _ _ q1 q2 q3 hls)) ?_ ?_
      · rintro j v σ H7 hv ⟨y4, rfl, k7, ho7, ha7, ht7⟩
        obtain ⟨k, hk, rfl⟩ : ∃ k, (plcs (vw.map (·.2)) t)[j]? = some k ∧ v = V.int (k : Nat) := by
          obtain ⟨b, hb, rfl⟩ := vint_at hv
          rw [List.getElem?_map] at hb
          obtain ⟨k, hk, e⟩ := Option.map_eq_some_iff.mp hb
          exact ⟨k, hk, by rw [← e]; rfl⟩
        have kl : k < vw.length := by
          have := (plcs_mem.mp (List.mem_of_getElem? hk)).1
          rw [List.length_map] at this
          exact this
        generalize hF : flipsM (vw.map fun x => wv x (curM ms i)) ((plcs (vw.map (·.2)) t).take j) = F at ho7
        have lF : F.length = vw.length := by rw [← hF, flips_len, List.length_map]
        have hFk : F[k]? = some (F.getD k 0) := by rw [List.getD_eq_getElem?_getD, List.getElem?_eq_getElem (by omega)]; rfl
        refine ⟨.ref wo, rfl, .int (k : Nat), rfl, wo, _, ((k : Nat) : Int), .int (F.getD k 0), rfl, rfl, SqL.of ho7, atI_nat (by rw [List.getElem?_map, hFk]; rfl), _, _, rfl, rfl, .ref wo, rfl, .int (k : Nat), rfl, wo, _, _, k, rfl, rfl, ho7, ixN_k (by rw [List.length_map, lF]; exact kl), ?_⟩
        refine ⟨_, rfl, fun b o h1 h2 h3 e => by rw [upd_ne h1]; exact k7 b o h1 h2 h3 e, ?_, by rw [upd_ne nwta.symm]; exact ha7, by rw [upd_ne nwti.symm]; exact ht7⟩
        rw [upd_same, List.take_add_one, hk]
        show _ = some (HO.lst ((flipsM _ (_ ++ [k])).map V.int))
        rw [flips_snoc, hF, List.map_set]
      · rintro σ H7 ⟨y4, rfl, k7, ho7, ha7, ht7⟩
        rw [nV_len, List.take_length, flips_turn okv rise mem ht] at ho7
        have ec : curM ms (i + 1) = t := by
          unfold curM
          rw [if_neg (Nat.succ_ne_zero i), Nat.add_sub_cancel, List.getD_eq_getElem?_getD, ht]
          rfl
        have st := tinv_step f01 rise con I ht
        have la : acc.1.length ≤ 30000 := by
          have := I.sub.length_le
          rw [List.length_take] at this
          omega
        refine ⟨.ref ta, rfl, .inl ⟨rfl, _, SqL.of ha7⟩, .str (tabOf bs), rfl, .ref wo, rfl, bs, wo, _, rfl, SqL.of ho7, w01 t, hb' _, l3' _, ta, _, _, rfl, rfl, ha7, ?_, ?_⟩
        · rw [List.length_map, List.length_append, lpre]
          exact Nat.lt_of_le_of_lt (show i + 1 ≤ 30001 by omega) (by decide)
        have ea : (pre ++ [acc.2]).map V.int ++ [V.int (gateV bs vw t)] = ((pre ++ [acc.2]) ++ [gateV bs vw t]).map V.int := by
          rw [List.map_append (l₁ := pre ++ [acc.2])]
          rfl
        have ha8 : upd H7 ta (.lst ((pre ++ [acc.2]).map V.int ++ [V.int (gateV bs vw t)])) ta = some (.lst (((pre ++ [acc.2]) ++ [gateV bs vw t]).map V.int)) := by rw [upd_same, ea]
        have ho8 : upd H7 ta (.lst ((pre ++ [acc.2]).map V.int ++ [V.int (gateV bs vw t)])) wo = _ := (upd_ne nwta).trans ho7
        have ht8 : upd H7 ta (.lst ((pre ++ [acc.2]).map V.int ++ [V.int (gateV bs vw t)])) ti = _ := (upd_ne ntti.symm).trans ht7
        have k8 : Kp3 wo ta ti HT (upd H7 ta (.lst ((pre ++ [acc.2]).map V.int ++ [V.int (gateV bs vw t)]))) := fun b o h1 h2 h3 e => by rw [upd_ne h2]; exact k7 b o h1 h2 h3 e
        show tSeq _ _ _ _ (upd H7 ta (HO.lst ((pre ++ [acc.2]).map V.int ++ [V.int (gateV bs vw t)])))
        generalize upd H7 ta (.lst ((pre ++ [acc.2]).map V.int ++ [V.int (gateV bs vw t)])) = H8 at ha8 ho8 ht8 k8 ⊢
        have lpn : (pre ++ [acc.2]).length = i + 1 := by rw [List.length_append, lpre]; rfl
        have h0 : ((pre ++ [acc.2]) ++ [gateV bs vw t])[0]? = some (gateV bs vw (-1)) := by rw [List.getElem?_append_left (by omega)]; exact h06
        refine ⟨.ref ta, rfl, _, rfl, ta, _, -1, .int (gateV bs vw t), rfl, rfl, SqL.of ha8, atI_last1 .., .ref ta, rfl, _, rfl, ta, _, -2, .int acc.2, rfl, rfl, SqL.of ha8, atI_last2 .., rfl, _, rfl, ite2 (fun e => ?_) (fun e => ?_)⟩
        · have ne : gateV bs vw t ≠ acc.2 := fun z => by
            have : (!decide (V.int (gateV bs vw t) = V.int acc.2)) = true := e
            rw [z, decide_eq_true rfl] at this
            cases this
          have es : stepT (gateV bs vw) acc t = (acc.1 ++ [t], gateV bs vw t) := by
            unfold stepT
            rw [if_pos ne]
          rw [es] at st
          refine ⟨.ref ti, rfl, .inl ⟨rfl, _, SqL.of ht8⟩, .int t, rfl, ti, _, _, rfl, rfl, ht8, ?_, ?_⟩
          · rw [List.length_map]
            exact Nat.lt_of_le_of_lt la (by decide)
          refine ⟨_, _, _, (acc.1 ++ [t], gateV bs vw t), pre ++ [acc.2], rfl, fun b o h1 h2 h3 e => by rw [upd_ne h3]; exact k8 b o h1 h2 h3 e, ?_, by rw [upd_ne ntti]; exact ha8, lpn, h0, ?_, st⟩
          · rw [upd_ne nwti, ec]
            exact ho8
          · rw [upd_same, List.map_append]
            rfl
        · have eq : gateV bs vw t = acc.2 := by
            apply Classical.byContradiction
            intro ne
            apply e
            show (!decide (V.int (gateV bs vw t) = V.int acc.2)) = true
            rw [decide_eq_false (fun z => ne (V.int.inj z))]
            rfl
          have es : stepT (gateV bs vw) acc t = (acc.1, gateV bs vw t) := by
            unfold stepT
            rw [if_neg (fun z => z eq)]
          rw [es] at st
          refine ⟨_, _, _, (acc.1, gateV bs vw t), pre ++ [acc.2], rfl, k8, ?_, ha8, lpn, h0, ht8, st⟩
          rw [ec]
          exact ho8
    · rintro σ H6 ⟨y4, y5, y6, acc, pre, rfl, k6, ho6, ha6, lpre, h06, ht6, I⟩
      rw [List.length_map] at I
      have W := gateV_end rise lo I
      have s06 : Same H H6 := fun b o z => k6 b o (ne_of_none z nwo0) (ne_of_none z nta0) (ne_of_none z nti0) ((s05.trans sT) b o z)
      refine ⟨.ref ta, rfl, ta, _, ((0 : Nat) : Int), .int (gateV bs vw (-1)), rfl, rfl, SqL.of ha6, atI_nat (by rw [List.getElem?_map, h06]; rfl), .ref ti, rfl, ti, _, rfl, .inl ⟨SqL.of ht6, fun tp ntp => ?_⟩⟩
      have s7 := same_upd (o := (HO.tup (acc.1.map V.int))) ntp
      have h7 : upd H6 tp (HO.tup (acc.1.map V.int)) tp = some (HO.tup (acc.1.map V.int)) := upd_same
      generalize upd H6 tp (HO.tup (acc.1.map V.int)) = H7 at s7 h7 ⊢
      refine ⟨sl2, fun r nr => ?_⟩
      have s8 := same_upd (o := HO.tup [V.int (gateV bs vw (-1)), .ref tp]) nr
      exact q r _ (gateV bs vw (-1), acc.1) ((s06.trans s7).trans s8) (.tup upd_same (.cons (.int _) (.cons (.tup (s8 _ _ h7) (TkAll.ints _)) .nil))) W

end
end Gk

set_option Elab.async false
set_option linter.all false
set_option maxRecDepth 100000
set_option maxHeartbeats 1000000
set_option pp.maxSteps 1500
set_option pp.deepTerms false
namespace Gk
open PySem PySem.Spec PyProof.Rows L2
/-- tuple * int, the int from 1 on: by 1 it is the tuple itself -/
theorem tuple_mul1 (l : Addr) (items : Array Value) (n : Nat) (dd : Option Addr) (sl : Array (Option Value)) (u : Tok) :
    Meets (Builtin.«tuple.__mul__» ⟨[.ref l, .int 1 u], []⟩) (fun _ R s => s.heap.get? l = some { cls := .type "tuple", dict := dd, data := .seq items n, slots := sl } ∧ R (.ok (.ret (Value.ref l))) s) :=
  .of_wp fun prog w A R s h => by
    obtain ⟨hp, g, d, tk, os⟩ := s
    obtain ⟨hl, h⟩ := h
    have f1 := AutoSeq1.idx_int
    have c1 : (items.isEmpty || (1 : Int) == 1) = true := by simp
    wp_walk using wpAny_loadPart' hl
    repeat (first
      | (refine wpAny_ite_false (decide_eq_false (by decide)) ?_; wp_walk using wpAny_loadPart' hl)
      | (refine wpAny_ite_true (decide_eq_true c1) ?_; wp_walk using wpAny_loadPart' hl))
    exact ⟨_, rfl, h⟩
def rRepT1 (K : PySem.W.Frag) : R2 := fun x y H Q => ∃ l k xs, x = .ref l ∧ y = .int k ∧ SqT K H l xs ∧ xs ≠ [] ∧ 1 ≤ k ∧ k ≤ 1000 ∧ xs.length ≤ 1000 ∧ (k = 1 → Q (.ref l) H) ∧ (2 ≤ k → ∀ p, H p = none → Q (.ref p) (upd H p (.tup (List.replicate k.toNat xs).flatten)))
theorem op_repT1 {X : Cx} : OpR X (binaryOp .Mult) (rRepT1 X.K) := by
  intro pins s σ H x y v u Q I rx ry h
  obtain ⟨l, k, xs, ex, ey, hT, full, one, most, few, q1, q2⟩ := h
  by_cases hk : k = 1
  · subst hk
    subst ex ey
    cases rx
    obtain ⟨tk, rfl⟩ := ry
    obtain ⟨its, r, ⟨ob, hob, hcl, c, hdt⟩, _⟩ := I.tuple hT
    obtain ⟨cls, dd, data, sl⟩ := ob
    cases (show cls = Value.type "tuple" from hcl)
    cases (show data = Data.seq its.toArray c from hdt)
    exact wpAny_binaryOp_repeat_ref (T := "tuple") (U := "int") (by decide) ⟨_, hob, rfl⟩ (fun z => typeIs_int z 1 tk) noFill_tuple_mul F.fills_int_mul F.slot_int_rmul repeat_tuple F.slot_int_index.lookup
      (call_meets F.slot_int_rmul (typeIs_int s 1 tk) F.entry_int_rmul (F.args_int_rmul_2 _ _) (int_rmul_tuple 1 tk l its.toArray c dd sl) ⟨hob, rfl, ⟨_, hob, rfl⟩,
        call_meets F.slot_tuple_mul ⟨_, hob, rfl⟩ F.entry_tuple_mul (F.args_tuple_mul_2 _ _) (tuple_mul1 l its.toArray c dd sl tk) ⟨hob, ⟨.ref l, H, I, rfl, q1 rfl⟩⟩⟩)
  · exact op_repT pins s σ H x y v u Q I rx ry ⟨l, k, xs, ex, ey, hT, full, by omega, most, few, q2 (by omega)⟩
theorem repA {K : PySem.W.Frag} {l : Addr} {xs : List V} {k : Int} {H : Hp} {Q : VK} (h : H l = some (.tup xs)) (ne : xs ≠ []) (k1 : 1 ≤ k) (k2 : k ≤ 1000) (hl : xs.length ≤ 1000) (q : ∀ p H', Same H H' → H' p = some (.tup (List.replicate k.toNat xs).flatten) → Q (.ref p) H') : rRepT1 K (.ref l) (.int k) H Q :=
  ⟨l, k, xs, rfl, rfl, SqT.of h, ne, k1, k2, hl, fun e => q l H (fun _ _ z => z) (by rw [h, e]; show _ = some (HO.tup (List.replicate 1 xs).flatten); simp), fun _ p np => q p _ (same_upd np) upd_same⟩

/-! ### tuple * int, the int 0 or 1 -/
namespace Rp01
open PySem PySem.Spec PyProof.Rows L2
theorem tuple_mul0 (l : Addr) (items : Array Value) (n : Nat) (dd : Option Addr) (sl : Array (Option Value)) (u : Tok) (c1 : items.isEmpty = false) :
    Meets (Builtin.«tuple.__mul__» ⟨[.ref l, .int 0 u], []⟩) (fun _ R s => s.heap.get? l = some { cls := .type "tuple", dict := dd, data := .seq items n, slots := sl } ∧
      R (.ok (.ret (Value.ref s.heap.objs.size))) { s with heap := s.heap.push { cls := Value.type "tuple", data := Data.seq #[] }, toks := s.toks }) :=
  .of_wp fun prog w A R s h => by
    obtain ⟨hp, g, d, tk, os⟩ := s
    obtain ⟨hl, h⟩ := h
    have f1 := AutoSeq1.idx_int
    have c2 : (items.isEmpty || (0 : Int) == 1) = false := by rw [c1]; rfl
    have c3 : (decide ((0 : Int) ≤ 0) || items.isEmpty) = true := by rw [c1]; rfl
    wp_walk using wpAny_loadPart' hl
    repeat (first
      | (refine wpAny_ite_false (decide_eq_false (by decide)) ?_; wp_walk using wpAny_loadPart' hl)
      | (refine wpAny_ite_false (decide_eq_false (by rw [c2]; exact Bool.false_ne_true)) ?_; wp_walk using wpAny_loadPart' hl)
      | (refine wpAny_ite_true (decide_eq_true c3) ?_; wp_walk using wpAny_loadPart' hl))
    exact ⟨_, rfl, h⟩
def rRep01 (K : PySem.W.Frag) : R2 := fun x y H Q => ∃ l k xs, x = .ref l ∧ y = .int k ∧ SqT K H l xs ∧ xs ≠ [] ∧ xs.length ≤ 1000 ∧ (k = 0 ∨ k = 1) ∧ (k = 1 → Q (.ref l) H) ∧ (k = 0 → ∀ p, H p = none → Q (.ref p) (upd H p (.tup [])))
theorem op_rep01 {X : Cx} : OpR X (binaryOp .Mult) (rRep01 X.K) := by
  intro pins s σ H x y v u Q I rx ry h
  obtain ⟨l, k, xs, ex, ey, hT, full, few, h01, q1, q0⟩ := h
  by_cases hk : k = 1
  · exact op_repT1 pins s σ H x y v u Q I rx ry ⟨l, k, xs, ex, ey, hT, full, by omega, by omega, few, q1, fun z => by omega⟩
  · have hk : k = 0 := by omega
    subst hk
    subst ex ey
    cases rx
    obtain ⟨tk, rfl⟩ := ry
    obtain ⟨its, r, ⟨ob, hob, hcl, c, hdt⟩, _⟩ := I.tuple hT
    obtain ⟨cls, dd, data, sl⟩ := ob
    cases (show cls = Value.type "tuple" from hcl)
    cases (show data = Data.seq its.toArray c from hdt)
    have hle : its.length = xs.length := r.length.symm
    have hi : its.toArray.isEmpty = false := by
      cases its with
      | nil => exact absurd (List.eq_nil_of_length_eq_zero hle.symm) full
      | cons a b => rfl
    refine wpAny_binaryOp_repeat_ref (T := "tuple") (U := "int") (by decide) ⟨_, hob, rfl⟩ (fun z => typeIs_int z 0 tk) noFill_tuple_mul F.fills_int_mul F.slot_int_rmul repeat_tuple F.slot_int_index.lookup
      (call_meets F.slot_int_rmul (typeIs_int s 0 tk) F.entry_int_rmul (F.args_int_rmul_2 _ _) (int_rmul_tuple 0 tk l its.toArray c dd sl) ⟨hob, rfl, ⟨_, hob, rfl⟩,
        call_meets F.slot_tuple_mul ⟨_, hob, rfl⟩ F.entry_tuple_mul (F.args_tuple_mul_2 _ _) (tuple_mul0 l its.toArray c dd sl tk hi) ⟨hob, ?_⟩⟩)
    refine ⟨.ref s.heap.objs.size, _, I.laid (t' := s.toks) (o := .tup []) (fun b ob q => Heap.get?_push_of_some _ q) (Nat.le_refl _) ?_, rfl, q0 rfl _ (I.hok.fresh (Nat.le_refl _))⟩
    exact ⟨Nat.zero_le _, _, .nil, IsTup.new _ _⟩
end Rp01

section
variable {P : Program} {w : World} {K : PySem.W.Frag} {mg : Str → Option Value} {base : Heap}
/-! ### the law's waves of a net, or None -/
theorem shWs_late (ws : List (Int × List Int)) (ins : List Nat) (d : List Int) : shWs (ins.map fun r => ws.getD r (0, [])) d = lateW ws ins d := by
  unfold shWs lateW
  rw [List.zip_map_left, List.map_map]
  rfl
def sp_l_due (K : PySem.W.Frag) : Sp := fun vs H Q _ => ∃ (nv dv cv : V) (m : Nat) (gs : List Gt) (D : List (List Int)) (a b : List Int), vs = [nv, dv, cv] ∧ Tk H nv (netD m gs) ∧ Tk H dv (delsD D) ∧ Tk H cv (chD a b) ∧ RunOk m gs D a b ∧ m ≤ 1000 ∧ gs.length ≤ 1000 ∧
  (∀ r H' ws, Same H H' → Tk H' (.ref r) (.tuple (ws.map wvD)) → ws.length = m + gs.length → Wvs ws (valAt gs D a b) → (∀ x ∈ ws, x.2.length ≤ 200) → Q (.ref r) H') ∧ ∀ H' r x, Same H H' → r < m + gs.length → Wv x (valAt gs D a b r) → 200 < x.2.length → Q .non H'
theorem ok_due (T : Tx K mg) : FnOk P w K mg base CX0 3 T.f_due T.fd_due ["_law_net_here", "_law_delays_here", "_law_change"] (sp_l_due K) := by
  refine T.F_due.ok sc_due (fun vs H Q E h => ?_) (fun cdv A outer s H vs Q E hr h => ?_)
  · obtain ⟨nv, dv, cv, m, gs, D, a, b, rfl, _⟩ := h
    rfl
  · obtain ⟨nv, dv, cv, m, gs, D, a, b, rfl, tn, td, tc, ⟨okn, sh, nn, la, lb, ha, hb⟩, m1, g1, q, no⟩ := h
    refine ⟨_, (pss_cons (ps_set (i := 3) sc_due.nd rfl (by first | exact .inl rfl | exact .inr rfl) (pe_lc (own := [("_law_one", 7), ("_law_other", 8)]) (by rfl) sc_due.nd (ZpG.pi_zip2 (by rfl) T.m_zip (pa_cons (pe_ix ix_tup (pv 2) pe_int (fun _ _ => rfl)) (pa_cons (pe_ix ix_tup (pv 2) pe_int (fun _ _ => rfl)) pa_nil))) (blkOk_by (own := [("_law_one", 7), ("_law_other", 8)]) (N := ["_law_net_here", "_law_delays_here", "_law_change", "_law_waves", "_law_gate", "_law_table_here", "_law_ins", "_law_one", "_law_other", "_law_wire"]) (sc := defScope s_due) (by decide +kernel)) (fun _ _ _ _ _ => (show PG _ _ (gTup K 2 _) from pg_tup rfl (pgs_cons (pg_name (i := 7) sc_due.nd rfl (by first | exact .inl rfl | exact .inr rfl)) (pgs_cons (pg_name (i := 8) sc_due.nd rfl (by first | exact .inl rfl | exact .inr rfl)) pgs_nil)))) (fun _ _ _ _ _ => pts_nil) (fun _ _ _ _ _ => (pe_tup (pa_cons (pv 7) (pa_cons (pe_op (show OpR _ _ (Rp01.rRep01 K) from Rp01.op_rep01) (pe_tup (pa_cons pe_int pa_nil)) (pe_callTy call_int1 (by rfl) T.m_int (by decide +kernel) (pa_cons (pe_cmpR op_ne (pv 7) (pv 8) (nomark _)) pa_nil))) pa_nil)))))) (pss_cons (ps_for PassesOwn.never rfl (pi_range1 (by rfl) T.m_range (pa_cons (pe_callB call_len_seq (by rfl) T.m_len PySem.boot_len (pa_cons (pe_ix ix_tup (pv 0) pe_int (fun _ _ => rfl)) pa_nil)) pa_nil)) (pg_name (i := 4) sc_due.nd rfl (by first | exact .inl rfl | exact .inr rfl)) (pss_cons (ps_asg (pe_ix ix_tup (pe_ix ix_tup (pv 0) pe_int (fun _ _ => rfl)) (pv 4) (fun _ _ => rfl)) (pg_tup rfl (pgs_cons (pg_name (i := 5) sc_due.nd rfl (by first | exact .inl rfl | exact .inr rfl)) (pgs_cons (pg_name (i := 6) sc_due.nd rfl (by first | exact .inl rfl | exact .inr rfl)) pgs_nil)))) (pss_cons (ps_expr (pe_bm PySem.F.plainAttrs_list PySem.F.slot_list_append PySem.F.type_list_append mt_append (pv 3) (pa_cons (pe_call (ok_wave T) (hr.mono (by decide)) (by rfl) T.g_wave T.F_wave.kp T.b_wave .nil pass0 (pa_cons (pv 5) (pa_cons (pe_lc (own := [("_law_wire", 9)]) (by rfl) sc_due.nd (pi_tup (pv 6)) (blkOk_by (own := [("_law_wire", 9)]) (N := ["_law_net_here", "_law_delays_here", "_law_change", "_law_waves", "_law_gate", "_law_table_here", "_law_ins", "_law_one", "_law_other", "_law_wire"]) (sc := defScope s_due) (by decide +kernel)) (fun _ _ _ _ _ => (pg_name (i := 9) sc_due.nd rfl (by first | exact .inl rfl | exact .inr rfl))) (fun _ _ _ _ _ => pts_nil) (fun _ _ _ _ _ => (pe_ix (show IxR _ (rIxL K) from ix_list) (pv 3) (pv 9) (fun _ _ => rfl)))) (pa_cons (pe_ix ix_tup (pv 1) (pv 4) (fun _ _ => rfl)) pa_nil)))) pa_nil))) (pss_one (ps_if (pt_cmpR op_gt (pe_callB call_len_seq (by rfl) T.m_len PySem.boot_len (pa_cons (pe_ix ix_tup (pe_ix ix_list (pv 3) (pe_un un_neg pe_int) (fun _ _ => rfl)) pe_int (fun _ _ => rfl)) pa_nil)) pe_int (nomark _)) (pss_one (ps_ret pe_non)) pss_nil))))) (pss_one (ps_ret (pe_callTy call_tuple_of (by rfl) T.m_tuple (by decide +kernel) (pa_cons (pv 3) pa_nil)))))), ?_⟩
    obtain ⟨c, ra, rb, rfl, hc, hra, hrb⟩ := tc.ch_inv
    obtain ⟨n, g, xs, rfl, hn, hg, tg⟩ := tn.net_inv
    obtain ⟨da, ds, rfl, hd, tds⟩ := td.tup_inv
    have lx : xs.length = gs.length := by rw [tg.length, List.length_map]
    have lD : ds.length = D.length := by rw [tds.length, List.length_map]
    refine ⟨.ref c, rfl, c, _, 0, .ref ra, rfl, rfl, SqT.of hc, rfl, .ref c, rfl, c, _, 1, .ref rb, rfl, rfl, SqT.of hc, rfl, .tu ra, .tu rb, _, _, rfl, SqT.of hra, SqT.of hrb, fun W nW => ?_⟩
    refine ZpG.lc_zip2 (K := K) (z1 := .tu ra) (z2 := .tu rb) (xs1 := a.map V.int) (xs2 := b.map V.int) (n := m) (by rw [List.length_map, la]) (by rw [List.length_map, lb])
      (fun i H' => Same H (hd1 W H') ∧ ∃ vs, H' W = some (.lst vs) ∧ TkAll H' vs (((wav0 a b).take i).map wvD)) ⟨hd1_of (same_upd nW) nW, [], upd_same, .nil⟩ (fun i H' _ z => ⟨SqT.of (hd1_le _ _ (z.1 _ _ hra)), SqT.of (hd1_le _ _ (z.1 _ _ hrb))⟩) ?_ ?_
    · rintro i v1 v2 T' H1 h1 h2 nT ⟨s1, vs, hW, tv⟩
      obtain ⟨x, hx, rfl⟩ := vint_at h1
      obtain ⟨y, hy, rfl⟩ := vint_at h2
      have hi : i < m := by rw [← la]; exact (List.getElem?_eq_some_iff.mp hx).1
      have s2 := same_upd (o := HO.tup [V.int x, V.int y]) nT
      have h2' : upd H1 T' (HO.tup [V.int x, V.int y]) T' = some (.tup [V.int x, V.int y]) := upd_same
      generalize upd H1 T' (HO.tup [V.int x, V.int y]) = H2 at s2 h2' ⊢
      refine ⟨T', _, rfl, SqT.of h2', rfl, _, _, rfl, _, _, rfl, rfl, rfl, .int x, rfl, sl1, fun p np => ?_⟩
      have s3 := same_upd (o := (HO.tup [V.int 0])) np
      have h3 : upd H2 p (HO.tup [V.int 0]) p = some (HO.tup [V.int 0]) := upd_same
      generalize upd H2 p (HO.tup [V.int 0]) = H3 at s3 h3 ⊢
      have fin : ∀ (H4 : Hp) (q0 : Addr), Same H3 H4 → H4 q0 = some (.tup ((InWave x y).map V.int)) → ∀ r (nr : H4 r = none), ∃ acc, upd H4 r (.tup [V.int x, .ref q0]) W = some (.lst acc) ∧ acc.length < sizeLine ∧ (fun (i : Nat) (H' : Hp) => Same H (hd1 W H') ∧ ∃ vs, H' W = some (.lst vs) ∧ TkAll H' vs (((wav0 a b).take i).map wvD)) (i + 1) (upd (upd H4 r (.tup [V.int x, .ref q0])) W (.lst (acc ++ [.ref r]))) := fun H4 q0 s4 hq0 r nr => by
        have s5 := same_upd (o := HO.tup [V.int x, .ref q0]) nr
        have h5 : upd H4 r (HO.tup [V.int x, .ref q0]) r = some (.tup [V.int x, .ref q0]) := upd_same
        have hq5 := s5 _ _ hq0
        generalize upd H4 r (HO.tup [V.int x, .ref q0]) = H5 at s5 h5 hq5 ⊢
        have s13 := s2.trans (s3.trans (s4.trans s5))
        have hW3 := s13 _ _ hW
        have lv : vs.length = i := by rw [tv.length, List.length_map, List.length_take, wav0_len la lb]; omega
        have ts := Ts.set (ys := vs ++ [V.ref r]) hW3
        refine ⟨vs, hW3, ?_, (s1.trans (hd1_same s13)).trans hd1_upd, vs ++ [.ref r], upd_same, ?_⟩
        · exact Nat.lt_of_le_of_lt (show vs.length ≤ 1000 by omega) (by decide)
        · have e : (wav0 a b)[i]? = some (x, InWave x y) := by
            unfold wav0
            have hz : (a.zip b)[i]? = some (x, y) := by rw [List.getElem?_zip_eq_some]; exact ⟨hx, hy⟩
            rw [List.getElem?_map, hz]
            rfl
          have tr : Tk H5 (.ref r) (wvD (x, InWave x y)) := .tup h5 (.cons (.int _) (.cons (.tup hq5 (TkAll.ints _)) .nil))
          rw [List.take_add_one, e, List.map_append]
          exact ((tv.same s13).ts ts (noLs_map noL_wv _)).append (.cons (tr.ts ts (noL_wv _)) .nil)
      by_cases z : x = y
      · have ew : InWave x y = [] := if_pos z
        refine ⟨.int x, rfl, .int y, rfl, rfl, .inr ⟨_, rfl, p, _, _, rfl, rfl, SqT.of h3, (fun k => by cases k), (by decide), .inl (by rw [decide_eq_true (congrArg V.int z)]; rfl), (fun k => by rw [decide_eq_true (congrArg V.int z)] at k; cases k), fun _ q0 nq0 => ⟨sl2, fun r nr => ?_⟩⟩⟩
        exact fin _ q0 (same_upd nq0) (by rw [upd_same, ew]; rfl) r nr
      · have ew : InWave x y = [0] := if_neg z
        refine ⟨.int x, rfl, .int y, rfl, rfl, .inr ⟨_, rfl, p, _, _, rfl, rfl, SqT.of h3, (fun k => by cases k), (by decide), .inr (by rw [decide_eq_false (fun k => z (V.int.inj k))]; rfl), (fun _ => ⟨sl2, fun r nr => ?_⟩), fun k => by rw [decide_eq_false (fun k => z (V.int.inj k))] at k; cases k⟩⟩
        exact fin _ p (Same.refl _) (by rw [h3, ew]; rfl) r nr
    · rintro H1 ⟨s1, vs, hW, tv⟩
      rw [List.take_of_length_le (by rw [wav0_len la lb]; exact Nat.le_refl _)] at tv
      have k1 : ∀ {b o}, H b = some o → H1 b = some o := fun e => hd1_le _ _ (s1 _ _ e)
      refine ⟨.ref n, rfl, n, _, 1, .ref g, rfl, rfl, SqT.of (k1 hn), rfl, g, _, rfl, .inr (SqT.of (k1 hg)), xs.length, rfl, by omega, by omega, ?_⟩
      refine for_range (lo := 0) (n := (xs.length : Int).toNat) (fun i σ H' => ∃ y4 y5 y6 vs ws, σ = [some (.ref n), some (.ref da), some (.ref c), some (.ref W), y4, y5, y6, none, none, none] ∧ Same H (hd1 W H') ∧ H' W = some (.lst vs) ∧ TkAll H' vs (ws.map wvD) ∧ ws.length = m + i ∧ Wvs ws (valAt gs D a b) ∧ ∀ x ∈ ws, x.2.length ≤ 200)
        ⟨_, _, _, vs, wav0 a b, rfl, s1, hW, tv, by rw [wav0_len la lb]; rfl, wav0_ok la lb ha hb okn sh, wav0_few⟩ ?_ ?_
      · rintro i σ H2 hi ⟨y4, y5, y6, vs, ws, rfl, s2, hW2, tv2, lw, wok, few⟩
        have k2 : ∀ {b o}, H b = some o → H2 b = some o := fun e => hd1_le _ _ (s2 _ _ e)
        have hi' : i < gs.length := by omega
        obtain ⟨gt, hgt⟩ : ∃ gt, gs[i]? = some gt := ⟨_, List.getElem?_eq_getElem hi'⟩
        obtain ⟨d, hdd⟩ : ∃ d, D[i]? = some d := ⟨_, List.getElem?_eq_getElem (by rw [sh.1]; exact hi')⟩
        obtain ⟨v1, h1, tgt⟩ := tg.at' hgt
        obtain ⟨v2, h2, tdd⟩ := tds.at' hdd
        obtain ⟨ga, ii, rfl, hga, hii⟩ := tgt.gt_inv
        obtain ⟨dl, rfl, hdl⟩ := tdd.row_inv
        have okg := okn i gt hgt
        have ld := sh.2 i gt d hgt hdd
        have e0 : (0 : Int) + (i : Int) = (i : Int) := Int.zero_add _
        rw [e0]
        refine ⟨.ref n, rfl, n, _, 1, .ref g, rfl, rfl, SqT.of (k2 hn), rfl, .int (i : Nat), rfl, g, _, ((i : Nat) : Int), .ref ga, rfl, rfl, SqT.of (k2 hg), atI_nat h1, ga, _, rfl, SqT.of (k2 hga), rfl, _, _, rfl, _, _, rfl, rfl, ?_⟩
        refine ⟨.ref W, rfl, .inl ⟨rfl, _, SqL.of hW2⟩, .str (tabOf gt.1), rfl, .ref ii, rfl, ii, rfl, ⟨_, SqT.of (k2 hii)⟩, fun C nC => ?_⟩
        have lvs : vs.length = ws.length := by rw [tv2.length, List.length_map]
        have WC : W ≠ C := ne_of_none hW2 nC
        refine lc_tup (K := K) (a := ii) (xs := nV gt.2) (fun j H' => Same H2 (hd1 C H') ∧ ∃ us, H' C = some (.lst us) ∧ TkAll H' us (((gt.2.map fun r => ws.getD r (0, [])).take j).map wvD)) ⟨hd1_of (same_upd nC) nC, [], upd_same, .nil⟩ (fun j H' _ z => SqT.of (hd1_le _ _ (z.1 _ _ (k2 hii)))) ?_ ?_
        · rintro j v H4 hv ⟨s4, us, hC4, tu4⟩
          obtain ⟨r, hr', rfl⟩ := nV_at hv
          have rl := okg.2.2.2 r (List.mem_of_getElem? hr')
          have hj := (List.getElem?_eq_some_iff.mp hr').1
          have k4 : Same H2 H4 := fun b o e => hd1_le _ _ (s4 b o e)
          have hw : ws[r]? = some (ws.getD r (0, [])) := by rw [List.getD_eq_getElem?_getD, List.getElem?_eq_getElem (by omega)]; rfl
          obtain ⟨wv', hv', tw⟩ := tv2.at' hw
          have lu : us.length = j := by rw [tu4.length, List.length_map, List.length_take, List.length_map]; omega
          have ts := Ts.set (ys := us ++ [wv']) hC4
          refine ⟨rfl, .ref W, rfl, .int (r : Nat), rfl, W, vs, ((r : Nat) : Int), wv', rfl, rfl, SqL.of (k4 _ _ hW2), atI_nat hv', us, hC4, ?_, s4.trans hd1_upd, us ++ [wv'], upd_same, ?_⟩
          · have := okg.2.2.1
            exact Nat.lt_of_le_of_lt (show us.length ≤ 3 by omega) (by decide)
          · have e : (gt.2.map fun r => ws.getD r (0, []))[j]? = some (ws.getD r (0, [])) := by rw [List.getElem?_map, hr']; rfl
            rw [List.take_add_one, e, List.map_append]
            exact (tu4.ts ts (noLs_map noL_wv _)).append (.cons ((tw.same k4).ts ts (noL_wv _)) .nil)
        rintro H4 ⟨s4, us, hC4, tu4⟩
        rw [nV_len, List.take_of_length_le (by rw [List.length_map]; exact Nat.le_refl _)] at tu4
        have k4 : Same H2 H4 := fun b o e => hd1_le _ _ (s4 b o e)
        refine ⟨.ref da, rfl, .int (i : Nat), rfl, da, _, ((i : Nat) : Int), .ref dl, rfl, rfl, SqT.of (k4 _ _ (k2 hd)), atI_nat h2, ?_⟩
        have okl : ∀ r ∈ gt.2, ∃ x, ws[r]? = some x ∧ ws.getD r (0, []) = x := fun r hr' => by
          have rl := okg.2.2.2 r hr'
          exact ⟨ws.getD r (0, []), by rw [List.getD_eq_getElem?_getD, List.getElem?_eq_getElem (by omega)]; rfl, rfl⟩
        refine ⟨gt.1, C, dl, us, gt.2.map fun r => ws.getD r (0, []), d, rfl, hC4, tu4, k4 _ _ (k2 hdl), by rw [List.length_map]; exact ld, by rw [List.length_map]; exact okg.1, by rw [List.length_map]; exact okg.2.2.1, fun x hx => ?_, nn d (List.mem_of_getElem? hdd), fun r2 H5 y s5 ty Wy => ?_⟩
        · obtain ⟨r, hr', rfl⟩ := List.mem_map.mp hx
          obtain ⟨x, hx, ex⟩ := okl r hr'
          rw [ex]
          exact ⟨(wok r x hx).self, Nat.le_trans (few x (List.mem_of_getElem? hx)) (by decide)⟩
        rw [shWs_late] at Wy
        have Wy' : Wv y (valAt gs D a b (m + i)) := Wy.ext fun t => lateW_V la lb okn sh nn hgt hdd lw wok t
        have k5 := k4.trans s5
        have hW5 := k5 _ _ hW2
        refine ⟨W, _, _, rfl, rfl, hW5, Nat.lt_of_le_of_lt (show vs.length ≤ 2000 by omega) (by decide), ?_⟩
        have ts := Ts.set (ys := vs ++ [V.ref r2]) hW5
        have s6 := (s2.trans (hd1_same k5)).trans (hd1_upd (H := H5) (o := .lst (vs ++ [V.ref r2])))
        have hW6 : upd H5 W (.lst (vs ++ [V.ref r2])) W = some (.lst (vs ++ [V.ref r2])) := upd_same
        have ty6 := ty.ts ts (noL_wv _)
        have tv6 := (tv2.same k5).ts ts (noLs_map noL_wv _)
        generalize upd H5 W (.lst (vs ++ [V.ref r2])) = H6 at s6 hW6 ty6 tv6 ⊢
        obtain ⟨wa, wt, e, hwa, hwt⟩ := ty6.wv_inv
        cases e
        refine ⟨.ref W, rfl, _, rfl, W, _, -1, .ref r2, rfl, rfl, SqL.of hW6, L2.atI_last .., r2, _, 1, .ref wt, rfl, rfl, SqT.of hwa, rfl, wt, _, rfl, .inr (SqT.of hwt), _, _, rfl, rfl, _, rfl, ite2 (fun e => ?_) (fun e => ?_)⟩
        · have e := of_decide_eq_true e
          rw [List.length_map] at e
          exact no _ (m + i) y (fun b o z => hd1_le _ _ (s6 b o z)) (by omega) Wy' (by omega)
        · refine ⟨_, _, _, vs ++ [.ref r2], ws ++ [y], rfl, s6, hW6, ?_, by rw [List.length_append, lw]; rfl, wok.snoc (by rw [lw]; exact Wy'), fun x hx => ?_⟩
          · rw [List.map_append]
            exact tv6.append (.cons ty6 .nil)
          · rcases List.mem_append.mp hx with k | k
            · exact few x k
            · have z : ¬ ((y.2.map V.int).length : Int) > 200 := fun q => e (decide_eq_true q)
              rw [List.length_map] at z
              rw [List.mem_singleton.mp k]
              omega
      · rintro σ H2 ⟨y4, y5, y6, vs, ws, rfl, s2, hW2, tv2, lw, wok, few⟩
        have ee : (xs.length : Int).toNat = gs.length := by omega
        rw [ee] at lw
        refine ⟨.ref W, rfl, W, _, rfl, .inl ⟨SqL.of hW2, fun p np => ?_⟩⟩
        have s3 := same_upd (o := HO.tup vs) np
        have k2 : Same H H2 := fun b o z => hd1_le _ _ (s2 b o z)
        exact q p _ ws (k2.trans s3) (.tup upd_same (tv2.same s3)) lw wok few

end
end Gk

set_option Elab.async false
set_option linter.all false
set_option maxRecDepth 100000
set_option maxHeartbeats 1000000
set_option pp.maxSteps 1500
set_option pp.deepTerms false
namespace Gk
open PySem PySem.Spec PyProof.Rows L2
section
variable {P : Program} {w : World} {K : PySem.W.Frag} {mg : Str → Option Value} {base : Heap}
/-! ### what is told of a run: the waves, or that it is refused -/
theorem same_del {H H' : Hp} {a : Addr} {o : HO} (s : Same (upd H a o) H') (n : H a = none) : Same H (delH H' a) := fun b x e => by
  have nb : b ≠ a := fun z => by rw [z, n] at e; cases e
  rw [delH_ne nb]
  exact s b x (by rw [upd_ne nb]; exact e)
def Big (m : Nat) (gs : List Gt) (D : List (List Int)) (a b : List Int) : Prop := ∃ r x, r < m + gs.length ∧ Wv x (valAt gs D a b r) ∧ 200 < x.2.length
def sp_l_told (T : Tx K mg) : Sp := fun vs H Q _ => ∃ (nv dv cv : V) (m : Nat) (gs : List Gt) (D : List (List Int)) (a b : List Int), vs = [nv, dv, cv] ∧ Tk H nv (netD m gs) ∧ Tk H dv (delsD D) ∧ Tk H cv (chD a b) ∧ RunOk m gs D a b ∧ m ≤ 1000 ∧ gs.length ≤ 1000 ∧ GxR.TabG H T.P_later ∧
  (∀ r w H' ws, Gr H H' → H' r = some (.tup [.ref w, .bl false]) → Tk H' (.ref w) (.tuple (ws.map wvD)) → ws.length = m + gs.length → Wvs ws (valAt gs D a b) → (∀ x ∈ ws, x.2.length ≤ 200) → Q (.ref r) H') ∧ ∀ H' r, Gr H H' → H' r = some (.tup [.non, .bl true]) → Big m gs D a b → Q (.ref r) H'
theorem ok_told (T : Tx K mg) (B : Tb base T) : FnOk P w K mg base CX0 4 T.f_told T.fd_told ["_law_net_here", "_law_delays_here", "_law_change"] (sp_l_told T) := by
  refine T.F_told.ok sc_told (fun vs H Q E h => ?_) (fun cdv A outer s H vs Q E hr h => ?_)
  · obtain ⟨nv, dv, cv, m, gs, D, a, b, rfl, _⟩ := h
    rfl
  · obtain ⟨nv, dv, cv, m, gs, D, a, b, rfl, tn, td, tc, R, m1, g1, tab, q, no⟩ := h
    refine ⟨_, (pss_cons (ps_set (i := 3) sc_told.nd rfl (by first | exact .inl rfl | exact .inr rfl) (pe_tup (pa_cons pe_non (pa_cons pe_bl pa_nil)))) (pss_cons (L2N.ps_try_as (i := 4) rfl rfl sc_told.nd rfl (by rfl) ⟨by rfl, by decide, .inl T.gC_NetError⟩ GxE.takesN (fun W pn xe tk own => (pss_one (ps_set (i := 3) sc_told.nd rfl (by first | exact .inl rfl | exact .inr rfl) (pe_tup (pa_cons (pe_callS (ok_waves_of T B) (hr.mono (by decide)) (by rfl) T.g_waves_of T.F_waves_of.kp T.b_waves_of (fun σ => L2N.passAt tk σ) (pa_cons (pv 0) (pa_cons (pv 1) (pa_cons (pv 2) pa_nil)))) (pa_cons pe_bl pa_nil)))))) (fun ea oe cls ed pn hz hf => (pss_cons (ps_set (i := 5) sc_told.nd rfl (by first | exact .inl rfl | exact .inr rfl) (pe_callB (GxE.call_isPT hz.zc hf) (by rfl) T.m_isinstance (by decide +kernel) (pa_cons (pv 4) (pa_cons (pe_tup (pa_cons (pe_glob (v := .ref T.C_NoForms) (by rfl) T.gC_NoForms rfl) (pa_cons (pe_glob (v := .ref T.C_NoRow) (by rfl) T.gC_NoRow rfl) (pa_cons (pe_glob (v := .ref T.C_NoText) (by rfl) T.gC_NoText rfl) (pa_cons (pe_glob (v := .ref T.C_NotFormula) (by rfl) T.gC_NotFormula rfl) (pa_cons (pe_glob (v := .ref T.C_NoTurn) (by rfl) T.gC_NoTurn rfl) pa_nil)))))) pa_nil)))) (pss_one (ps_set (i := 3) sc_told.nd rfl (by first | exact .inl rfl | exact .inr rfl) (pe_tup (pa_cons pe_non (pa_cons (pe_and (pe_callB (GxE.call_isP hz.zc hf) (by rfl) T.m_isinstance (by decide +kernel) (pa_cons (pv 4) (pa_cons (pe_glob (v := .ref T.C_TooMany) (by rfl) T.gC_TooMany rfl) pa_nil))) (pe_and (pe_callB (GxE.call_isP hz.zc hf) (by rfl) T.m_isinstance (by decide +kernel) (pa_cons (pv 4) (pa_cons (pe_bltn (v := .ty "ValueError") (u := .type "ValueError") (by rfl) T.m_ValueError (by decide +kernel) rfl) pa_nil))) (pe_one (pe_not (pv 5))))) pa_nil)))))))) (pss_one (ps_ret (pv 3))))), ?_⟩
    refine ⟨sl2, fun p0 n0 => ?_⟩
    have g0 := Gr.of (same_upd (o := HO.tup [.non, .bl false]) n0)
    generalize upd H p0 (HO.tup [.non, .bl false]) = H1 at g0 ⊢
    refine ⟨nv, rfl, dv, rfl, cv, rfl, nv, dv, cv, m, gs, D, a, b, rfl, tn.gr g0, td.gr g0, tc.gr g0, R, m1, g1, g0.2 _ tab, fun r H2 ws g2 tw lw wok few => ?_, fun H2 r x g2 rl Wx big => ?_⟩
    · refine ⟨sl2, fun p1 n1 => ?_⟩
      have s3 := same_upd (o := HO.tup [.ref r, .bl false]) n1
      exact ⟨_, rfl, q p1 r _ ws (g0.trans (g2.trans (Gr.of s3))) upd_same (tw.same s3) lw wok few⟩
    · refine ⟨true, T.x_TooMany_NetError, fun _ ea na => ?_, fun z => by cases z⟩
      refine ⟨.ref ea, rfl, (by show 5 ≤ sizeLine; decide), fun tp ntp => ?_⟩
      have s3 := same_upd (o := (HO.tup [.ref T.C_NoForms, .ref T.C_NoRow, .ref T.C_NoText, .ref T.C_NotFormula, .ref T.C_NoTurn])) ntp
      have h3 : upd H2 tp (HO.tup [.ref T.C_NoForms, .ref T.C_NoRow, .ref T.C_NoText, .ref T.C_NotFormula, .ref T.C_NoTurn]) tp = some (HO.tup [.ref T.C_NoForms, .ref T.C_NoRow, .ref T.C_NoText, .ref T.C_NotFormula, .ref T.C_NoTurn]) := upd_same
      generalize upd H2 tp (HO.tup [.ref T.C_NoForms, .ref T.C_NoRow, .ref T.C_NoText, .ref T.C_NotFormula, .ref T.C_NoTurn]) = H3 at s3 h3 ⊢
      refine ⟨T.C_TooMany, tp, _, [.ref T.C_NoForms, .ref T.C_NoRow, .ref T.C_NoText, .ref T.C_NotFormula, .ref T.C_NoTurn], false, rfl, rfl, rfl, T.X_TooMany, h3, .cons (.own _) (.cons (.own _) (.cons (.own _) (.cons (.own _) (.cons (.own _) .nil)))), ?_, ?_⟩
      · show PySem.W.kitAny K _ _ = _
        simp only [PySem.W.kitAny, T.t_TooMany_NoForms, T.t_TooMany_NoRow, T.t_TooMany_NoText, T.t_TooMany_NotFormula, T.t_TooMany_NoTurn]
      refine ⟨.ref ea, rfl, T.C_TooMany, _, _, true, rfl, rfl, rfl, T.X_TooMany, .own _, T.t_TooMany_TooMany, _, rfl, iteT ?_⟩
      refine ⟨.ref ea, rfl, T.C_TooMany, _, _, true, rfl, rfl, rfl, T.X_TooMany, .ty _, T.v_TooMany, _, rfl, iteT ?_⟩
      refine ⟨.bl false, rfl, false, rfl, sl2, fun p1 n1 => ?_⟩
      exact ⟨_, rfl, no _ p1 (g0.trans (g2.trans ((Gr.of s3).trans (Gr.of (same_upd n1))))) upd_same ⟨r, x, rl, Wx, big⟩⟩

end
end Gk

set_option Elab.async false
set_option linter.all false
set_option maxRecDepth 100000
set_option maxHeartbeats 1000000
set_option pp.maxSteps 1500
set_option pp.deepTerms false
namespace Gk
open PySem PySem.Spec PyProof.Rows L2
section
variable {P : Program} {w : World} {K : PySem.W.Frag} {mg : Str → Option Value} {base : Heap}
/-! ### sizes of what is shown -/
def fineB (n m : Nat) (d : PyData) : Bool := d.showable && (d.leavesShort 200 && (decide (d.weight ≤ n) && decide (d.depth ≤ m)))
theorem fine_iff {n m : Nat} {d : PyData} : fineB n m d = true ↔ d.showable = true ∧ d.leavesShort 200 = true ∧ d.weight ≤ n ∧ d.depth ≤ m := by
  unfold fineB
  rw [Bool.and_eq_true, Bool.and_eq_true, Bool.and_eq_true, decide_eq_true_eq, decide_eq_true_eq]
theorem fine_mono {n m n' m' : Nat} {d : PyData} (h : fineB n m d = true) (a : n ≤ n') (b : m ≤ m') : fineB n' m' d = true := by
  obtain ⟨h1, h2, h3, h4⟩ := fine_iff.mp h
  exact fine_iff.mpr ⟨h1, h2, Nat.le_trans h3 a, Nat.le_trans h4 b⟩
theorem fine_fits {n m : Nat} {d : PyData} (h : fineB n m d = true) (hn : n ≤ 50000) : d.shown.length ≤ sizeLine := by
  obtain ⟨_, h2, h3, _⟩ := fine_iff.mp h
  have := PyData.shown_le 200 (by decide) d h2
  have e : sizeLine = 16777216 := by decide
  rw [e]
  omega
theorem fine_all {n m : Nat} : ∀ {ds : List PyData}, (∀ d ∈ ds, fineB n m d = true) → PyData.showableAll ds = true ∧ PyData.leavesShortAll 200 ds = true ∧ PyData.weightAll ds ≤ ds.length * (n + 1) ∧ PyData.depthAll ds ≤ m
  | [], _ => ⟨rfl, rfl, Nat.zero_le _, Nat.zero_le _⟩
  | d :: r, h => by
    obtain ⟨a1, a2, a3, a4⟩ := fine_iff.mp (h d (List.mem_cons_self ..))
    obtain ⟨b1, b2, b3, b4⟩ := fine_all (ds := r) fun x hx => h x (List.mem_cons_of_mem _ hx)
    refine ⟨?_, ?_, ?_, ?_⟩
    · unfold PyData.showableAll
      rw [a1, b1]
      rfl
    · unfold PyData.leavesShortAll
      rw [a2, b2]
      rfl
    · unfold PyData.weightAll
      rw [List.length_cons, Nat.succ_mul]
      omega
    · unfold PyData.depthAll
      omega
theorem fine_tup {n m k : Nat} {ds : List PyData} (h : ∀ d ∈ ds, fineB n m d = true) (hk : ds.length ≤ k) : fineB (k * (n + 1)) (m + 1) (.tuple ds) = true := by
  obtain ⟨b1, b2, b3, b4⟩ := fine_all h
  refine fine_iff.mpr ⟨b1, b2, ?_, ?_⟩
  · show PyData.weightAll ds ≤ _
    exact Nat.le_trans b3 (Nat.mul_le_mul_right _ hk)
  · show PyData.depthAll ds + 1 ≤ _
    omega
theorem fine_lst {n m k : Nat} {ds : List PyData} (h : ∀ d ∈ ds, fineB n m d = true) (hk : ds.length ≤ k) : fineB (k * (n + 1)) (m + 1) (.list ds) = true := by
  obtain ⟨b1, b2, b3, b4⟩ := fine_all h
  refine fine_iff.mpr ⟨b1, b2, ?_, ?_⟩
  · show PyData.weightAll ds ≤ _
    exact Nat.le_trans b3 (Nat.mul_le_mul_right _ hk)
  · show PyData.depthAll ds + 1 ≤ _
    omega

mutual
theorem Sh.gr {H H' : Hp} (s : Gr H H') : ∀ {v : V} {d : PyData}, Sh H v d → Sh H' v d
  | _, _, .non => .non
  | _, _, .bl b => .bl b
  | _, _, .int i => .int i
  | _, _, .str x => .str x
  | _, _, .lst h n t => .lst (s.lst h) n (t.gr s)
  | _, _, .tup h t => .tup (s.tup h) (t.gr s)
  | _, _, .dic h t => .dic (s.1 _ _ (fun _ z => by cases z) h) (t.gr s)
theorem ShAll.gr {H H' : Hp} (s : Gr H H') : ∀ {vs : List V} {ds : List PyData}, ShAll H vs ds → ShAll H' vs ds
  | _, _, .nil => .nil
  | _, _, .cons h t => .cons (h.gr s) (t.gr s)
end
theorem ShAll.get {H : Hp} : ∀ {xs : List V} {ds : List PyData} {j : Nat} {x : V}, ShAll H xs ds → xs[j]? = some x → ∃ d, ds[j]? = some d ∧ Sh H x d
  | _, _, _, _, .nil, h => by simp at h
  | _, _, 0, _, .cons (d := d) a _, h => by
    cases (Option.some.inj h)
    exact ⟨d, rfl, a⟩
  | _, _, j + 1, _, .cons _ t, h => t.get h
theorem ShAll.append {H : Hp} : ∀ {xs ys : List V} {ds es : List PyData}, ShAll H xs ds → ShAll H ys es → ShAll H (xs ++ ys) (ds ++ es)
  | _, _, _, _, .nil, t => t
  | _, _, _, _, .cons a r, t => .cons a (r.append t)
theorem ShAll.take {H : Hp} : ∀ {xs : List V} {ds : List PyData} (n : Nat), ShAll H xs ds → ShAll H (xs.take n) (ds.take n)
  | _, _, 0, _ => by rw [List.take_zero, List.take_zero]; exact .nil
  | _, _, n + 1, .nil => .nil
  | _, _, n + 1, .cons a r => .cons a (r.take n)
theorem ShAll.drop {H : Hp} : ∀ {xs : List V} {ds : List PyData} (n : Nat), ShAll H xs ds → ShAll H (xs.drop n) (ds.drop n)
  | _, _, 0, h => h
  | _, _, n + 1, .nil => .nil
  | _, _, n + 1, .cons _ r => r.drop n
theorem notT {b : Bool} (h : (!b) = true) : ¬ b = true := by cases b <;> simp_all
theorem notF {b : Bool} (h : ¬ (!b) = true) : b = true := by cases b <;> simp_all

theorem str_len (x : String) : (Str.ofString x).length = x.length := PySem.ofString_length x

theorem int_weight {i : Int} {k : Nat} (h : i.natAbs < 2 ^ k) : (PyData.int i).weight ≤ k := by
  show (if i == 0 then 0 else i.natAbs.log2 + 1) ≤ k
  by_cases z : i = 0
  · rw [if_pos (by rw [z]; rfl)]
    exact Nat.zero_le _
  · rw [if_neg (by simpa using z)]
    exact (Nat.log2_lt (by omega)).mpr h

/-! ### what is spoilt stays small -/
mutual
def gd (B : Nat) : PyData → Bool
  | .none => true
  | .bool _ => true
  | .int i => decide (i.natAbs ≤ B)
  | .str x => x.cps.toList.all fun c => decide (c < 128)
  | .list xs => gds B xs
  | .tuple xs => gds B xs
  | .dict kvs => kvs.isEmpty
def gds (B : Nat) : List PyData → Bool
  | [] => true
  | x :: r => gd B x && gds B r
end
theorem gds_iff {B : Nat} : ∀ {l : List PyData}, gds B l = true ↔ ∀ x ∈ l, gd B x = true
  | [] => ⟨fun _ x hx => (by cases hx), fun _ => rfl⟩
  | y :: r => by
    show (gd B y && gds B r) = true ↔ _
    rw [Bool.and_eq_true, gds_iff (l := r)]
    exact ⟨fun ⟨a, b⟩ x hx => (List.mem_cons.mp hx).elim (fun e => e ▸ a) (b x), fun h => ⟨h y (List.mem_cons_self ..), fun x hx => h x (List.mem_cons_of_mem _ hx)⟩⟩
mutual
theorem gd_mono {B C : Nat} (h : B ≤ C) : ∀ {d : PyData}, gd B d = true → gd C d = true
  | .none, _ => rfl
  | .bool _, _ => rfl
  | .int _, e => decide_eq_true (Nat.le_trans (of_decide_eq_true e) h)
  | .str _, e => e
  | .list _, e => gds_mono h e
  | .tuple _, e => gds_mono h e
  | .dict _, e => e
theorem gds_mono {B C : Nat} (h : B ≤ C) : ∀ {l : List PyData}, gds B l = true → gds C l = true
  | [], _ => rfl
  | _ :: _, e => by
    have e' := Bool.and_eq_true_iff.mp e
    exact Bool.and_eq_true_iff.mpr ⟨gd_mono h e'.1, gds_mono h e'.2⟩
end
theorem small_log {i : Int} {B : Nat} (h : i.natAbs ≤ B) (hB : B < 2 ^ 190) : i.natAbs.log2 < 190 := by
  by_cases z : i.natAbs = 0
  · rw [z]; decide
  · exact (Nat.log2_lt z).mpr (Nat.lt_of_le_of_lt h hB)
mutual
theorem gd_show {B : Nat} (hB : B < 2 ^ 190) : ∀ {d : PyData}, gd B d = true → d.showable = true ∧ d.leavesShort 200 = true
  | .none, _ => ⟨rfl, rfl⟩
  | .bool _, _ => ⟨rfl, rfl⟩
  | .int i, e => by
    have l := small_log (of_decide_eq_true e) hB
    refine ⟨decide_eq_true (Nat.lt_trans l (by decide)), decide_eq_true ?_⟩
    have := PySem.int_text_length_le (a := i) (k := 190) (by decide) l
    show (Str.ofString (toString i)).length ≤ 200
    rw [str_len]
    omega
  | .str x, e => by
    refine ⟨rfl, ?_⟩
    show (x.cps.toList.all fun c => decide (c < 16 ^ 8)) = true
    refine List.all_eq_true.mpr fun c hc => decide_eq_true (Nat.lt_trans (of_decide_eq_true (List.all_eq_true.mp e c hc)) (by decide))
  | .list _, e => gds_show hB e
  | .tuple _, e => gds_show hB e
  | .dict [], _ => ⟨rfl, rfl⟩
  | .dict (_ :: _), e => by cases e
theorem gds_show {B : Nat} (hB : B < 2 ^ 190) : ∀ {l : List PyData}, gds B l = true → PyData.showableAll l = true ∧ PyData.leavesShortAll 200 l = true
  | [], _ => ⟨rfl, rfl⟩
  | _ :: _, e => by
    have e' := Bool.and_eq_true_iff.mp e
    have a := gd_show hB e'.1
    have b := gds_show hB e'.2
    exact ⟨Bool.and_eq_true_iff.mpr ⟨a.1, b.1⟩, Bool.and_eq_true_iff.mpr ⟨a.2, b.2⟩⟩
end
def Fit (B n m : Nat) (d : PyData) : Prop := gd B d = true ∧ d.weight ≤ n ∧ d.depth ≤ m
def FitL (B n m : Nat) (ds : List PyData) : Prop := gds B ds = true ∧ PyData.weightAll ds ≤ n ∧ PyData.depthAll ds ≤ m
theorem Fit.mono {B n m B' n' m' : Nat} {d : PyData} (h : Fit B n m d) (a : B ≤ B') (b : n ≤ n') (c : m ≤ m') : Fit B' n' m' d := ⟨gd_mono a h.1, Nat.le_trans h.2.1 b, Nat.le_trans h.2.2 c⟩
theorem Fit.tup {B n m : Nat} {ds : List PyData} (h : FitL B n m ds) : Fit B n (m + 1) (.tuple ds) := ⟨h.1, h.2.1, Nat.succ_le_succ h.2.2⟩
theorem Fit.lst {B n m : Nat} {ds : List PyData} (h : FitL B n m ds) : Fit B n (m + 1) (.list ds) := ⟨h.1, h.2.1, Nat.succ_le_succ h.2.2⟩
theorem Fit.inv {B n m : Nat} {ds : List PyData} (h : Fit B n (m + 1) (.tuple ds)) : FitL B n m ds := ⟨h.1, h.2.1, Nat.le_of_succ_le_succ h.2.2⟩
theorem Fit.fine {B n m : Nat} {d : PyData} (h : Fit B n m d) (hB : B < 2 ^ 190) (hn : n ≤ 50000) (hm : m ≤ 50) : d.showable = true ∧ d.shown.length ≤ sizeLine ∧ d.depth ≤ 50 := by
  have s := gd_show hB h.1
  exact ⟨s.1, fine_fits (n := n) (m := m) (fine_iff.mpr ⟨s.1, s.2, h.2.1, h.2.2⟩) hn, Nat.le_trans h.2.2 hm⟩
theorem weight_app : ∀ a b : List PyData, PyData.weightAll (a ++ b) = PyData.weightAll a + PyData.weightAll b
  | [], b => (Nat.zero_add _).symm
  | x :: r, b => by
    show x.weight + 1 + PyData.weightAll (r ++ b) = x.weight + 1 + PyData.weightAll r + PyData.weightAll b
    rw [weight_app r b]
    omega
theorem depth_app : ∀ a b : List PyData, PyData.depthAll (a ++ b) = max (PyData.depthAll a) (PyData.depthAll b)
  | [], b => (Nat.zero_max _).symm
  | x :: r, b => by
    show max x.depth (PyData.depthAll (r ++ b)) = max (max x.depth (PyData.depthAll r)) (PyData.depthAll b)
    rw [depth_app r b, Nat.max_assoc]
theorem FitL.app {B n n' m : Nat} {a b : List PyData} (h : FitL B n m a) (g : FitL B n' m b) : FitL B (n + n') m (a ++ b) := by
  refine ⟨gds_iff.mpr fun x hx => ?_, ?_, ?_⟩
  · rcases List.mem_append.mp hx with z | z
    · exact gds_iff.mp h.1 x z
    · exact gds_iff.mp g.1 x z
  · rw [weight_app]
    exact Nat.add_le_add h.2.1 g.2.1
  · rw [depth_app]
    exact Nat.max_le.mpr ⟨h.2.2, g.2.2⟩
theorem FitL.parts {B n m : Nat} {a b : List PyData} (h : FitL B n m (a ++ b)) : FitL B n m a ∧ FitL B n m b := by
  obtain ⟨h1, h2, h3⟩ := h
  rw [weight_app] at h2
  rw [depth_app] at h3
  exact ⟨⟨gds_iff.mpr fun x hx => gds_iff.mp h1 x (List.mem_append_left _ hx), by omega, by omega⟩, ⟨gds_iff.mpr fun x hx => gds_iff.mp h1 x (List.mem_append_right _ hx), by omega, by omega⟩⟩
theorem FitL.take {B n m : Nat} {a : List PyData} (h : FitL B n m a) (k : Nat) : FitL B n m (a.take k) := by
  rw [← List.take_append_drop k a] at h
  exact h.parts.1
theorem FitL.drop {B n m : Nat} {a : List PyData} (h : FitL B n m a) (k : Nat) : FitL B n m (a.drop k) := by
  rw [← List.take_append_drop k a] at h
  exact h.parts.2
theorem FitL.one {B n m : Nat} {d : PyData} (h : Fit B n m d) : FitL B (n + 1) m [d] := by
  refine ⟨gds_iff.mpr fun x hx => by rw [List.mem_singleton.mp hx]; exact h.1, ?_, ?_⟩
  · show d.weight + 1 + 0 ≤ n + 1
    have := h.2.1
    omega
  · show max d.depth 0 ≤ m
    have := h.2.2
    omega
theorem FitL.get {B n m : Nat} {ds : List PyData} (h : FitL B n m ds) {j : Nat} {d : PyData} (e : ds[j]? = some d) : Fit B n m d := by
  have s : ds = ds.take j ++ [d] ++ ds.drop (j + 1) := by
    obtain ⟨hl, e'⟩ := List.getElem?_eq_some_iff.mp e
    rw [← e', List.append_assoc, List.singleton_append, List.getElem_cons_drop, List.take_append_drop]
  rw [s] at h
  obtain ⟨h1, h2, h3⟩ := h.parts.1.parts.2
  refine ⟨gds_iff.mp h1 d (List.mem_singleton.mpr rfl), ?_, ?_⟩
  · have : d.weight + 1 + 0 ≤ n := h2
    omega
  · have : max d.depth 0 ≤ m := h3
    omega
theorem weight_rev (a : List PyData) : PyData.weightAll a.reverse = PyData.weightAll a := by
  induction a with
  | nil => rfl
  | cons x r ih =>
    rw [List.reverse_cons, weight_app, ih]
    show PyData.weightAll r + (x.weight + 1 + 0) = x.weight + 1 + PyData.weightAll r
    omega
theorem depth_rev (a : List PyData) : PyData.depthAll a.reverse = PyData.depthAll a := by
  induction a with
  | nil => rfl
  | cons x r ih =>
    rw [List.reverse_cons, depth_app, ih]
    show max (PyData.depthAll r) (max x.depth 0) = max x.depth (PyData.depthAll r)
    omega
theorem FitL.rev {B n m : Nat} {a : List PyData} (h : FitL B n m a) : FitL B n m a.reverse :=
  ⟨gds_iff.mpr fun x hx => gds_iff.mp h.1 x (List.mem_reverse.mp hx), by rw [weight_rev]; exact h.2.1, by rw [depth_rev]; exact h.2.2⟩
theorem ShAll.rev {H : Hp} : ∀ {xs : List V} {ds : List PyData}, ShAll H xs ds → ShAll H xs.reverse ds.reverse
  | _, _, .nil => .nil
  | _, _, .cons a r => by
    rw [List.reverse_cons, List.reverse_cons]
    exact (ShAll.rev r).append (.cons a .nil)

mutual
theorem Tk.sh {H : Hp} : ∀ {v : V} {d : PyData}, Tk H v d → noL d = true → Sh H v d
  | _, _, .bl b, _ => .bl b
  | _, _, .int i, _ => .int i
  | _, _, .str x, _ => .str x
  | _, _, .lst h t, n => by cases n
  | _, _, .tup h t, n => .tup h (t.sh n)
theorem TkAll.sh {H : Hp} : ∀ {vs : List V} {ds : List PyData}, TkAll H vs ds → noLs ds = true → ShAll H vs ds
  | _, _, .nil, _ => .nil
  | _, _, .cons (d := d) (ds := ds) h t, n => by
    have n' : noL d = true ∧ noLs ds = true := Bool.and_eq_true_iff.mp n
    exact .cons (h.sh n'.1) (t.sh n'.2)
end

/-! ### many great waves shown -/
mutual
theorem gd_short {B : Nat} (hB : B < 10 ^ 38) : ∀ {d : PyData}, gd B d = true → d.leavesShort 40 = true
  | .none, _ => rfl
  | .bool _, _ => rfl
  | .int i, e => by
    have := PySem.int_text_length_le10 (a := i) (k := 38) (by decide) (Nat.lt_of_le_of_lt (of_decide_eq_true e) hB)
    refine decide_eq_true ?_
    show (Str.ofString (toString i)).length ≤ 40
    rw [str_len]
    omega
  | .str x, e => by
    show (x.cps.toList.all fun c => decide (c < 16 ^ 8)) = true
    refine List.all_eq_true.mpr fun c hc => decide_eq_true (Nat.lt_trans (of_decide_eq_true (List.all_eq_true.mp e c hc)) (by decide))
  | .list _, e => gds_short hB e
  | .tuple _, e => gds_short hB e
  | .dict [], _ => rfl
  | .dict (_ :: _), e => by cases e
theorem gds_short {B : Nat} (hB : B < 10 ^ 38) : ∀ {l : List PyData}, gds B l = true → PyData.leavesShortAll 40 l = true
  | [], _ => rfl
  | _ :: _, e => by
    have e' := Bool.and_eq_true_iff.mp e
    exact Bool.and_eq_true_iff.mpr ⟨gd_short hB e'.1, gds_short hB e'.2⟩
end
theorem Fit.fineG {B n m : Nat} {d : PyData} (h : Fit B n m d) (hB : B < 10 ^ 38) (hn : n ≤ 390000) (hm : m ≤ 50) : d.showable = true ∧ d.shown.length ≤ sizeLine ∧ d.depth ≤ 50 := by
  have s := gd_show (B := B) (Nat.lt_trans hB (by decide)) h.1
  refine ⟨s.1, ?_, Nat.le_trans h.2.2 hm⟩
  have := PyData.shown_le 40 (by decide) d (gd_short hB h.1)
  have e : sizeLine = 16777216 := by decide
  have := h.2.1
  rw [e]
  omega
theorem fitg_n {i : Int} (h0 : 0 ≤ i) (h1 : i < 2 ^ 106) : Fit (2 ^ 106) 106 0 (.int i) := by
  have : i.natAbs < 2 ^ 106 := by omega
  exact ⟨decide_eq_true (Nat.le_of_lt this), int_weight this, Nat.zero_le _⟩
theorem fitg_map {α : Type} {f : α → PyData} {B n M : Nat} : ∀ l : List α, (∀ x ∈ l, Fit B n M (f x)) → FitL B ((n + 1) * l.length) M (l.map f)
  | [], _ => ⟨rfl, Nat.le_refl _, Nat.zero_le _⟩
  | x :: r, h => by
    have a := (FitL.one (h x (List.mem_cons_self ..))).app (fitg_map (f := f) r fun y hy => h y (List.mem_cons_of_mem _ hy))
    exact ⟨a.1, Nat.le_trans a.2.1 (by rw [List.length_cons, Nat.mul_succ]; omega), a.2.2⟩
theorem fitg_wave {x : Int × List Int} (f01 : x.1 = 0 ∨ x.1 = 1) (hl : x.2.length ≤ 200) (bd : ∀ t ∈ x.2, 0 ≤ t ∧ t < 2 ^ 106) : Fit (2 ^ 106) 21403 2 (wvD x) := by
  have a : Fit (2 ^ 106) 1 1 (.int x.1) := ⟨decide_eq_true (by rcases f01 with z | z <;> rw [z] <;> decide), int_weight (by rcases f01 with z | z <;> rw [z] <;> decide), Nat.zero_le _⟩
  have b : Fit (2 ^ 106) 21400 1 (rowD x.2) := by
    have f := fitg_map (f := PyData.int) (B := 2 ^ 106) (n := 106) (M := 0) x.2 fun t ht => fitg_n (bd t ht).1 (bd t ht).2
    exact (Fit.tup f).mono (Nat.le_refl _) (by omega) (Nat.le_refl _)
  have ab := (FitL.one a).app (FitL.one b)
  exact (Fit.tup ab).mono (Nat.le_refl _) (by omega) (Nat.le_refl _)
theorem fitg_waves {ws : List (Int × List Int)} (h : ∀ x ∈ ws, (x.1 = 0 ∨ x.1 = 1) ∧ x.2.length ≤ 200 ∧ ∀ t ∈ x.2, 0 ≤ t ∧ t < 2 ^ 106) (hl : ws.length ≤ 18) : (PyData.tuple (ws.map wvD)).showable = true ∧ (PyData.tuple (ws.map wvD)).shown.length ≤ sizeLine ∧ (PyData.tuple (ws.map wvD)).depth ≤ 50 := by
  have f := fitg_map (f := wvD) (B := 2 ^ 106) (n := 21403) (M := 2) ws fun x hx => fitg_wave (h x hx).1 (h x hx).2.1 (h x hx).2.2
  exact (Fit.tup f).fineG (by decide) (by omega) (by decide)

/-! ### when nothing changes any more -/
theorem sum_bd {M : List Int} {b : Int} (h : ∀ z ∈ M, 0 ≤ z ∧ z ≤ b) : 0 ≤ M.sum ∧ M.sum ≤ b * M.length := by
  induction M with
  | nil => simp
  | cons x r ih =>
    obtain ⟨i1, i2⟩ := ih fun z hz => h z (List.mem_cons_of_mem _ hz)
    obtain ⟨x1, x2⟩ := h x List.mem_cons_self
    rw [List.sum_cons, List.length_cons]
    push_cast
    rw [Int.mul_add]
    omega
/-- behind the greatest delays together nothing changes -/
theorem still {m : Nat} {gs : List Gt} {D : List (List Int)} {a b : List Int} {M : List Int} (R : RunOk m gs D a b) (un : Under D M) {r : Nat} (hr : r < m + gs.length) {t : Int} (ht : M.sum < t) : valAt gs D a b r t = valAt gs D a b r (t - 1) := by
  have lM : M.length = gs.length := by rw [un.1]; exact R.sh.1
  have e : M.take gs.length = M := List.take_of_length_le (by omega)
  refine V_hi R.la R.lb R.okn R.sh un gs.length (Nat.le_refl _) r hr t (t - 1) ?_ ?_
  · rw [e]; omega
  · rw [e]; omega
theorem in_run {m : Nat} {gs : List Gt} {D : List (List Int)} {a b : List Int} {M : List Int} (R : RunOk m gs D a b) (un : Under D M) {r : Nat} (hr : r < m + gs.length) {x : Int × List Int} (W : Wv x (valAt gs D a b r)) : ∀ t ∈ x.2, 0 ≤ t ∧ t ≤ M.sum := fun t ht => by
  refine ⟨W.lo t ht, ?_⟩
  apply Classical.byContradiction
  intro z
  exact (W.mem t).mp ht (still R un hr (by omega))
theorem under_rep {m : Nat} {gs : List Gt} {D : List (List Int)} {c : Int} (sh : Shape gs D) (c0 : 0 ≤ c) (bd : ∀ d ∈ D, ∀ x ∈ d, x ≤ c) : Under D (List.replicate gs.length c) ∧ (List.replicate gs.length c).sum = c * gs.length := by
  have sum : ∀ n : Nat, (List.replicate n c).sum = c * n := fun n => by
    induction n with
    | zero => simp
    | succ n ih =>
      rw [List.replicate_succ, List.sum_cons, ih]
      push_cast
      rw [Int.mul_add]
      omega
  exact ⟨⟨by rw [List.length_replicate]; exact sh.1.symm, fun g d z hd hz => by
    rw [List.eq_of_mem_replicate (List.mem_of_getElem? hz)]
    exact ⟨c0, fun x hx => bd d (List.mem_of_getElem? hd) x hx⟩⟩, sum _⟩

theorem noL_wvs (ws : List (Int × List Int)) : noL (.tuple (ws.map wvD)) = true := noLs_map noL_wv _
/-! ### what is told held against what is due -/
def sp_right (T : Tx K mg) : Sp := fun vs H Q _ => ∃ (nv dv cv : V) (m : Nat) (gs : List Gt) (D : List (List Int)) (a b : List Int), vs = [nv, dv, cv] ∧ Tk H nv (netD m gs) ∧ Tk H dv (delsD D) ∧ Tk H cv (chD a b) ∧ RunOk m gs D a b ∧ m + gs.length ≤ 18 ∧ (∀ d ∈ D, ∀ x ∈ d, x ≤ 10 ^ 30) ∧ Tabs H T.tabs ∧ ∀ H', Gr H H' → Q (.bl true) H'
theorem big_no {m : Nat} {gs : List Gt} {D : List (List Int)} {a b : List Int} {ws : List (Int × List Int)} (lw : ws.length = m + gs.length) (wok : Wvs ws (valAt gs D a b)) (few : ∀ x ∈ ws, x.2.length ≤ 200) (h : Big m gs D a b) : False := by
  obtain ⟨r, x, hr, W, big⟩ := h
  have hx : ws[r]? = some (ws[r]'(by omega)) := List.getElem?_eq_getElem _
  have e := (wok r _ hx).uniq W
  have := few _ (List.mem_of_getElem? hx)
  rw [e] at this
  omega
theorem wvs_uniq {ws ws' : List (Int × List Int)} {V : Nat → Int → Int} (l : ws.length = ws'.length) (h : Wvs ws V) (h' : Wvs ws' V) : ws = ws' := by
  refine List.ext_getElem? fun r => ?_
  by_cases z : r < ws.length
  · have h1 : ws[r]? = some (ws[r]'z) := List.getElem?_eq_getElem _
    have h2 : ws'[r]? = some (ws'[r]'(by omega)) := List.getElem?_eq_getElem _
    rw [h1, h2, (h r _ h1).uniq (h' r _ h2)]
  · rw [List.getElem?_eq_none (by omega), List.getElem?_eq_none (by omega)]
theorem ok_right (T : Tx K mg) (B : Tb base T) : FnG P w K mg base CX0 5 T.f_right T.fd_right ["_law_net_here", "_law_delays_here", "_law_change"] (sp_right T) := by
  refine okG0 T.F_right sc_right (fun vs H Q E h => ?_) (fun cdv A outer s H vs Q E nothing hr h => ?_)
  · obtain ⟨nv, dv, cv, m, gs, D, a, b, rfl, _⟩ := h
    rfl
  · obtain ⟨nv, dv, cv, m, gs, D, a, b, rfl, tn, td, tc, R, l18, bd, tabs, q⟩ := h
    refine ⟨_, (pss_cons (ps_set (i := 3) sc_right.nd rfl (by first | exact .inl rfl | exact .inr rfl) (pe_call (ok_due T) (hr.mono (by decide)) (by rfl) T.g_due T.F_due.kp T.b_due .nil pass0 (pa_cons (pv 0) (pa_cons (pv 1) (pa_cons (pv 2) pa_nil))))) (pss_cons (ps_for PassesOwn.never rfl (pi_range1 (by rfl) T.m_range (pa_cons pe_int pa_nil)) (pg_name (i := 4) sc_right.nd rfl (by first | exact .inl rfl | exact .inr rfl)) (pss_cons (ps_asg (pe_call (ok_told T B) (hr.mono (by decide)) (by rfl) T.g_told T.F_told.kp T.b_told .nil pass0 (pa_cons (pv 0) (pa_cons (pv 1) (pa_cons (pv 2) pa_nil)))) (pg_tup rfl (pgs_cons (pg_name (i := 5) sc_right.nd rfl (by first | exact .inl rfl | exact .inr rfl)) (pgs_cons (pg_name (i := 6) sc_right.nd rfl (by first | exact .inl rfl | exact .inr rfl)) pgs_nil)))) (pss_one (ps_if (pw_or (pt_cmpR op_ne (pv 6) (pe_cmpR op_isN (pv 3) pe_non (nomark _)) (nomark _)) (pw_or1 (pw_and (pt_cmpR op_notN (pv 3) pe_non (nomark _)) (pw_and1 (pt_cmpR op_ne (pe_callB (call_repr nothing hr.units) (by rfl) T.m_repr (by decide +kernel) (pa_cons (pv 5) pa_nil)) (pe_callB (call_repr nothing hr.units) (by rfl) T.m_repr (by decide +kernel) (pa_cons (pv 3) pa_nil)) (nomark _)))).pt)).pt (pss_one (ps_ret pe_bl)) pss_nil)))) (pss_one (ps_ret pe_bl)))), ?_⟩
    refine ⟨nv, rfl, dv, rfl, cv, rfl, nv, dv, cv, m, gs, D, a, b, rfl, tn, td, tc, R, by omega, by omega, fun rd H1 ws s1 tw lw wok few => ?_, fun H1 r x s1 rl Wx big => ?_⟩
    · have g1 := Gr.of s1
      refine ⟨2, rfl, by decide, by decide, for_range (lo := 0) (n := (2 : Int).toNat) (fun i σ H' => ∃ y4 y5 y6, σ = [some nv, some dv, some cv, some (.ref rd), y4, y5, y6] ∧ Gr H1 H') ⟨_, _, _, rfl, Gr.refl⟩ ?_ ?_⟩
      · rintro i σ H2 hi ⟨y4, y5, y6, rfl, g2⟩
        have g12 := g1.trans g2
        refine ⟨nv, rfl, dv, rfl, cv, rfl, nv, dv, cv, m, gs, D, a, b, rfl, tn.gr g12, td.gr g12, tc.gr g12, R, by omega, by omega, g12.2 _ (tabs _ (by simp [Tx.tabs])), fun r w' H3 ws' g3 hr3 tw' lw' wok' few' => ?_, fun H3 r g3 hr3 big => (big_no lw wok few big).elim⟩
        have eq := wvs_uniq (lw'.trans lw.symm) wok' wok
        subst eq
        have fit := fitg_waves (ws := ws') (fun x hx => by
          obtain ⟨k, hk⟩ := List.getElem?_of_mem hx
          have hkl := (List.getElem?_eq_some_iff.mp hk).1
          have W := wok k x hk
          obtain ⟨un, sm⟩ := under_rep (m := m) R.sh (by decide : (0 : Int) ≤ 10 ^ 30) bd
          refine ⟨W.f01, few x hx, fun t ht => ?_⟩
          have := in_run R un (by omega) W t ht
          rw [sm] at this
          have g18 : (gs.length : Int) ≤ 18 := by omega
          omega) (by omega)
        obtain ⟨f1, f2, f3⟩ := fit
        refine ⟨r, _, rfl, SqT.of hr3, rfl, _, _, rfl, _, _, rfl, rfl, ?_⟩
        refine ⟨.bl false, rfl, .ref rd, rfl, rfl, rfl, _, rfl, iteF ?_⟩
        refine ⟨.ref rd, rfl, rfl, _, rfl, iteT ?_⟩
        refine ⟨.ref w', rfl, .ref w', _, rfl, tw'.sh (noL_wvs _), f1, f2, f3, .ref rd, rfl, .ref rd, _, rfl, (tw.gr (g2.trans g3)).sh (noL_wvs _), f1, f2, f3, rfl, ?_⟩
        rw [decide_eq_true rfl]
        exact ⟨_, rfl, iteF ⟨_, _, _, rfl, g2.trans g3⟩⟩
      · rintro σ H2 ⟨y4, y5, y6, rfl, g2⟩
        exact q H2 (g1.trans g2)
    · have g1 := Gr.of s1
      refine ⟨2, rfl, by decide, by decide, for_range (lo := 0) (n := (2 : Int).toNat) (fun i σ H' => ∃ y4 y5 y6, σ = [some nv, some dv, some cv, some .non, y4, y5, y6] ∧ Gr H1 H') ⟨_, _, _, rfl, Gr.refl⟩ ?_ ?_⟩
      · rintro i σ H2 hi ⟨y4, y5, y6, rfl, g2⟩
        have g12 := g1.trans g2
        refine ⟨nv, rfl, dv, rfl, cv, rfl, nv, dv, cv, m, gs, D, a, b, rfl, tn.gr g12, td.gr g12, tc.gr g12, R, by omega, by omega, g12.2 _ (tabs _ (by simp [Tx.tabs])), fun r w' H3 ws' g3 hr3 tw' lw' wok' few' => (big_no lw' wok' few' ⟨_, _, rl, Wx, big⟩).elim, fun H3 r g3 hr3 big => ?_⟩
        refine ⟨r, _, rfl, SqT.of hr3, rfl, _, _, rfl, _, _, rfl, rfl, ?_⟩
        refine ⟨.bl true, rfl, .non, rfl, rfl, rfl, _, rfl, iteF ?_⟩
        exact ⟨.non, rfl, rfl, _, rfl, iteF ⟨_, _, _, rfl, g2.trans g3⟩⟩
      · rintro σ H2 ⟨y4, y5, y6, rfl, g2⟩
        exact q H2 (g1.trans g2)

end
end Gk

set_option Elab.async false
set_option linter.all false
set_option maxRecDepth 100000
set_option maxHeartbeats 1000000
set_option pp.maxSteps 1500
set_option pp.deepTerms false
namespace Gk
open PySem PySem.Spec PyProof.Rows L2
section
variable {P : Program} {w : World} {K : PySem.W.Frag} {mg : Str → Option Value} {base : Heap}
/-! ### the net of a wire that is turned about by itself, again and again -/
def xorT : List Bool := [false, true, true, false]
structure Dbl (H : Hp) (G A : Addr) (gs : List Gt) (D : List (List Int)) : Prop where
  hG : ∃ xs, H G = some (.lst xs) ∧ TkAll H xs (gs.map gD)
  hA : ∃ ys, H A = some (.lst ys) ∧ TkAll H ys (D.map rowD)
  ok : NetOk 1 gs
  sh : Shape gs D
  bd : ∀ d ∈ D, ∀ x ∈ d, 0 ≤ x ∧ x ≤ 10 ^ 30
theorem Dbl.ts {H H' : Hp} {G A : Addr} {gs : List Gt} {D : List (List Int)} (h : Dbl H G A gs D) (t : Ts H H') (k : ∀ {o}, H G = some o → H' G = some o) (k' : ∀ {o}, H A = some o → H' A = some o) : Dbl H' G A gs D := by
  obtain ⟨⟨xs, h1, h2⟩, ⟨ys, h3, h4⟩, r1, r2, r3⟩ := h
  exact ⟨⟨xs, k h1, h2.ts t (noL_gates gs)⟩, ⟨ys, k' h3, h4.ts t (noLs_map noL_row _)⟩, r1, r2, r3⟩
theorem Dbl.same {H H' : Hp} {G A : Addr} {gs : List Gt} {D : List (List Int)} (h : Dbl H G A gs D) (s : Same H H') : Dbl H' G A gs D := h.ts (Ts.same s) (fun e => s _ _ e) (fun e => s _ _ e)
theorem Shape.snoc {gs : List Gt} {D : List (List Int)} {gt : Gt} {d : List Int} (h : Shape gs D) (e : d.length = gt.2.length) : Shape (gs ++ [gt]) (D ++ [d]) := by
  refine ⟨by rw [List.length_append, List.length_append, h.1]; rfl, fun g gt' d' h1 h2 => ?_⟩
  by_cases z : g < gs.length
  · rw [List.getElem?_append_left z] at h1
    rw [List.getElem?_append_left (by rw [h.1]; exact z)] at h2
    exact h.2 g gt' d' h1 h2
  · have l := (List.getElem?_eq_some_iff.mp h1).1
    rw [List.length_append] at l
    have : g = gs.length := by
      have : g < gs.length + 1 := l
      omega
    subst this
    rw [List.getElem?_append_right (Nat.le_refl _), Nat.sub_self] at h1
    rw [List.getElem?_append_right (by rw [h.1]; exact Nat.le_refl _), h.1, Nat.sub_self] at h2
    cases Option.some.inj h1
    cases Option.some.inj h2
    exact e
theorem Dbl.more {H : Hp} {G A t u : Addr} {xs ys : List V} {gs : List Gt} {D : List (List Int)} {gt : Gt} {d : List Int} (h : Dbl H G A gs D) (hx : H G = some (.lst xs)) (tt : Tk H (.ref t) (gD gt)) {H2 : Hp} (t12 : Ts (upd H G (.lst (xs ++ [.ref t]))) H2) (kG : ∀ {o}, upd H G (.lst (xs ++ [.ref t])) G = some o → H2 G = some o) (kA : ∀ {o}, upd H G (.lst (xs ++ [.ref t])) A = some o → H2 A = some o) (hy : H2 A = some (.lst ys)) (tu : Tk H2 (.ref u) (rowD d)) (ne : G ≠ A)
    (hg : GtOk (1 + gs.length) gt) (e : d.length = gt.2.length) (b : ∀ x ∈ d, 0 ≤ x ∧ x ≤ 10 ^ 30) : Dbl (upd H2 A (.lst (ys ++ [.ref u]))) G A (gs ++ [gt]) (D ++ [d]) := by
  obtain ⟨⟨xs', h1, h2⟩, ⟨ys', h3, h4⟩, r1, r2, r3⟩ := h
  rw [hx] at h1
  cases Option.some.inj h1
  have t1 : Ts H (upd H G (.lst (xs ++ [.ref t]))) := Ts.set hx
  have h3' : upd H G (.lst (xs ++ [.ref t])) A = some (.lst ys') := by rw [upd_ne (Ne.symm ne)]; exact h3
  have := kA h3'
  rw [hy] at this
  cases Option.some.inj this
  have t2 : Ts H H2 := t1.trans t12
  have t3 : Ts H2 (upd H2 A (.lst (ys ++ [.ref u]))) := Ts.set hy
  refine ⟨⟨xs ++ [.ref t], ?_, ?_⟩, ⟨ys ++ [.ref u], upd_same, ?_⟩, r1.snoc hg, r2.snoc e, fun z hz => ?_⟩
  · rw [upd_ne ne]
    exact kG upd_same
  · rw [List.map_append]
    exact ((h2.ts (t2.trans t3) (noL_gates gs))).append (.cons (tt.ts (t2.trans t3) (noL_gate _)) .nil)
  · rw [List.map_append]
    exact ((h4.ts (t2.trans t3) (noLs_map noL_row _))).append (.cons (tu.ts t3 (noL_row _)) .nil)
  · rcases List.mem_append.mp hz with k | k
    · exact r3 z k
    · rw [List.mem_singleton.mp k]
      exact b
theorem tk_gt {H : Hp} {p i : Addr} {bs : List Bool} {ws : List Nat} {t : Str} (e : t = tabOf bs) (hp : H p = some (.tup [.str t, .ref i])) (hi : H i = some (.tup (nV ws))) : Tk H (.ref p) (gD (bs, ws)) := by
  have hi' : H i = some (.tup ((ws.map Int.ofNat).map V.int)) := hi
  subst e
  refine .tup hp (.cons (.str _) (.cons ?_ .nil))
  exact Tk.tup hi' (TkAll.ints (ws.map Int.ofNat))
def szs : List Int := [1, 2, 4, 8, 16, 32, 64, 128]
theorem sz_at {k : Nat} (h : k < 8) : ∃ z : Int, szs[k]? = some z ∧ z = 2 ^ k ∧ 1 ≤ z ∧ z ≤ 128 := by
  match k, h with
  | 0, _ => exact ⟨1, rfl, rfl, by decide, by decide⟩
  | 1, _ => exact ⟨2, rfl, rfl, by decide, by decide⟩
  | 2, _ => exact ⟨4, rfl, rfl, by decide, by decide⟩
  | 3, _ => exact ⟨8, rfl, rfl, by decide, by decide⟩
  | 4, _ => exact ⟨16, rfl, rfl, by decide, by decide⟩
  | 5, _ => exact ⟨32, rfl, rfl, by decide, by decide⟩
  | 6, _ => exact ⟨64, rfl, rfl, by decide, by decide⟩
  | 7, _ => exact ⟨128, rfl, rfl, by decide, by decide⟩
theorem bits_next {c : Int} {k : Nat} (hk : k < 8) (h : c % 2 ^ k = 0) (n : ¬ c / 2 ^ k % 2 = 1) : c % 2 ^ (k + 1) = 0 := by
  match k, hk with
  | 0, _ => change c % 1 = 0 at h; change ¬ c / 1 % 2 = 1 at n; show c % 2 = 0; omega
  | 1, _ => change c % 2 = 0 at h; change ¬ c / 2 % 2 = 1 at n; show c % 4 = 0; omega
  | 2, _ => change c % 4 = 0 at h; change ¬ c / 4 % 2 = 1 at n; show c % 8 = 0; omega
  | 3, _ => change c % 8 = 0 at h; change ¬ c / 8 % 2 = 1 at n; show c % 16 = 0; omega
  | 4, _ => change c % 16 = 0 at h; change ¬ c / 16 % 2 = 1 at n; show c % 32 = 0; omega
  | 5, _ => change c % 32 = 0 at h; change ¬ c / 32 % 2 = 1 at n; show c % 64 = 0; omega
  | 6, _ => change c % 64 = 0 at h; change ¬ c / 64 % 2 = 1 at n; show c % 128 = 0; omega
  | 7, _ => change c % 128 = 0 at h; change ¬ c / 128 % 2 = 1 at n; show c % 256 = 0; omega
theorem many_at {v x : Int} (v0 : 0 ≤ v) (v1 : v < 21) (x0 : 0 ≤ x) (x1 : x < 3) : ∃ c : Int, atI [V.int 200, V.int 201, V.int (190 + v)] x = some (.int c) ∧ 190 ≤ c ∧ c ≤ 210 := by
  have : x = 0 ∨ x = 1 ∨ x = 2 := by omega
  rcases this with rfl | rfl | rfl
  · exact ⟨200, rfl, by decide, by decide⟩
  · exact ⟨201, rfl, by decide, by decide⟩
  · exact ⟨190 + v, rfl, by omega, by omega⟩
def lastV : Option Nat → V
  | none => .non
  | some k => .int (k : Nat)
def sp_doubled (K : PySem.W.Frag) : Sp := fun vs H Q _ => ∃ (d l : Addr) (n : Int), vs = [.ref d] ∧ DeckF H d l n ∧ n < 10000000 ∧
  ∀ r nv dv H' gs D, DeckF H' d l (n + 400) → Fr d l H H' → H' r = some (.tup [.ref nv, .ref dv]) → Tk H' (.ref nv) (netD (1 : Nat) gs) → Tk H' (.ref dv) (delsD D) → NetOk 1 gs → Shape gs D → (∀ d ∈ D, ∀ x ∈ d, 0 ≤ x ∧ x ≤ 10 ^ 30) → gs.length ≤ 17 → Q (.ref r) H'
theorem ok_doubled (T : Tx K mg) : FnOk P w K mg base CX0 8 T.f_doubled T.fd_doubled ["_law_deck_here"] (sp_doubled K) := by
  refine T.F_doubled.ok sc_doubled (fun vs H Q E h => ?_) (fun cdv A outer s H vs Q E hr h => ?_)
  · obtain ⟨d, l, n, rfl, _⟩ := h
    rfl
  · obtain ⟨d, l, n, rfl, D, hn, q_out⟩ := h
    refine ⟨_, (pss_cons (ps_set (i := 1) sc_doubled.nd rfl (by first | exact .inl rfl | exact .inr rfl) (pe_ix ix_list (pe_lst (pa_cons pe_int (pa_cons pe_int (pa_cons (pe_op op_add pe_int (pe_call (ok_draw T) (hr.mono (by decide)) (by rfl) T.g_draw T.F_draw.kp T.b_draw .nil pass0 (pa_cons (pv 0) (pa_cons pe_int pa_nil)))) pa_nil)))) (pe_call (ok_draw T) (hr.mono (by decide)) (by rfl) T.g_draw T.F_draw.kp T.b_draw .nil pass0 (pa_cons (pv 0) (pa_cons pe_int pa_nil))) (fun _ _ => rfl))) (pss_cons (ps_set (i := 2) sc_doubled.nd rfl (by first | exact .inl rfl | exact .inr rfl) (pe_op op_add pe_int (pe_op op_mul (pe_call (ok_draw T) (hr.mono (by decide)) (by rfl) T.g_draw T.F_draw.kp T.b_draw .nil pass0 (pa_cons (pv 0) (pa_cons pe_int pa_nil))) (pe_op op_pow pe_int pe_int)))) (pss_cons (ps_set (i := 3) sc_doubled.nd rfl (by first | exact .inl rfl | exact .inr rfl) (pe_lst (pa_cons pe_int (pa_cons pe_int (pa_cons pe_int (pa_cons pe_int (pa_cons pe_int (pa_cons pe_int (pa_cons pe_int (pa_cons pe_int pa_nil)))))))))) (pss_cons (ps_set (i := 4) sc_doubled.nd rfl (by first | exact .inl rfl | exact .inr rfl) (pe_lst pa_nil)) (pss_cons (ps_set (i := 5) sc_doubled.nd rfl (by first | exact .inl rfl | exact .inr rfl) (pe_lst pa_nil)) (pss_cons (ps_for PassesOwn.never rfl (pi_range1 (by rfl) T.m_range (pa_cons pe_int pa_nil)) (pg_name (i := 6) sc_doubled.nd rfl (by first | exact .inl rfl | exact .inr rfl)) (pss_cons (ps_expr (pe_bm PySem.F.plainAttrs_list PySem.F.slot_list_append PySem.F.type_list_append mt_append (pv 4) (pa_cons (pe_tup (pa_cons pe_str (pa_cons (pe_tup (pa_cons (pv 6) (pa_cons (pv 6) pa_nil))) pa_nil))) pa_nil))) (pss_one (ps_expr (pe_bm PySem.F.plainAttrs_list PySem.F.slot_list_append PySem.F.type_list_append mt_append (pv 5) (pa_cons (pe_tup (pa_cons pe_int (pa_cons (pe_op op_mul (pe_op op_mul pe_int (pv 2)) (pe_ix ix_list (pv 3) (pv 6) (fun _ _ => rfl))) pa_nil))) pa_nil)))))) (pss_cons (ps_set (i := 7) sc_doubled.nd rfl (by first | exact .inl rfl | exact .inr rfl) pe_non) (pss_cons (ps_for PassesOwn.never rfl (pi_range1 (by rfl) T.m_range (pa_cons pe_int pa_nil)) (pg_name (i := 6) sc_doubled.nd rfl (by first | exact .inl rfl | exact .inr rfl)) (pss_one (ps_if (pw_and (pt_cmpR op_eq (pe_op op_mod (pe_op op_fdiv (pv 1) (pe_ix ix_list (pv 3) (pv 6) (fun _ _ => rfl))) pe_int) pe_int (nomark _)) (pw_and1 (pt_cmpR op_isN (pv 7) pe_non (nomark _)))).pt (pss_one (ps_set (i := 7) sc_doubled.nd rfl (by first | exact .inl rfl | exact .inr rfl) (pv 6))) (pss_one (ps_if (pt_cmpR op_eq (pe_op op_mod (pe_op op_fdiv (pv 1) (pe_ix ix_list (pv 3) (pv 6) (fun _ _ => rfl))) pe_int) pe_int (nomark _)) (pss_cons (ps_expr (pe_bm PySem.F.plainAttrs_list PySem.F.slot_list_append PySem.F.type_list_append mt_append (pv 4) (pa_cons (pe_tup (pa_cons pe_str (pa_cons (pe_tup (pa_cons (pv 7) (pa_cons (pv 6) pa_nil))) pa_nil))) pa_nil))) (pss_cons (ps_expr (pe_bm PySem.F.plainAttrs_list PySem.F.slot_list_append PySem.F.type_list_append mt_append (pv 5) (pa_cons (pe_tup (pa_cons (pe_op op_mul (pe_call (ok_draw T) (hr.mono (by decide)) (by rfl) T.g_draw T.F_draw.kp T.b_draw .nil pass0 (pa_cons (pv 0) (pa_cons pe_int pa_nil))) pe_int) (pa_cons (pe_op op_add pe_int (pe_op op_mul pe_int (pv 6))) pa_nil))) pa_nil))) (pss_one (ps_set (i := 7) sc_doubled.nd rfl (by first | exact .inl rfl | exact .inr rfl) (pe_callB call_len_seq (by rfl) T.m_len PySem.boot_len (pa_cons (pv 4) pa_nil)))))) pss_nil))))) (pss_cons (ps_expr (pe_bm PySem.F.plainAttrs_list PySem.F.slot_list_append PySem.F.type_list_append mt_append (pv 4) (pa_cons (pe_tup (pa_cons pe_str (pa_cons (pe_tup (pa_cons (pv 7) (pa_cons pe_int pa_nil))) pa_nil))) pa_nil))) (pss_cons (ps_expr (pe_bm PySem.F.plainAttrs_list PySem.F.slot_list_append PySem.F.type_list_append mt_append (pv 5) (pa_cons (pe_tup (pa_cons pe_int (pa_cons pe_int pa_nil))) pa_nil))) (pss_cons (ps_expr (pe_bm PySem.F.plainAttrs_list PySem.F.slot_list_append PySem.F.type_list_append mt_append (pv 4) (pa_cons (pe_tup (pa_cons pe_str (pa_cons (pe_tup (pa_cons (pv 7) (pa_cons (pe_op op_add (pv 7) pe_int) pa_nil))) pa_nil))) pa_nil))) (pss_cons (ps_expr (pe_bm PySem.F.plainAttrs_list PySem.F.slot_list_append PySem.F.type_list_append mt_append (pv 5) (pa_cons (pe_tup (pa_cons pe_int (pa_cons (pe_op op_pow pe_int pe_int) pa_nil))) pa_nil))) (pss_one (ps_ret (pe_tup (pa_cons (pe_tup (pa_cons pe_int (pa_cons (pe_callTy call_tuple_of (by rfl) T.m_tuple (by decide +kernel) (pa_cons (pv 4) pa_nil)) pa_nil))) (pa_cons (pe_callTy call_tuple_of (by rfl) T.m_tuple (by decide +kernel) (pa_cons (pv 5) pa_nil)) pa_nil))))))))))))))))), ?_⟩
    refine ⟨.ref d, rfl, d, l, 21, _, rfl, D, by omega, by decide, by decide, fun H1 v D1 fr1 v0 v1 => ⟨_, _, rfl, rfl, sl3, fun p np => ?_⟩⟩
    have op := D1.off np
    have s2 := same_upd (o := (HO.lst [V.int 200, V.int 201, V.int (190 + v)])) np
    have h2 : upd H1 p (HO.lst [V.int 200, V.int 201, V.int (190 + v)]) p = some (HO.lst [V.int 200, V.int 201, V.int (190 + v)]) := upd_same
    generalize upd H1 p (HO.lst [V.int 200, V.int 201, V.int (190 + v)]) = H2 at s2 h2 ⊢
    have D2 := D1.same s2
    refine ⟨.ref d, rfl, d, l, 3, _, rfl, D2, by omega, by decide, by decide, fun H3 x D3 fr3 x0 x1 => ?_⟩
    obtain ⟨c, hc, c0, c1⟩ := many_at v0 v1 x0 x1
    refine ⟨p, _, x, .int c, rfl, rfl, SqL.of (fr3 _ _ op.1 op.2 h2), hc, ?_⟩
    refine ⟨.ref d, rfl, d, l, 9, _, rfl, D3, by omega, by decide, by decide, fun H4 u D4 fr4 u0 u1 => ⟨_, _, rfl, rfl, ⟨by decide, by decide, by decide⟩, _, _, rfl, rfl, .inl ⟨by omega, by omega⟩, _, _, rfl, rfl, ?_⟩⟩
    have fr04 := ((fr1.trans (Fr.of s2)).trans fr3).trans fr4
    obtain ⟨wd, ewd, w1, w2⟩ : ∃ wd : Int, 1 + u * 10 ^ (24 : Int).toNat = wd ∧ 1 ≤ wd ∧ wd ≤ 8000000000000000000000001 := ⟨_, rfl, by show 1 ≤ 1 + u * 10 ^ 24; omega, by show 1 + u * 10 ^ 24 ≤ _; omega⟩
    refine ⟨(by show 8 ≤ sizeLine; decide), fun S nS => ?_⟩
    have oS := D4.off nS
    have s5 := same_upd (o := (HO.lst [V.int 1, V.int 2, V.int 4, V.int 8, V.int 16, V.int 32, V.int 64, V.int 128])) nS
    have hS : upd H4 S (HO.lst [V.int 1, V.int 2, V.int 4, V.int 8, V.int 16, V.int 32, V.int 64, V.int 128]) S = some (HO.lst [V.int 1, V.int 2, V.int 4, V.int 8, V.int 16, V.int 32, V.int 64, V.int 128]) := upd_same
    generalize upd H4 S (HO.lst [V.int 1, V.int 2, V.int 4, V.int 8, V.int 16, V.int 32, V.int 64, V.int 128]) = H5 at s5 hS ⊢
    have hS : H5 S = some (.lst (szs.map V.int)) := hS
    refine ⟨Nat.zero_le _, fun G nG => ?_⟩
    have oG := (D4.same s5).off nG
    have s6 := same_upd (o := (HO.lst [])) nG
    have hG : upd H5 G (HO.lst []) G = some (HO.lst []) := upd_same
    generalize upd H5 G (HO.lst []) = H6 at s6 hG ⊢
    refine ⟨Nat.zero_le _, fun A nA => ?_⟩
    have oA := (D4.same (s5.trans s6)).off nA
    have GA : G ≠ A := ne_of_none hG nA
    have SG : S ≠ G := ne_of_none hS nG
    have SA : S ≠ A := ne_of_none (s6 _ _ hS) nA
    have s7 := same_upd (o := (HO.lst [])) nA
    have hA : upd H6 A (HO.lst []) A = some (HO.lst []) := upd_same
    generalize upd H6 A (HO.lst []) = H7 at s7 hA ⊢
    have nG0 : H G = none := none_of_frF (fr04.trans (Fr.of s5)) (D4.same s5) nG
    have nA0 : H A = none := none_of_frF (fr04.trans (Fr.of (s5.trans s6))) (D4.same (s5.trans s6)) nA
    have D7 := D4.same (s5.trans (s6.trans s7))
    have fr07 := fr04.trans (Fr.of (s5.trans (s6.trans s7)))
    have hS7 := s7 _ _ (s6 _ _ hS)
    refine ⟨7, rfl, by decide, by decide, ?_⟩
    refine for_range (lo := 0) (n := (7 : Int).toNat) (fun i σ H' => ∃ y6 gs DD, σ = [some (.ref d), some (.int c), some (.int (1 + u * 10 ^ (24 : Int).toNat)), some (.ref S), some (.ref G), some (.ref A), y6, none] ∧ DeckF H' d l (n + 128) ∧ Fr d l H H' ∧ H' S = some (.lst (szs.map V.int)) ∧ Dbl H' G A gs DD ∧ gs.length = i)
      ⟨_, [], [], rfl, D7.mono (by omega), fr07, hS7, ⟨⟨[], s7 _ _ hG, .nil⟩, ⟨[], hA, .nil⟩, (fun k g h => by simp at h), ⟨rfl, fun g gt d h => by simp at h⟩, fun d h => by cases h⟩, rfl⟩ ?_ ?_
    · rintro k σ H8 hk ⟨y6, gs, DD, rfl, D8, fr8, hS8, db, lg⟩
      have hk' : k < 7 := hk
      have e0 : (0 : Int) + (k : Int) = (k : Int) := Int.zero_add _
      rw [e0]
      obtain ⟨⟨xs, hGx, tx⟩, ⟨ys, hAx, ty⟩, _⟩ := id db
      have lxs : xs.length = k := by rw [tx.length, List.length_map, lg]
      have lys : ys.length = k := by rw [ty.length, List.length_map, db.sh.1, lg]
      refine ⟨.ref G, rfl, .inl ⟨rfl, _, SqL.of hGx⟩, .int (k : Nat), rfl, .int (k : Nat), rfl, sl2, fun t1 nt1 => ?_⟩
      have s9 := same_upd (o := (HO.tup [V.int (k : Nat), V.int (k : Nat)])) nt1
      have h9 : upd H8 t1 (HO.tup [V.int (k : Nat), V.int (k : Nat)]) t1 = some (HO.tup [V.int (k : Nat), V.int (k : Nat)]) := upd_same
      generalize upd H8 t1 (HO.tup [V.int (k : Nat), V.int (k : Nat)]) = H9 at s9 h9 ⊢
      refine ⟨sl2, fun t2 nt2 => ?_⟩
      have s10 := same_upd (o := (HO.tup [V.str (Str.ofString "0110"), V.ref t1])) nt2
      have h10 : upd H9 t2 (HO.tup [V.str (Str.ofString "0110"), V.ref t1]) t2 = some (HO.tup [V.str (Str.ofString "0110"), V.ref t1]) := upd_same
      generalize upd H9 t2 (HO.tup [V.str (Str.ofString "0110"), V.ref t1]) = H10 at s10 h10 ⊢
      have sA := s9.trans s10
      have tt : Tk H10 (.ref t2) (gD (xorT, [k, k])) := tk_gt (by decide +kernel) h10 (s10 _ _ h9)
      have hG10 := sA _ _ hGx
      have hA10 := sA _ _ hAx
      refine ⟨G, _, _, rfl, rfl, hG10, Nat.lt_of_lt_of_le (show xs.length < 64 by omega) (by decide), ?_⟩
      have db10 := db.same sA
      have hA11 : upd H10 G (.lst (xs ++ [V.ref t2])) A = some (.lst ys) := by rw [upd_ne GA.symm]; exact hA10
      have hS11 : upd H10 G (.lst (xs ++ [V.ref t2])) S = some (.lst (szs.map V.int)) := by rw [upd_ne SG]; exact sA _ _ hS8
      have D11 := (D8.same sA).upd (o := .lst (xs ++ [V.ref t2])) oG.1 oG.2
      have fr11 : Fr d l H (upd H10 G (.lst (xs ++ [V.ref t2]))) := Fr.upd (fr8.trans (Fr.of sA)) nG0
      have more : ∀ (u : Addr) (d : List Int) (H2 : Hp), Same (upd H10 G (.lst (xs ++ [V.ref t2]))) H2 → Tk H2 (.ref u) (rowD d) → d.length = 2 → (∀ x ∈ d, 0 ≤ x ∧ x ≤ 10 ^ 30) → Dbl (upd H2 A (.lst (ys ++ [.ref u]))) G A (gs ++ [(xorT, [k, k])]) (DD ++ [d]) := fun u d H2 s2 tu ld bd =>
        db10.more hG10 tt (Ts.same s2) (fun e => s2 _ _ e) (fun e => s2 _ _ e) (s2 _ _ hA11) tu GA ⟨rfl, by show 1 ≤ 2; decide, by show 2 ≤ 3; decide, fun w hw => by
          have hw : w ∈ [k, k] := hw
          simp only [List.mem_cons, List.not_mem_nil, or_false, or_self] at hw
          omega⟩ ld bd
      generalize upd H10 G (.lst (xs ++ [V.ref t2])) = H11 at hA11 hS11 D11 fr11 more ⊢
      obtain ⟨z, hz, _, z1, z2⟩ := sz_at (k := k) (by omega)
      refine ⟨.ref A, rfl, .inl ⟨rfl, _, SqL.of hA11⟩, _, rfl, _, _, rfl, rfl, .inl ⟨by decide, by decide⟩, .ref S, rfl, .int (k : Nat), rfl, S, _, ((k : Nat) : Int), .int z, rfl, rfl, SqL.of hS11, atI_nat (by rw [List.getElem?_map, hz]; rfl), _, _, rfl, rfl, .inr ⟨by omega, by omega⟩, sl2, fun t3 nt3 => ?_⟩
      have s12 := same_upd (o := (HO.tup [V.int 0, V.int (1000 * (1 + u * 10 ^ (24 : Int).toNat) * z)])) nt3
      have h12 : upd H11 t3 (HO.tup [V.int 0, V.int (1000 * (1 + u * 10 ^ (24 : Int).toNat) * z)]) t3 = some (HO.tup [V.int 0, V.int (1000 * (1 + u * 10 ^ (24 : Int).toNat) * z)]) := upd_same
      generalize upd H11 t3 (HO.tup [V.int 0, V.int (1000 * (1 + u * 10 ^ (24 : Int).toNat) * z)]) = H12 at s12 h12 ⊢
      have hA12 := s12 _ _ hA11
      refine ⟨A, _, _, rfl, rfl, hA12, Nat.lt_of_lt_of_le (show ys.length < 64 by omega) (by decide), ?_⟩
      have z64 : z ≤ 64 := by
        have := sz_at (k := k) (by omega)
        match k, hk', hz with
        | 0, _, hz => cases Option.some.inj hz; decide
        | 1, _, hz => cases Option.some.inj hz; decide
        | 2, _, hz => cases Option.some.inj hz; decide
        | 3, _, hz => cases Option.some.inj hz; decide
        | 4, _, hz => cases Option.some.inj hz; decide
        | 5, _, hz => cases Option.some.inj hz; decide
        | 6, _, hz => cases Option.some.inj hz; decide
      have b0 : 0 ≤ 1000 * (1 + u * 10 ^ (24 : Int).toNat) * z := by rw [ewd]; exact Int.mul_nonneg (by omega) (by omega)
      have b1 : 1000 * (1 + u * 10 ^ (24 : Int).toNat) * z ≤ 10 ^ 30 := by
        rw [ewd]
        exact Int.le_trans (Int.mul_le_mul (show 1000 * wd ≤ 8000000000000000000000001000 by omega) z64 (by omega) (by decide)) (by decide)
      refine ⟨_, gs ++ [(xorT, [k, k])], DD ++ [[0, 1000 * (1 + u * 10 ^ (24 : Int).toNat) * z]], rfl, (D11.same s12).upd oA.1 oA.2, Fr.upd (fr11.trans (Fr.of s12)) nA0, by rw [upd_ne SA]; exact s12 _ _ hS11, more t3 _ H12 s12 (.tup h12 (TkAll.ints [0, 1000 * (1 + u * 10 ^ (24 : Int).toNat) * z])) rfl (fun x hx => ?_), by rw [List.length_append, lg]; rfl⟩
      simp only [List.mem_cons, List.not_mem_nil, or_false] at hx
      rcases hx with rfl | rfl
      · exact ⟨by decide, by decide⟩
      · exact ⟨b0, b1⟩
    rintro σ H8 ⟨y6, gs, DD, rfl, D8, fr8, hS8, db, lg⟩
    have lg : gs.length = 7 := lg
    refine ⟨8, rfl, by decide, by decide, ?_⟩
    refine for_range (lo := 0) (n := (8 : Int).toNat) (fun i σ H' => ∃ y6 gs DD la, σ = [some (.ref d), some (.int c), some (.int (1 + u * 10 ^ (24 : Int).toNat)), some (.ref S), some (.ref G), some (.ref A), y6, some (lastV la)] ∧ DeckF H' d l (n + 128 + 32 * i) ∧ Fr d l H H' ∧ H' S = some (.lst (szs.map V.int)) ∧ Dbl H' G A gs DD ∧ 7 ≤ gs.length ∧ gs.length ≤ 7 + i ∧ (la = none → c % 2 ^ i = 0) ∧ ∀ q, la = some q → q ≤ gs.length)
      ⟨_, gs, DD, none, rfl, D8.mono (by omega), fr8, hS8, db, by omega, by omega, fun _ => Int.emod_one c, fun q z => by cases z⟩ ?_ ?_
    · rintro k σ H8 hk ⟨y6, gs, DD, la, rfl, D8, fr8, hS8, db, l7, lk, ev, lq⟩
      have hk' : k < 8 := hk
      have e0 : (0 : Int) + (k : Int) = (k : Int) := Int.zero_add _
      rw [e0]
      obtain ⟨z, hz, z2k, z1, z2⟩ := sz_at hk'
      have hzS : atI (szs.map V.int) ((k : Nat) : Int) = some (.int z) := atI_nat (by rw [List.getElem?_map, hz]; rfl)
      have bad : ∀ {b : Bool}, V.bl (decide (V.int (c / z % 2) = V.int 1)) = V.bl b → b = decide (V.int (c / z % 2) = V.int 1) := fun e => (V.bl.inj e).symm
      by_cases hb : c / z % 2 = 1
      · have hbd : decide (V.int (c / z % 2) = V.int 1) = true := decide_eq_true (by rw [hb])
        cases la with
        | none =>
          refine ⟨.int c, rfl, .ref S, rfl, .int (k : Nat), rfl, S, _, ((k : Nat) : Int), .int z, rfl, rfl, SqL.of hS8, hzS, _, _, rfl, rfl, ⟨by omega, by omega⟩, _, _, rfl, rfl, (by decide : (0 : Int) < 2), rfl, _, rfl, ?_⟩
          rw [hbd]
          refine iteT ⟨.non, rfl, rfl, _, rfl, iteT ?_⟩
          exact ⟨.int (k : Nat), rfl, _, gs, DD, some k, rfl, D8.mono (by push_cast; omega), fr8, hS8, db, l7, by omega, fun z => by (cases z), fun q z => by (cases z; omega)⟩
        | some q =>
          have q1 := lq q rfl
          refine ⟨.int c, rfl, .ref S, rfl, .int (k : Nat), rfl, S, _, ((k : Nat) : Int), .int z, rfl, rfl, SqL.of hS8, hzS, _, _, rfl, rfl, ⟨by omega, by omega⟩, _, _, rfl, rfl, (by decide : (0 : Int) < 2), rfl, _, rfl, ?_⟩
          rw [hbd]
          refine iteT ⟨.int (q : Nat), rfl, rfl, _, rfl, iteF ?_⟩
          refine ⟨.int c, rfl, .ref S, rfl, .int (k : Nat), rfl, S, _, ((k : Nat) : Int), .int z, rfl, rfl, SqL.of hS8, hzS, _, _, rfl, rfl, ⟨by omega, by omega⟩, _, _, rfl, rfl, (by decide : (0 : Int) < 2), rfl, _, rfl, ?_⟩
          rw [hbd]
          refine iteT ?_
          obtain ⟨⟨xs, hGx, tx⟩, ⟨ys, hAx, ty⟩, _⟩ := id db
          have lxs : xs.length = gs.length := by rw [tx.length, List.length_map]
          have lys : ys.length = gs.length := by rw [ty.length, List.length_map, db.sh.1]
          refine ⟨.ref G, rfl, .inl ⟨rfl, _, SqL.of hGx⟩, .int (q : Nat), rfl, .int (k : Nat), rfl, sl2, fun t1 nt1 => ?_⟩
          have s9 := same_upd (o := (HO.tup [V.int (q : Nat), V.int (k : Nat)])) nt1
          have h9 : upd H8 t1 (HO.tup [V.int (q : Nat), V.int (k : Nat)]) t1 = some (HO.tup [V.int (q : Nat), V.int (k : Nat)]) := upd_same
          generalize upd H8 t1 (HO.tup [V.int (q : Nat), V.int (k : Nat)]) = H9 at s9 h9 ⊢
          refine ⟨sl2, fun t2 nt2 => ?_⟩
          have s10 := same_upd (o := (HO.tup [V.str (Str.ofString "0110"), V.ref t1])) nt2
          have h10 : upd H9 t2 (HO.tup [V.str (Str.ofString "0110"), V.ref t1]) t2 = some (HO.tup [V.str (Str.ofString "0110"), V.ref t1]) := upd_same
          generalize upd H9 t2 (HO.tup [V.str (Str.ofString "0110"), V.ref t1]) = H10 at s10 h10 ⊢
          have sA := s9.trans s10
          have tt : Tk H10 (.ref t2) (gD (xorT, [q, k])) := tk_gt (by decide +kernel) h10 (s10 _ _ h9)
          have hG10 := sA _ _ hGx
          have hA10 := sA _ _ hAx
          refine ⟨G, _, _, rfl, rfl, hG10, Nat.lt_of_lt_of_le (show xs.length < 64 by omega) (by decide), ?_⟩
          have db10 := db.same sA
          have hA11 : upd H10 G (.lst (xs ++ [V.ref t2])) A = some (.lst ys) := by rw [upd_ne GA.symm]; exact hA10
          have hG11 : upd H10 G (.lst (xs ++ [V.ref t2])) G = some (.lst (xs ++ [V.ref t2])) := upd_same
          have hS11 : upd H10 G (.lst (xs ++ [V.ref t2])) S = some (.lst (szs.map V.int)) := by rw [upd_ne SG]; exact sA _ _ hS8
          have D11 := (D8.same sA).upd (o := .lst (xs ++ [V.ref t2])) oG.1 oG.2
          have fr11 : Fr d l H (upd H10 G (.lst (xs ++ [V.ref t2]))) := Fr.upd (fr8.trans (Fr.of sA)) nG0
          have more : ∀ (u : Addr) (d : List Int) (H2 : Hp), Ts (upd H10 G (.lst (xs ++ [V.ref t2]))) H2 → (∀ {o}, upd H10 G (.lst (xs ++ [V.ref t2])) G = some o → H2 G = some o) → (∀ {o}, upd H10 G (.lst (xs ++ [V.ref t2])) A = some o → H2 A = some o) → Tk H2 (.ref u) (rowD d) → d.length = 2 → (∀ x ∈ d, 0 ≤ x ∧ x ≤ 10 ^ 30) → Dbl (upd H2 A (.lst (ys ++ [.ref u]))) G A (gs ++ [(xorT, [q, k])]) (DD ++ [d]) := fun u d H2 a1 a2 a3 tu ld bd =>
            db10.more hG10 tt a1 a2 a3 (a3 hA11) tu GA ⟨rfl, by show 1 ≤ 2; decide, by show 2 ≤ 3; decide, fun w hw => by
              have hw : w ∈ [q, k] := hw
              simp only [List.mem_cons, List.not_mem_nil, or_false] at hw
              omega⟩ ld bd
          generalize upd H10 G (.lst (xs ++ [V.ref t2])) = H11 at hA11 hG11 hS11 D11 fr11 more ⊢
          refine ⟨.ref A, rfl, .inl ⟨rfl, _, SqL.of hA11⟩, .ref d, rfl, d, l, 9, _, rfl, D11, by omega, by decide, by decide, fun H12 e D12 fr12 e1 e2 => ⟨_, _, rfl, rfl, .inl ⟨by omega, by omega⟩, .int (k : Nat), rfl, _, _, rfl, rfl, .inl ⟨by decide, by decide⟩, _, _, rfl, rfl, sl2, fun t3 nt3 => ?_⟩⟩
          have s13 := same_upd (o := (HO.tup [V.int (e * 100), V.int (1 + 2 * (k : Nat))])) nt3
          have h13 : upd H12 t3 (HO.tup [V.int (e * 100), V.int (1 + 2 * (k : Nat))]) t3 = some (HO.tup [V.int (e * 100), V.int (1 + 2 * (k : Nat))]) := upd_same
          generalize upd H12 t3 (HO.tup [V.int (e * 100), V.int (1 + 2 * (k : Nat))]) = H13 at s13 h13 ⊢
          have hA12 := fr12 _ _ oA.1 oA.2 hA11
          have hA13 := s13 _ _ hA12
          refine ⟨A, _, _, rfl, rfl, hA13, Nat.lt_of_lt_of_le (show ys.length < 64 by omega) (by decide), ?_⟩
          have db14 := more t3 [e * 100, 1 + 2 * (k : Nat)] H13 ((Ts.frF D11 fr12).trans (Ts.same s13)) (fun z => s13 _ _ (fr12 _ _ oG.1 oG.2 z)) (fun z => s13 _ _ (fr12 _ _ oA.1 oA.2 z)) (.tup h13 (TkAll.ints [e * 100, 1 + 2 * (k : Nat)])) rfl (fun x hx => by
            simp only [List.mem_cons, List.not_mem_nil, or_false] at hx
            rcases hx with rfl | rfl
            · exact ⟨by omega, Int.le_trans (show e * 100 ≤ 900 by omega) (by decide)⟩
            · exact ⟨by omega, Int.le_trans (show 1 + 2 * (k : Int) ≤ 900 by omega) (by decide)⟩)
          have D14 := (D12.same s13).upd (o := .lst (ys ++ [.ref t3])) oA.1 oA.2
          have fr14 : Fr d l H (upd H13 A (.lst (ys ++ [.ref t3]))) := Fr.upd (fr11.trans (fr12.trans (Fr.of s13))) nA0
          have hS14 : upd H13 A (.lst (ys ++ [.ref t3])) S = some (.lst (szs.map V.int)) := by rw [upd_ne SA]; exact s13 _ _ (fr12 _ _ oS.1 oS.2 hS11)
          obtain ⟨⟨xs2, hG2, tx2⟩, _⟩ := id db14
          have lx2 : xs2.length = gs.length + 1 := by rw [tx2.length, List.length_map, List.length_append]; rfl
          refine ⟨.ref G, rfl, G, _, rfl, .inl (SqL.of hG2), ?_⟩
          rw [lx2]
          refine ⟨_, gs ++ [(xorT, [q, k])], DD ++ [[e * 100, 1 + 2 * (k : Nat)]], some (gs.length + 1), rfl, D14.mono (by push_cast; omega), fr14, hS14, db14, by rw [List.length_append]; omega, by rw [List.length_append]; show gs.length + 1 ≤ _; omega, fun z => by (cases z), fun q z => by (cases z; rw [List.length_append]; exact Nat.le_refl _)⟩
      · have hbd : decide (V.int (c / z % 2) = V.int 1) = false := decide_eq_false (fun y => hb (V.int.inj y))
        refine ⟨.int c, rfl, .ref S, rfl, .int (k : Nat), rfl, S, _, ((k : Nat) : Int), .int z, rfl, rfl, SqL.of hS8, hzS, _, _, rfl, rfl, ⟨by omega, by omega⟩, _, _, rfl, rfl, (by decide : (0 : Int) < 2), rfl, _, rfl, ?_⟩
        rw [hbd]
        refine iteF (iteF ?_)
        refine ⟨.int c, rfl, .ref S, rfl, .int (k : Nat), rfl, S, _, ((k : Nat) : Int), .int z, rfl, rfl, SqL.of hS8, hzS, _, _, rfl, rfl, ⟨by omega, by omega⟩, _, _, rfl, rfl, (by decide : (0 : Int) < 2), rfl, _, rfl, ?_⟩
        rw [hbd]
        refine iteF ⟨_, gs, DD, la, rfl, D8.mono (by push_cast; omega), fr8, hS8, db, l7, by omega, fun z' => bits_next hk' (ev z') (by rw [← z2k]; exact hb), lq⟩
    rintro σ H8 ⟨y6, gs, DD, la, rfl, D8, fr8, hS8, db, l7, lk, ev, lq⟩
    cases la with
    | none =>
      exfalso
      have e8 : c % 256 = 0 := ev rfl
      omega
    | some q =>
    have q1 := lq q rfl
    have l15 : gs.length ≤ 15 := lk
    have D8 : DeckF H8 d l (n + 384) := D8.mono (by show n + 128 + 32 * ((8 : Nat) : Int) ≤ _; omega)
    obtain ⟨⟨xs, hGx, tx⟩, ⟨ys, hAx, ty⟩, _⟩ := id db
    have lxs : xs.length = gs.length := by rw [tx.length, List.length_map]
    have lys : ys.length = gs.length := by rw [ty.length, List.length_map, db.sh.1]
    refine ⟨.ref G, rfl, .inl ⟨rfl, _, SqL.of hGx⟩, .int (q : Nat), rfl, sl2, fun t1 nt1 => ?_⟩
    have s9 := same_upd (o := (HO.tup [V.int (q : Nat), V.int 0])) nt1
    have h9 : upd H8 t1 (HO.tup [V.int (q : Nat), V.int 0]) t1 = some (HO.tup [V.int (q : Nat), V.int 0]) := upd_same
    generalize upd H8 t1 (HO.tup [V.int (q : Nat), V.int 0]) = H9 at s9 h9 ⊢
    refine ⟨sl2, fun t2 nt2 => ?_⟩
    have s10 := same_upd (o := (HO.tup [V.str (Str.ofString "1100"), V.ref t1])) nt2
    have h10 : upd H9 t2 (HO.tup [V.str (Str.ofString "1100"), V.ref t1]) t2 = some (HO.tup [V.str (Str.ofString "1100"), V.ref t1]) := upd_same
    generalize upd H9 t2 (HO.tup [V.str (Str.ofString "1100"), V.ref t1]) = H10 at s10 h10 ⊢
    have sA := s9.trans s10
    have tt : Tk H10 (.ref t2) (gD ([true, true, false, false], [q, 0])) := tk_gt (by decide +kernel) h10 (s10 _ _ h9)
    have hG10 := sA _ _ hGx
    have hA10 := sA _ _ hAx
    refine ⟨G, _, _, rfl, rfl, hG10, Nat.lt_of_lt_of_le (show xs.length < 64 by omega) (by decide), ?_⟩
    have db10 := db.same sA
    have hA11 : upd H10 G (.lst (xs ++ [V.ref t2])) A = some (.lst ys) := by rw [upd_ne GA.symm]; exact hA10
    have D11 := (D8.same sA).upd (o := .lst (xs ++ [V.ref t2])) oG.1 oG.2
    have fr11 : Fr d l H (upd H10 G (.lst (xs ++ [V.ref t2]))) := Fr.upd (fr8.trans (Fr.of sA)) nG0
    refine ⟨.ref A, rfl, .inl ⟨rfl, _, SqL.of hA11⟩, sl2, fun t3 nt3 => ?_⟩
    have s12 := same_upd (o := HO.tup [V.int 3, V.int 5]) nt3
    have h12 : upd (upd H10 G (.lst (xs ++ [V.ref t2]))) t3 (HO.tup [V.int 3, V.int 5]) t3 = some (HO.tup [V.int 3, V.int 5]) := upd_same
    have db13 := db10.more hG10 tt (Ts.same s12) (fun e => s12 _ _ e) (fun e => s12 _ _ e) (s12 _ _ hA11) (Tk.tup h12 (TkAll.ints [3, 5])) GA ⟨rfl, by show 1 ≤ 2; decide, by show 2 ≤ 3; decide, fun w hw => by
      have hw : w ∈ [q, 0] := hw
      simp only [List.mem_cons, List.not_mem_nil, or_false] at hw
      omega⟩ rfl (fun x hx => by
        simp only [List.mem_cons, List.not_mem_nil, or_false] at hx
        rcases hx with rfl | rfl
        · exact ⟨by decide, by decide⟩
        · exact ⟨by decide, by decide⟩)
    refine ⟨A, _, _, rfl, rfl, s12 _ _ hA11, Nat.lt_of_lt_of_le (show ys.length < 64 by omega) (by decide), ?_⟩
    have D13 := (D11.same s12).upd (o := .lst (ys ++ [.ref t3])) oA.1 oA.2
    have fr13 := Fr.upd (o := .lst (ys ++ [.ref t3])) (fr11.trans (Fr.of s12)) nA0
    generalize upd (upd (upd H10 G (.lst (xs ++ [V.ref t2]))) t3 (HO.tup [V.int 3, V.int 5])) A (.lst (ys ++ [.ref t3])) = H13 at db13 D13 fr13 ⊢
    generalize hgs2 : gs ++ [([true, true, false, false], [q, 0])] = gs2 at db13
    generalize DD ++ [[3, 5]] = DD2 at db13
    have lg2 : gs2.length = gs.length + 1 := by rw [← hgs2, List.length_append]; rfl
    obtain ⟨⟨xs, hGx, tx⟩, ⟨ys, hAx, ty⟩, _⟩ := id db13
    have lxs : xs.length = gs2.length := by rw [tx.length, List.length_map]
    have lys : ys.length = gs2.length := by rw [ty.length, List.length_map, db13.sh.1]
    refine ⟨.ref G, rfl, .inl ⟨rfl, _, SqL.of hGx⟩, .int (q : Nat), rfl, .int (q : Nat), rfl, _, _, rfl, rfl, sl2, fun t5 nt5 => ?_⟩
    have s14 := same_upd (o := (HO.tup [V.int (q : Nat), V.int ((q : Nat) + 1)])) nt5
    have h14 : upd H13 t5 (HO.tup [V.int (q : Nat), V.int ((q : Nat) + 1)]) t5 = some (HO.tup [V.int (q : Nat), V.int ((q : Nat) + 1)]) := upd_same
    generalize upd H13 t5 (HO.tup [V.int (q : Nat), V.int ((q : Nat) + 1)]) = H14 at s14 h14 ⊢
    refine ⟨sl2, fun t6 nt6 => ?_⟩
    have s15 := same_upd (o := (HO.tup [V.str (Str.ofString "0000"), V.ref t5])) nt6
    have h15 : upd H14 t6 (HO.tup [V.str (Str.ofString "0000"), V.ref t5]) t6 = some (HO.tup [V.str (Str.ofString "0000"), V.ref t5]) := upd_same
    generalize upd H14 t6 (HO.tup [V.str (Str.ofString "0000"), V.ref t5]) = H15 at s15 h15 ⊢
    have sB := s14.trans s15
    have tt : Tk H15 (.ref t6) (gD ([false, false, false, false], [q, q + 1])) := tk_gt (by decide +kernel) h15 (s15 _ _ h14)
    have hG15 := sB _ _ hGx
    have hA15 := sB _ _ hAx
    refine ⟨G, _, _, rfl, rfl, hG15, Nat.lt_of_lt_of_le (show xs.length < 64 by omega) (by decide), ?_⟩
    have db15 := db13.same sB
    have hA16 : upd H15 G (.lst (xs ++ [V.ref t6])) A = some (.lst ys) := by rw [upd_ne GA.symm]; exact hA15
    have D16 := (D13.same sB).upd (o := .lst (xs ++ [V.ref t6])) oG.1 oG.2
    have fr16 : Fr d l H (upd H15 G (.lst (xs ++ [V.ref t6]))) := Fr.upd (fr13.trans (Fr.of sB)) nG0
    refine ⟨.ref A, rfl, .inl ⟨rfl, _, SqL.of hA16⟩, _, _, rfl, rfl, ⟨by decide, by decide, by decide⟩, sl2, fun t7 nt7 => ?_⟩
    have s17 := same_upd (o := HO.tup [V.int 1, V.int (10 ^ (30 : Int).toNat)]) nt7
    have h17 : upd (upd H15 G (.lst (xs ++ [V.ref t6]))) t7 (HO.tup [V.int 1, V.int (10 ^ (30 : Int).toNat)]) t7 = some (HO.tup [V.int 1, V.int (10 ^ (30 : Int).toNat)]) := upd_same
    have db18 := db15.more hG15 tt (Ts.same s17) (fun e => s17 _ _ e) (fun e => s17 _ _ e) (s17 _ _ hA16) (Tk.tup h17 (TkAll.ints [1, 10 ^ (30 : Int).toNat])) GA ⟨rfl, by show 1 ≤ 2; decide, by show 2 ≤ 3; decide, fun w hw => by
      have hw : w ∈ [q, q + 1] := hw
      simp only [List.mem_cons, List.not_mem_nil, or_false] at hw
      omega⟩ rfl (fun x hx => by
        simp only [List.mem_cons, List.not_mem_nil, or_false] at hx
        rcases hx with rfl | rfl
        · exact ⟨by decide, by decide⟩
        · exact ⟨by decide, by decide⟩)
    refine ⟨A, _, _, rfl, rfl, s17 _ _ hA16, Nat.lt_of_lt_of_le (show ys.length < 64 by omega) (by decide), ?_⟩
    have D18 := (D16.same s17).upd (o := .lst (ys ++ [.ref t7])) oA.1 oA.2
    have fr18 := Fr.upd (o := .lst (ys ++ [.ref t7])) (fr16.trans (Fr.of s17)) nA0
    generalize upd (upd (upd H15 G (.lst (xs ++ [V.ref t6]))) t7 (HO.tup [V.int 1, V.int (10 ^ (30 : Int).toNat)])) A (.lst (ys ++ [.ref t7])) = H18 at db18 D18 fr18 ⊢
    have lg3 : (gs2 ++ [([false, false, false, false], [q, q + 1])]).length = gs2.length + 1 := by rw [List.length_append]; rfl
    generalize gs2 ++ [([false, false, false, false], [q, q + 1])] = gs3 at db18 lg3
    generalize DD2 ++ [[1, 10 ^ (30 : Int).toNat]] = DD3 at db18
    obtain ⟨⟨xs, hGx, tx⟩, ⟨ys, hAx, ty⟩, ok, sh, bd⟩ := id db18
    refine ⟨.ref G, rfl, G, _, rfl, .inl ⟨SqL.of hGx, fun p1 np1 => ?_⟩⟩
    have s19 := same_upd (o := (HO.tup xs)) np1
    have h19 : upd H18 p1 (HO.tup xs) p1 = some (HO.tup xs) := upd_same
    generalize upd H18 p1 (HO.tup xs) = H19 at s19 h19 ⊢
    refine ⟨sl2, fun p2 np2 => ?_⟩
    have s20 := same_upd (o := (HO.tup [V.int 1, V.ref p1])) np2
    have h20 : upd H19 p2 (HO.tup [V.int 1, V.ref p1]) p2 = some (HO.tup [V.int 1, V.ref p1]) := upd_same
    generalize upd H19 p2 (HO.tup [V.int 1, V.ref p1]) = H20 at s20 h20 ⊢
    refine ⟨.ref A, rfl, A, _, rfl, .inl ⟨SqL.of (s20 _ _ (s19 _ _ hAx)), fun p3 np3 => ?_⟩⟩
    have s21 := same_upd (o := (HO.tup ys)) np3
    have h21 : upd H20 p3 (HO.tup ys) p3 = some (HO.tup ys) := upd_same
    generalize upd H20 p3 (HO.tup ys) = H21 at s21 h21 ⊢
    refine ⟨sl2, fun p4 np4 => ?_⟩
    have s22 := same_upd (o := (HO.tup [V.ref p2, V.ref p3])) np4
    have h22 : upd H21 p4 (HO.tup [V.ref p2, V.ref p3]) p4 = some (HO.tup [V.ref p2, V.ref p3]) := upd_same
    generalize upd H21 p4 (HO.tup [V.ref p2, V.ref p3]) = H22 at s22 h22 ⊢
    have sE := s21.trans s22
    have sD := s20.trans sE
    exact q_out p4 p2 p3 H22 gs3 DD3 ((D18.same (s19.trans sD)).mono (by omega)) (fr18.trans (Fr.of (s19.trans sD))) h22 (.tup (sE _ _ h20) (.cons (.int _) (.cons (.tup (sD _ _ h19) (tx.same (s19.trans sD))) .nil))) (.tup (s22 _ _ h21) (ty.same ((s19.trans s20).trans sE))) ok sh bd (by omega)

end
end Gk

set_option Elab.async false
set_option linter.all false
set_option maxRecDepth 100000
set_option maxHeartbeats 1000000
set_option pp.maxSteps 1500
set_option pp.deepTerms false
namespace Gk
open PySem PySem.Spec PyProof.Rows L2
section
variable {P : Program} {w : World} {K : PySem.W.Frag} {mg : Str → Option Value} {base : Heap}
theorem Tabs.frF {H H' : Hp} {Ps : List Addr} {d l : Addr} {n : Int} (t : Tabs H Ps) (D : DeckF H d l n) (f : Fr d l H H') : Tabs H' Ps := fun P hP => tab_frF D f (t P hP)
theorem noL_dels (D : List (List Int)) : noL (delsD D) = true := noLs_map noL_row _
theorem wide_at {x : Int} (h0 : 0 ≤ x) (h1 : x < 3) : ∃ v : Int, atI [V.int (10 ^ (30 : Int).toNat + 1), .int (10 ^ (20 : Int).toNat), .int 9] x = some (.int v) ∧ 0 < v ∧ v ≤ 10 ^ 30 + 1 := by
  have : x = 0 ∨ x = 1 ∨ x = 2 := by omega
  rcases this with rfl | rfl | rfl
  · exact ⟨10 ^ (30 : Int).toNat + 1, rfl, by decide, by decide⟩
  · exact ⟨10 ^ (20 : Int).toNat, rfl, by decide, by decide⟩
  · exact ⟨9, rfl, by decide, by decide⟩
def sp_law (K : PySem.W.Frag) (Ps : List Addr) : Sp := fun vs H Q _ => ∃ (a : Addr) (ns : List Int), vs = [.ref a] ∧ SqL K H a (ns.map V.int) ∧ ns.length ≤ 63 ∧ Tabs H Ps ∧ ∀ H', Q (.bl true) H'
theorem ok_law (T : Tx K mg) (B : Tb base T) : FnG P w K mg base CX0 10 T.f_law T.fd_law ["_law_script"] (sp_law K T.tabs) := by
  refine okG0 T.F_law sc_law (fun vs H Q E h => ?_) (fun cdv A outer s H vs Q E nothing hr h => ?_)
  · obtain ⟨a, ns, rfl, _⟩ := h
    rfl
  · obtain ⟨a, ns, rfl, hS, hlen, tabs, q⟩ := h
    refine ⟨_, (pss_cons (ps_set (i := 1) sc_law.nd rfl (by first | exact .inl rfl | exact .inr rfl) (pe_call (ok_deck T) (hr.mono (by decide)) (by rfl) T.g_deck T.F_deck.kp T.b_deck .nil pass0 (pa_cons (pv 0) pa_nil))) (pss_cons (ps_for PassesOwn.never rfl (pi_range1 (by rfl) T.m_range (pa_cons pe_int pa_nil)) (pg_name (i := 2) sc_law.nd rfl (by first | exact .inl rfl | exact .inr rfl)) (pss_cons (ps_set (i := 3) sc_law.nd rfl (by first | exact .inl rfl | exact .inr rfl) (pe_cmpR op_eq (pe_call (ok_draw T) (hr.mono (by decide)) (by rfl) T.g_draw T.F_draw.kp T.b_draw .nil pass0 (pa_cons (pv 1) (pa_cons pe_int pa_nil))) pe_int (nomark _))) (pss_cons (ps_set (i := 4) sc_law.nd rfl (by first | exact .inl rfl | exact .inr rfl) (pe_call (ok_net T) (hr.mono (by decide)) (by rfl) T.g_net T.F_net.kp T.b_net .nil pass0 (pa_cons (pv 1) (pa_cons (pe_op op_add pe_int (pe_call (ok_draw T) (hr.mono (by decide)) (by rfl) T.g_draw T.F_draw.kp T.b_draw .nil pass0 (pa_cons (pv 1) (pa_cons pe_int pa_nil)))) (pa_cons (pv 3) pa_nil))))) (pss_cons (ps_set (i := 5) sc_law.nd rfl (by first | exact .inl rfl | exact .inr rfl) (pe_ix ix_list (pe_lst (pa_cons (pe_op op_add (pe_op op_pow pe_int pe_int) pe_int) (pa_cons (pe_op op_pow pe_int pe_int) (pa_cons pe_int pa_nil)))) (pe_call (ok_draw T) (hr.mono (by decide)) (by rfl) T.g_draw T.F_draw.kp T.b_draw .nil pass0 (pa_cons (pv 1) (pa_cons pe_int pa_nil))) (fun _ _ => rfl))) (pss_one (ps_if (pt_not (pt_val (pe_callG (ok_right T B) nothing (hr.mono (by decide)) (by rfl) T.g_right T.F_right.kp T.b_right .nil pass0 (pa_cons (pv 4) (pa_cons (pe_call (ok_delays T) (hr.mono (by decide)) (by rfl) T.g_delays T.F_delays.kp T.b_delays .nil pass0 (pa_cons (pv 1) (pa_cons (pv 4) (pa_cons (pv 5) pa_nil)))) (pa_cons (pe_call (ok_rows T) (hr.mono (by decide)) (by rfl) T.g_rows T.F_rows.kp T.b_rows .nil pass0 (pa_cons (pv 1) (pa_cons (pe_ix ix_tup (pv 4) pe_int (fun _ _ => rfl)) pa_nil))) pa_nil)))))) (pss_one (ps_ret pe_bl)) pss_nil)))))) (pss_cons (ps_set (i := 6) sc_law.nd rfl (by first | exact .inl rfl | exact .inr rfl) (pe_cmpR op_eq (pe_call (ok_draw T) (hr.mono (by decide)) (by rfl) T.g_draw T.F_draw.kp T.b_draw .nil pass0 (pa_cons (pv 1) (pa_cons pe_int pa_nil))) pe_int (nomark _))) (pss_cons (ps_set (i := 7) sc_law.nd rfl (by first | exact .inl rfl | exact .inr rfl) (pe_call (ok_draw T) (hr.mono (by decide)) (by rfl) T.g_draw T.F_draw.kp T.b_draw .nil pass0 (pa_cons (pv 1) (pa_cons pe_int pa_nil)))) (pss_cons (ps_asg (pe_call (ok_doubled T) (hr.mono (by decide)) (by rfl) T.g_doubled T.F_doubled.kp T.b_doubled .nil pass0 (pa_cons (pv 1) pa_nil)) (pg_tup rfl (pgs_cons (pg_name (i := 4) sc_law.nd rfl (by first | exact .inl rfl | exact .inr rfl)) (pgs_cons (pg_name (i := 8) sc_law.nd rfl (by first | exact .inl rfl | exact .inr rfl)) pgs_nil)))) (pss_one (ps_ret (pe_callG (ok_right T B) nothing (hr.mono (by decide)) (by rfl) T.g_right T.F_right.kp T.b_right .nil pass0 (pa_cons (pv 4) (pa_cons (pv 8) (pa_cons (pe_tup (pa_cons (pe_tup (pa_cons (pv 7) pa_nil)) (pa_cons (pe_tup (pa_cons (pe_ix ix_list (pe_lst (pa_cons (pe_op op_sub pe_int (pv 7)) (pa_cons (pv 7) pa_nil))) (pe_callTy call_int1 (by rfl) T.m_int (by decide +kernel) (pa_cons (pv 6) pa_nil)) (fun _ _ => rfl)) pa_nil)) pa_nil))) pa_nil))))))))))), ?_⟩
    refine ⟨.ref a, rfl, a, ns, rfl, hS, hlen, fun H1 d l s1 D1 => ?_⟩
    have t1 : Tabs H1 T.tabs := fun P hP => (Gr.of s1).2 _ (tabs P hP)
    refine ⟨2, rfl, by decide, by decide, ?_⟩
    refine for_range (lo := 0) (n := (2 : Int).toNat) (fun i σ H' => ∃ y2 y3 y4 y5, σ = [some (.ref a), some (.ref d), y2, y3, y4, y5, none, none, none] ∧ DeckF H' d l (10000 * i) ∧ Tabs H' T.tabs)
      ⟨_, _, _, _, rfl, D1.mono (by omega), t1⟩ ?_ ?_
    · rintro i σ H2 hi ⟨y2, y3, y4, y5, rfl, D2, t2⟩
      have hi' : i < 2 := hi
      refine ⟨.ref d, rfl, d, l, 2, _, rfl, D2, by omega, by decide, by decide, fun H3 f D3 fr3 f0 f1 => ⟨rfl, ?_⟩⟩
      have t3 := t2.frF D2 fr3
      refine ⟨.ref d, rfl, .ref d, rfl, d, l, 7, _, rfl, D3, by omega, by decide, by decide, fun H4 x D4 fr4 x0 x1 => ⟨_, _, rfl, rfl, _, rfl, ?_⟩⟩
      have t4 := t3.frF D3 fr4
      obtain ⟨c, hc, c1, c7⟩ : ∃ c : Nat, 1 + x = (c : Int) ∧ 1 ≤ c ∧ c ≤ 7 := ⟨(1 + x).toNat, by omega, by omega, by omega⟩
      generalize decide (V.int f = V.int 1) = fo
      refine ⟨d, l, _, c, fo, (by show [V.ref d, V.int (1 + x), V.bl fo] = _; rw [hc]), D4, by omega, c1, by omega, fun r H5 m gs D5 fr5 tn m1 m4 lg okn => ?_⟩
      have t5 := t4.frF D4 fr5
      refine ⟨_, _, rfl, rfl, ⟨by decide, by decide, by decide⟩, _, _, rfl, rfl, _, _, rfl, rfl, ⟨by decide, by decide, by decide⟩, sl3, fun p np => ?_⟩
      have op := D5.off np
      have s6 := same_upd (o := (HO.lst [V.int (10 ^ (30 : Int).toNat + 1), .int (10 ^ (20 : Int).toNat), .int 9])) np
      have hp6 : upd H5 p (HO.lst [V.int (10 ^ (30 : Int).toNat + 1), .int (10 ^ (20 : Int).toNat), .int 9]) p = some (HO.lst [V.int (10 ^ (30 : Int).toNat + 1), .int (10 ^ (20 : Int).toNat), .int 9]) := upd_same
      generalize upd H5 p (HO.lst [V.int (10 ^ (30 : Int).toNat + 1), .int (10 ^ (20 : Int).toNat), .int 9]) = H6 at s6 hp6 ⊢
      have D6 := D5.same s6
      have t6 : Tabs H6 T.tabs := fun P hP => (Gr.of s6).2 _ (t5 P hP)
      refine ⟨.ref d, rfl, d, l, 3, _, rfl, D6, by omega, by decide, by decide, fun H7 v D7 fr7 v0 v1 => ?_⟩
      obtain ⟨wd, hwd, w0, w1⟩ := wide_at v0 v1
      have t7 := t6.frF D6 fr7
      have tn7 := (tn.same s6).ts (Ts.frF D6 fr7) (noL_net _ _)
      refine ⟨p, _, v, .int wd, rfl, rfl, SqL.of (fr7 _ _ op.1 op.2 hp6), hwd, ?_⟩
      refine ⟨.ref r, rfl, .ref d, rfl, .ref r, rfl, .int wd, rfl, d, l, _, .ref r, m, gs, wd, rfl, D7, by omega, tn7, okn, by omega, w0, by omega, fun r2 H8 DD D8 fr8 td sh okD => ?_⟩
      have t8 := t7.frF D7 fr8
      have tn8 := tn7.ts (Ts.frF D7 fr8) (noL_net _ _)
      obtain ⟨n, g, xs, en, hn, hg, tg⟩ := tn8.net_inv
      cases en
      refine ⟨.ref d, rfl, .ref r, rfl, r, _, 0, .int m, rfl, rfl, SqT.of hn, rfl, d, l, _, m, rfl, D8, by omega, by omega, fun r3 H9 a' b' D9 fr9 tc la lb ha hb => ?_⟩
      have t9 := t8.frF D8 fr9
      have tn9 := tn8.ts (Ts.frF D8 fr9) (noL_net _ _)
      have td9 := td.ts (Ts.frF D8 fr9) (noL_dels _)
      have R : RunOk m gs DD a' b' := ⟨okn, sh, fun dd hd x hx => (okD dd hd x hx).1, la, lb, ha, hb⟩
      refine ⟨.ref r, .ref r2, .ref r3, m, gs, DD, a', b', rfl, tn9, td9, tc, R, by omega, fun dd hd x hx => by have := okD dd hd x hx; omega, t9, fun H10 g10 => ⟨true, rfl, iteF ?_⟩⟩
      exact ⟨_, _, _, _, rfl, (D9.gr g10).mono (by push_cast; omega), fun P hP => g10.2 _ (t9 P hP)⟩
    · rintro σ H2 ⟨y2, y3, y4, y5, rfl, D2, t2⟩
      refine ⟨.ref d, rfl, d, l, 4, _, rfl, D2, by decide, by decide, by decide, fun H3 f D3 fr3 f0 f1 => ⟨rfl, ?_⟩⟩
      have t3 := t2.frF D2 fr3
      generalize decide (V.int f = V.int 1) = fo
      refine ⟨.ref d, rfl, d, l, 2, _, rfl, D3, by decide, by decide, by decide, fun H4 u D4 fr4 u0 u1 => ?_⟩
      have t4 := t3.frF D3 fr4
      refine ⟨.ref d, rfl, d, l, _, rfl, D4, by decide, fun r nv dv H5 gs DD D5 fr5 hr5 tn td okn sh bd l17 => ?_⟩
      have t5 := t4.frF D4 fr5
      refine ⟨r, _, rfl, SqT.of hr5, rfl, _, _, rfl, _, _, rfl, rfl, ?_⟩
      refine ⟨.ref nv, rfl, .ref dv, rfl, .int u, rfl, sl1, fun c1 nc1 => ?_⟩
      have s6 := same_upd (o := (HO.tup [V.int u])) nc1
      have h6 : upd H5 c1 (HO.tup [V.int u]) c1 = some (HO.tup [V.int u]) := upd_same
      generalize upd H5 c1 (HO.tup [V.int u]) = H6 at s6 h6 ⊢
      refine ⟨.int u, rfl, _, _, rfl, rfl, .int u, rfl, sl2, fun p np => ?_⟩
      have s7 := same_upd (o := (HO.lst [V.int (1 - u), V.int u])) np
      have h7 : upd H6 p (HO.lst [V.int (1 - u), V.int u]) p = some (HO.lst [V.int (1 - u), V.int u]) := upd_same
      generalize upd H6 p (HO.lst [V.int (1 - u), V.int u]) = H7 at s7 h7 ⊢
      obtain ⟨x, hx, x01⟩ : ∃ x : Int, atI [V.int (1 - u), V.int u] (if fo = true then 1 else 0) = some (.int x) ∧ (x = 0 ∨ x = 1) := by
        cases fo
        · exact ⟨1 - u, rfl, by omega⟩
        · exact ⟨u, rfl, by omega⟩
      refine ⟨.bl fo, rfl, .inr ⟨_, rfl, p, _, _, .int x, rfl, rfl, SqL.of h7, hx, sl1, fun c2 nc2 => ?_⟩⟩
      have s8 := same_upd (o := (HO.tup [V.int x])) nc2
      have h8 : upd H7 c2 (HO.tup [V.int x]) c2 = some (HO.tup [V.int x]) := upd_same
      generalize upd H7 c2 (HO.tup [V.int x]) = H8 at s8 h8 ⊢
      refine ⟨sl2, fun c3 nc3 => ?_⟩
      have s9 := same_upd (o := (HO.tup [V.ref c1, V.ref c2])) nc3
      have h9 : upd H8 c3 (HO.tup [V.ref c1, V.ref c2]) c3 = some (HO.tup [V.ref c1, V.ref c2]) := upd_same
      generalize upd H8 c3 (HO.tup [V.ref c1, V.ref c2]) = H9 at s9 h9 ⊢
      have sA := s6.trans (s7.trans (s8.trans s9))
      have tc : Tk H9 (.ref c3) (chD [u] [x]) := .tup h9 (.cons (.tup (s9 _ _ (s8 _ _ (s7 _ _ h6))) (TkAll.ints [u])) (.cons (.tup (s9 _ _ h8) (TkAll.ints [x])) .nil))
      have R : RunOk 1 gs DD [u] [x] := ⟨okn, sh, fun dd hd x hx => (bd dd hd x hx).1, rfl, rfl, fun y hy => by rw [List.mem_singleton.mp hy]; omega, fun y hy => by rw [List.mem_singleton.mp hy]; exact x01⟩
      exact ⟨.ref nv, .ref dv, .ref c3, 1, gs, DD, [u], [x], rfl, tn.same sA, td.same sA, tc, R, by omega, fun dd hd x hx => (bd dd hd x hx).2, fun P hP => (Gr.of sA).2 _ (t5 P hP), fun H10 g10 => q H10⟩

end
def d_table_worth : He.DefD := ⟨("table_worth", none), "table_worth", "table_worth", defArgs s_table_worth, defBody s_table_worth, defScope s_table_worth, [], []⟩
def d_waves_of : He.DefD := ⟨("waves_of", none), "waves_of", "waves_of", defArgs s_waves_of, defBody s_waves_of, defScope s_waves_of, [], []⟩
def d_input_wave : He.DefD := ⟨("input_wave", none), "input_wave", "input_wave", defArgs s_input_wave, defBody s_input_wave, defScope s_input_wave, [], []⟩
def d_later : He.DefD := ⟨("later", none), "later", "later", defArgs s_later, defBody s_later, defScope s_later, [], []⟩
def d_gate_wave : He.DefD := ⟨("gate_wave", none), "gate_wave", "gate_wave", defArgs s_gate_wave, defBody s_gate_wave, defScope s_gate_wave, [], []⟩
def d_turns_of : He.DefD := ⟨("turns_of", none), "turns_of", "turns_of", defArgs s_turns_of, defBody s_turns_of, defScope s_turns_of, [], []⟩
def d_mixed : He.DefD := ⟨("_law_mixed", none), "_law_mixed", "_law_mixed", defArgs s_mixed, defBody s_mixed, defScope s_mixed, [], []⟩
def d_deck : He.DefD := ⟨("_law_deck", none), "_law_deck", "_law_deck", defArgs s_deck, defBody s_deck, defScope s_deck, [], []⟩
def d_draw : He.DefD := ⟨("_law_draw", none), "_law_draw", "_law_draw", defArgs s_draw, defBody s_draw, defScope s_draw, [], []⟩
def d_table : He.DefD := ⟨("_law_table", none), "_law_table", "_law_table", defArgs s_table, defBody s_table, defScope s_table, [], []⟩
def d_net : He.DefD := ⟨("_law_net", none), "_law_net", "_law_net", defArgs s_net, defBody s_net, defScope s_net, [], []⟩
def d_rows : He.DefD := ⟨("_law_rows", none), "_law_rows", "_law_rows", defArgs s_rows, defBody s_rows, defScope s_rows, [], []⟩
def d_delays : He.DefD := ⟨("_law_delays", none), "_law_delays", "_law_delays", defArgs s_delays, defBody s_delays, defScope s_delays, [], []⟩
def d_worth : He.DefD := ⟨("_law_worth", none), "_law_worth", "_law_worth", defArgs s_worth, defBody s_worth, defScope s_worth, [], []⟩
def d_wave : He.DefD := ⟨("_law_wave", none), "_law_wave", "_law_wave", defArgs s_wave, defBody s_wave, defScope s_wave, [], []⟩
def d_due : He.DefD := ⟨("_law_due", none), "_law_due", "_law_due", defArgs s_due, defBody s_due, defScope s_due, [], []⟩
def d_doubled : He.DefD := ⟨("_law_doubled", none), "_law_doubled", "_law_doubled", defArgs s_doubled, defBody s_doubled, defScope s_doubled, [], []⟩
def d_told : He.DefD := ⟨("_law_told", none), "_law_told", "_law_told", defArgs s_told, defBody s_told, defScope s_told, [], []⟩
def d_right : He.DefD := ⟨("_law_right", none), "_law_right", "_law_right", defArgs s_right, defBody s_right, defScope s_right, [], []⟩
def d_law : He.DefD := ⟨("law", none), "law", "law", defArgs s_law, defBody s_law, defScope s_law, [], []⟩
def fn : List He.DefD := [d_table_worth, d_waves_of, d_input_wave, d_later, d_gate_wave, d_turns_of, d_mixed, d_deck, d_draw, d_table, d_net, d_rows, d_delays, d_worth, d_wave, d_due, d_doubled, d_told, d_right, d_law]
def fa : List He.Fa := [.glo "table_worth", .glo "waves_of", .glo "input_wave", .glo "later", .glo "gate_wave", .glo "turns_of", .glo "_law_mixed", .glo "_law_deck", .glo "_law_draw", .glo "_law_table", .glo "_law_net", .glo "_law_rows", .glo "_law_delays", .glo "_law_worth", .glo "_law_wave", .glo "_law_due", .glo "_law_doubled", .glo "_law_told", .glo "_law_right", .glo "law", .free "ValueError", .free "enumerate", .free "int", .free "isinstance", .free "len", .free "list", .free "min", .free "range", .free "repr", .free "sorted", .free "sum", .free "tuple", .free "zip", .int "MOST_CHANGES" 200, .glo "NetError", .glo "NoText", .glo "TooMany", .glo "NotFormula", .glo "NoTurn", .glo "NoForms", .glo "NoRow", .exc "TooMany"]
def tf : List He.Defn := [("later", none)]
abbrev RR : PySem.W.OpenRow := PySem.W.OpenLaw.row PySem.Challenge.rw_glitchnet_k10_great_delays_and_too_many
def yes : PySem.W.Frag → Bool := fun K => (GxE.excCB K (He.ga K "TooMany") && (decide (PySem.W.kitOne K (.ref (He.ga K "TooMany")) (.type "ValueError") = some true) && (decide (PySem.W.kitOne K (.ref (He.ga K "TooMany")) (.ref (He.ga K "NetError")) = some true) && (decide (PySem.W.exmOne K (.ref (He.ga K "TooMany")) (.ref (He.ga K "NetError")) = some true) && (decide (PySem.W.kitOne K (.ref (He.ga K "TooMany")) (.ref (He.ga K "NoText")) = some false) && (decide (PySem.W.exmOne K (.ref (He.ga K "TooMany")) (.ref (He.ga K "NoText")) = some false) && (decide (PySem.W.kitOne K (.ref (He.ga K "TooMany")) (.ref (He.ga K "TooMany")) = some true) && (decide (PySem.W.exmOne K (.ref (He.ga K "TooMany")) (.ref (He.ga K "TooMany")) = some true) && (decide (PySem.W.kitOne K (.ref (He.ga K "TooMany")) (.ref (He.ga K "NotFormula")) = some false) && (decide (PySem.W.exmOne K (.ref (He.ga K "TooMany")) (.ref (He.ga K "NotFormula")) = some false) && (decide (PySem.W.kitOne K (.ref (He.ga K "TooMany")) (.ref (He.ga K "NoTurn")) = some false) && (decide (PySem.W.exmOne K (.ref (He.ga K "TooMany")) (.ref (He.ga K "NoTurn")) = some false) && (decide (PySem.W.kitOne K (.ref (He.ga K "TooMany")) (.ref (He.ga K "NoForms")) = some false) && (decide (PySem.W.exmOne K (.ref (He.ga K "TooMany")) (.ref (He.ga K "NoForms")) = some false) && (decide (PySem.W.kitOne K (.ref (He.ga K "TooMany")) (.ref (He.ga K "NoRow")) = some false) && (decide (PySem.W.exmOne K (.ref (He.ga K "TooMany")) (.ref (He.ga K "NoRow")) = some false) && true))))))))))))))))
abbrev hk : PySem.W.Hook := He.hookX 4 fa fn [] tf yes
def ob (s : PySem.W.SharedT) : He.AlX := He.obsX 4 fa fn [] tf yes (HandSHeadRun.getT s)
theorem ob_eq (s : PySem.W.SharedT) : ob s = hk.obs s.abs := He.obsX_eq (HandSHeadRun.getT_eq s)
theorem run (w : World) : HandSHeadRun.RunEq RR (PySem.W.view RR.prog [31]) hk ob 3000 [("NetError" : PySem.Str), ("NoText" : PySem.Str), ("TooMany" : PySem.Str), ("NotFormula" : PySem.Str), ("NoTurn" : PySem.Str), ("NoForms" : PySem.Str), ("NoRow" : PySem.Str), ("table_worth" : PySem.Str), ("MOST_CHANGES" : PySem.Str), ("waves_of" : PySem.Str), ("input_wave" : PySem.Str), ("later" : PySem.Str), ("gate_wave" : PySem.Str), ("turns_of" : PySem.Str), ("_law_mixed" : PySem.Str), ("_law_deck" : PySem.Str), ("_law_draw" : PySem.Str), ("_law_table" : PySem.Str), ("_law_net" : PySem.Str), ("_law_rows" : PySem.Str), ("_law_delays" : PySem.Str), ("_law_worth" : PySem.Str), ("_law_wave" : PySem.Str), ("_law_due" : PySem.Str), ("_law_doubled" : PySem.Str), ("_law_told" : PySem.Str), ("_law_right" : PySem.Str)] w := by
  intro os
  kernel_rfl
theorem facts {w : World} {K : PySem.W.Frag} {h : Heap} {mg : Str → Option Value} {f : Addr} (X : K.In h) (G : h.Ns mainGlobals mg) (hfa : mg ("law" : Str) = some (.ref f)) (c : He.SaysX fa fn [] tf yes w h K) : LawAtG PySem.Challenge.rw_glitchnet_k10_great_delays_and_too_many w K CX0 10 63 "_law_script" mg f h := by
  obtain ⟨fd0, D0⟩ := c.t.d.def_ 0 (d := d_table_worth) rfl
  have F0 : Fun K "table_worth" "table_worth" s_table_worth (He.fAd K ("table_worth", none)) fd0 := fun_of D0
  have b0 := F0.binds (ps := ["table", "worths"]) fun _ _ _ _ _ _ us hl => match us, hl with | [_, _], _ => rfl
  obtain ⟨fd1, D1⟩ := c.t.d.def_ 1 (d := d_waves_of) rfl
  have F1 : Fun K "waves_of" "waves_of" s_waves_of (He.fAd K ("waves_of", none)) fd1 := fun_of D1
  have b1 := F1.binds (ps := ["net", "delays", "change"]) fun _ _ _ _ _ _ us hl => match us, hl with | [_, _, _], _ => rfl
  obtain ⟨fd2, D2⟩ := c.t.d.def_ 2 (d := d_input_wave) rfl
  have F2 : Fun K "input_wave" "input_wave" s_input_wave (He.fAd K ("input_wave", none)) fd2 := fun_of D2
  have b2 := F2.binds (ps := ["before", "after"]) fun _ _ _ _ _ _ us hl => match us, hl with | [_, _], _ => rfl
  obtain ⟨fd3, D3⟩ := c.t.d.def_ 3 (d := d_later) rfl
  have F3 : Fun K "later" "later" s_later (He.fAd K ("later", none)) fd3 := fun_of D3
  have b3 := F3.binds (ps := ["wave", "delay"]) fun _ _ _ _ _ _ us hl => match us, hl with | [_, _], _ => rfl
  obtain ⟨fd4, D4⟩ := c.t.d.def_ 4 (d := d_gate_wave) rfl
  have F4 : Fun K "gate_wave" "gate_wave" s_gate_wave (He.fAd K ("gate_wave", none)) fd4 := fun_of D4
  have b4 := F4.binds (ps := ["table", "waves"]) fun _ _ _ _ _ _ us hl => match us, hl with | [_, _], _ => rfl
  obtain ⟨fd5, D5⟩ := c.t.d.def_ 5 (d := d_turns_of) rfl
  have F5 : Fun K "turns_of" "turns_of" s_turns_of (He.fAd K ("turns_of", none)) fd5 := fun_of D5
  have b5 := F5.binds (ps := ["waves"]) fun _ _ _ _ _ _ us hl => match us, hl with | [_], _ => rfl
  obtain ⟨fd6, D6⟩ := c.t.d.def_ 6 (d := d_mixed) rfl
  have F6 : Fun K "_law_mixed" "_law_mixed" s_mixed (He.fAd K ("_law_mixed", none)) fd6 := fun_of D6
  have b6 := F6.binds (ps := ["_law_number"]) fun _ _ _ _ _ _ us hl => match us, hl with | [_], _ => rfl
  obtain ⟨fd7, D7⟩ := c.t.d.def_ 7 (d := d_deck) rfl
  have F7 : Fun K "_law_deck" "_law_deck" s_deck (He.fAd K ("_law_deck", none)) fd7 := fun_of D7
  have b7 := F7.binds (ps := ["_law_script"]) fun _ _ _ _ _ _ us hl => match us, hl with | [_], _ => rfl
  obtain ⟨fd8, D8⟩ := c.t.d.def_ 8 (d := d_draw) rfl
  have F8 : Fun K "_law_draw" "_law_draw" s_draw (He.fAd K ("_law_draw", none)) fd8 := fun_of D8
  have b8 := F8.binds (ps := ["_law_deck_here", "_law_most"]) fun _ _ _ _ _ _ us hl => match us, hl with | [_, _], _ => rfl
  obtain ⟨fd9, D9⟩ := c.t.d.def_ 9 (d := d_table) rfl
  have F9 : Fun K "_law_table" "_law_table" s_table (He.fAd K ("_law_table", none)) fd9 := fun_of D9
  have b9 := F9.binds (ps := ["_law_deck_here", "_law_many"]) fun _ _ _ _ _ _ us hl => match us, hl with | [_, _], _ => rfl
  obtain ⟨fd10, D10⟩ := c.t.d.def_ 10 (d := d_net) rfl
  have F10 : Fun K "_law_net" "_law_net" s_net (He.fAd K ("_law_net", none)) fd10 := fun_of D10
  have b10 := F10.binds (ps := ["_law_deck_here", "_law_gates", "_law_formula"]) fun _ _ _ _ _ _ us hl => match us, hl with | [_, _, _], _ => rfl
  obtain ⟨fd11, D11⟩ := c.t.d.def_ 11 (d := d_rows) rfl
  have F11 : Fun K "_law_rows" "_law_rows" s_rows (He.fAd K ("_law_rows", none)) fd11 := fun_of D11
  have b11 := F11.binds (ps := ["_law_deck_here", "_law_many"]) fun _ _ _ _ _ _ us hl => match us, hl with | [_, _], _ => rfl
  obtain ⟨fd12, D12⟩ := c.t.d.def_ 12 (d := d_delays) rfl
  have F12 : Fun K "_law_delays" "_law_delays" s_delays (He.fAd K ("_law_delays", none)) fd12 := fun_of D12
  have b12 := F12.binds (ps := ["_law_deck_here", "_law_net_here", "_law_most"]) fun _ _ _ _ _ _ us hl => match us, hl with | [_, _, _], _ => rfl
  obtain ⟨fd13, D13⟩ := c.t.d.def_ 13 (d := d_worth) rfl
  have F13 : Fun K "_law_worth" "_law_worth" s_worth (He.fAd K ("_law_worth", none)) fd13 := fun_of D13
  have b13 := F13.binds (ps := ["_law_table_here", "_law_worths"]) fun _ _ _ _ _ _ us hl => match us, hl with | [_, _], _ => rfl
  obtain ⟨fd14, D14⟩ := c.t.d.def_ 14 (d := d_wave) rfl
  have F14 : Fun K "_law_wave" "_law_wave" s_wave (He.fAd K ("_law_wave", none)) fd14 := fun_of D14
  have b14 := F14.binds (ps := ["_law_table_here", "_law_waves", "_law_delays_here"]) fun _ _ _ _ _ _ us hl => match us, hl with | [_, _, _], _ => rfl
  obtain ⟨fd15, D15⟩ := c.t.d.def_ 15 (d := d_due) rfl
  have F15 : Fun K "_law_due" "_law_due" s_due (He.fAd K ("_law_due", none)) fd15 := fun_of D15
  have b15 := F15.binds (ps := ["_law_net_here", "_law_delays_here", "_law_change"]) fun _ _ _ _ _ _ us hl => match us, hl with | [_, _, _], _ => rfl
  obtain ⟨fd16, D16⟩ := c.t.d.def_ 16 (d := d_doubled) rfl
  have F16 : Fun K "_law_doubled" "_law_doubled" s_doubled (He.fAd K ("_law_doubled", none)) fd16 := fun_of D16
  have b16 := F16.binds (ps := ["_law_deck_here"]) fun _ _ _ _ _ _ us hl => match us, hl with | [_], _ => rfl
  obtain ⟨fd17, D17⟩ := c.t.d.def_ 17 (d := d_told) rfl
  have F17 : Fun K "_law_told" "_law_told" s_told (He.fAd K ("_law_told", none)) fd17 := fun_of D17
  have b17 := F17.binds (ps := ["_law_net_here", "_law_delays_here", "_law_change"]) fun _ _ _ _ _ _ us hl => match us, hl with | [_, _, _], _ => rfl
  obtain ⟨fd18, D18⟩ := c.t.d.def_ 18 (d := d_right) rfl
  have F18 : Fun K "_law_right" "_law_right" s_right (He.fAd K ("_law_right", none)) fd18 := fun_of D18
  have b18 := F18.binds (ps := ["_law_net_here", "_law_delays_here", "_law_change"]) fun _ _ _ _ _ _ us hl => match us, hl with | [_, _, _], _ => rfl
  obtain ⟨fd19, D19⟩ := c.t.d.def_ 19 (d := d_law) rfl
  have F19 : Fun K "law" "law" s_law (He.fAd K ("law", none)) fd19 := fun_of D19
  have b19 := F19.binds (ps := ["_law_script"]) fun _ _ _ _ _ _ us hl => match us, hl with | [_], _ => rfl
  obtain ⟨q_TooMany, kC_TooMany, su_TooMany, ty_TooMany⟩ := He.exc_ok (c.t.d.fact 41 (f := .exc "TooMany") rfl)
  have mo := c.more
  obtain ⟨y0, mo⟩ := He.ba mo
  obtain ⟨y1, mo⟩ := He.ba mo
  obtain ⟨y2, mo⟩ := He.ba mo
  obtain ⟨y3, mo⟩ := He.ba mo
  obtain ⟨y4, mo⟩ := He.ba mo
  obtain ⟨y5, mo⟩ := He.ba mo
  obtain ⟨y6, mo⟩ := He.ba mo
  obtain ⟨y7, mo⟩ := He.ba mo
  obtain ⟨y8, mo⟩ := He.ba mo
  obtain ⟨y9, mo⟩ := He.ba mo
  obtain ⟨y10, mo⟩ := He.ba mo
  obtain ⟨y11, mo⟩ := He.ba mo
  obtain ⟨y12, mo⟩ := He.ba mo
  obtain ⟨y13, mo⟩ := He.ba mo
  obtain ⟨y14, mo⟩ := He.ba mo
  obtain ⟨y15, mo⟩ := He.ba mo
  have e := hfa.symm.trans (He.glo_ok X G (c.t.d.fact 19 (f := .glo "law") rfl))
  cases e
  let T : Tx K mg := { f_table_worth := _, fd_table_worth := _, F_table_worth := F0, g_table_worth := He.glo_ok X G (c.t.d.fact 0 (f := .glo "table_worth") rfl), b_table_worth := b0, f_waves_of := _, fd_waves_of := _, F_waves_of := F1, g_waves_of := He.glo_ok X G (c.t.d.fact 1 (f := .glo "waves_of") rfl), b_waves_of := b1, f_input_wave := _, fd_input_wave := _, F_input_wave := F2, g_input_wave := He.glo_ok X G (c.t.d.fact 2 (f := .glo "input_wave") rfl), b_input_wave := b2, f_later := _, fd_later := _, F_later := F3, g_later := He.glo_ok X G (c.t.d.fact 3 (f := .glo "later") rfl), b_later := b3, c_later := (He.cT K ("later", none)).1, P_later := (He.cT K ("later", none)).2, cd_later := code_of F3, f_gate_wave := _, fd_gate_wave := _, F_gate_wave := F4, g_gate_wave := He.glo_ok X G (c.t.d.fact 4 (f := .glo "gate_wave") rfl), b_gate_wave := b4, f_turns_of := _, fd_turns_of := _, F_turns_of := F5, g_turns_of := He.glo_ok X G (c.t.d.fact 5 (f := .glo "turns_of") rfl), b_turns_of := b5, f_mixed := _, fd_mixed := _, F_mixed := F6, g_mixed := He.glo_ok X G (c.t.d.fact 6 (f := .glo "_law_mixed") rfl), b_mixed := b6, f_deck := _, fd_deck := _, F_deck := F7, g_deck := He.glo_ok X G (c.t.d.fact 7 (f := .glo "_law_deck") rfl), b_deck := b7, f_draw := _, fd_draw := _, F_draw := F8, g_draw := He.glo_ok X G (c.t.d.fact 8 (f := .glo "_law_draw") rfl), b_draw := b8, f_table := _, fd_table := _, F_table := F9, g_table := He.glo_ok X G (c.t.d.fact 9 (f := .glo "_law_table") rfl), b_table := b9, f_net := _, fd_net := _, F_net := F10, g_net := He.glo_ok X G (c.t.d.fact 10 (f := .glo "_law_net") rfl), b_net := b10, f_rows := _, fd_rows := _, F_rows := F11, g_rows := He.glo_ok X G (c.t.d.fact 11 (f := .glo "_law_rows") rfl), b_rows := b11, f_delays := _, fd_delays := _, F_delays := F12, g_delays := He.glo_ok X G (c.t.d.fact 12 (f := .glo "_law_delays") rfl), b_delays := b12, f_worth := _, fd_worth := _, F_worth := F13, g_worth := He.glo_ok X G (c.t.d.fact 13 (f := .glo "_law_worth") rfl), b_worth := b13, f_wave := _, fd_wave := _, F_wave := F14, g_wave := He.glo_ok X G (c.t.d.fact 14 (f := .glo "_law_wave") rfl), b_wave := b14, f_due := _, fd_due := _, F_due := F15, g_due := He.glo_ok X G (c.t.d.fact 15 (f := .glo "_law_due") rfl), b_due := b15, f_doubled := _, fd_doubled := _, F_doubled := F16, g_doubled := He.glo_ok X G (c.t.d.fact 16 (f := .glo "_law_doubled") rfl), b_doubled := b16, f_told := _, fd_told := _, F_told := F17, g_told := He.glo_ok X G (c.t.d.fact 17 (f := .glo "_law_told") rfl), b_told := b17, f_right := _, fd_right := _, F_right := F18, g_right := He.glo_ok X G (c.t.d.fact 18 (f := .glo "_law_right") rfl), b_right := b18, f_law := _, fd_law := _, F_law := F19, g_law := He.glo_ok X G (c.t.d.fact 19 (f := .glo "law") rfl), b_law := b19, m_ValueError := He.free_ok X G (c.t.d.fact 20 (f := .free "ValueError") rfl), m_enumerate := He.free_ok X G (c.t.d.fact 21 (f := .free "enumerate") rfl), m_int := He.free_ok X G (c.t.d.fact 22 (f := .free "int") rfl), m_isinstance := He.free_ok X G (c.t.d.fact 23 (f := .free "isinstance") rfl), m_len := He.free_ok X G (c.t.d.fact 24 (f := .free "len") rfl), m_list := He.free_ok X G (c.t.d.fact 25 (f := .free "list") rfl), m_min := He.free_ok X G (c.t.d.fact 26 (f := .free "min") rfl), m_range := He.free_ok X G (c.t.d.fact 27 (f := .free "range") rfl), m_repr := He.free_ok X G (c.t.d.fact 28 (f := .free "repr") rfl), m_sorted := He.free_ok X G (c.t.d.fact 29 (f := .free "sorted") rfl), m_sum := He.free_ok X G (c.t.d.fact 30 (f := .free "sum") rfl), m_tuple := He.free_ok X G (c.t.d.fact 31 (f := .free "tuple") rfl), m_zip := He.free_ok X G (c.t.d.fact 32 (f := .free "zip") rfl), k_MOST_CHANGES := He.int_ok X G (c.t.d.fact 33 (f := .int "MOST_CHANGES" 200) rfl), C_NetError := _, gC_NetError := He.glo_ok X G (c.t.d.fact 34 (f := .glo "NetError") rfl), C_NoText := _, gC_NoText := He.glo_ok X G (c.t.d.fact 35 (f := .glo "NoText") rfl), C_TooMany := _, gC_TooMany := He.glo_ok X G (c.t.d.fact 36 (f := .glo "TooMany") rfl), C_NotFormula := _, gC_NotFormula := He.glo_ok X G (c.t.d.fact 37 (f := .glo "NotFormula") rfl), C_NoTurn := _, gC_NoTurn := He.glo_ok X G (c.t.d.fact 38 (f := .glo "NoTurn") rfl), C_NoForms := _, gC_NoForms := He.glo_ok X G (c.t.d.fact 39 (f := .glo "NoForms") rfl), C_NoRow := _, gC_NoRow := He.glo_ok X G (c.t.d.fact 40 (f := .glo "NoRow") rfl), q_TooMany := q_TooMany, kC_TooMany := kC_TooMany, su_TooMany := su_TooMany, ty_TooMany := ty_TooMany, X_TooMany := GxE.excC_ok y0, v_TooMany := of_decide_eq_true y1, t_TooMany_NetError := of_decide_eq_true y2, x_TooMany_NetError := of_decide_eq_true y3, t_TooMany_NoText := of_decide_eq_true y4, x_TooMany_NoText := of_decide_eq_true y5, t_TooMany_TooMany := of_decide_eq_true y6, x_TooMany_TooMany := of_decide_eq_true y7, t_TooMany_NotFormula := of_decide_eq_true y8, x_TooMany_NotFormula := of_decide_eq_true y9, t_TooMany_NoTurn := of_decide_eq_true y10, x_TooMany_NoTurn := of_decide_eq_true y11, t_TooMany_NoForms := of_decide_eq_true y12, x_TooMany_NoForms := of_decide_eq_true y13, t_TooMany_NoRow := of_decide_eq_true y14, x_TooMany_NoRow := of_decide_eq_true y15 }
  refine ⟨fd19, tf.map (He.cT K), sp_law K T.tabs, ?_, ?_, ?_, ?_, ?_, ?_⟩
  · rintro p hp
    obtain ⟨d, hd, rfl⟩ := List.mem_map.mp hp
    exact c.empty d hd
  · rintro p hp
    obtain ⟨d, hd, rfl⟩ := List.mem_map.mp hp
    exact c.out d hd
  · rintro p hp
    obtain ⟨d, hd, rfl⟩ := List.mem_map.mp hp
    exact PySem.W.codeHd_of_K X (c.hd d hd)
  · obtain ⟨oc, od, kV, doc, pm, an, cdv, ct, osl, rfl, lk, hcd⟩ := F19.ex
    exact fun s v => .of_eq rfl
  · intro H a ns hl hbits hT hS
    refine ⟨a, ns, rfl, hS, hl, fun P hP => ?_, fun _ => rfl⟩
    have hP : P ∈ (tf.map (He.cT K)).map (·.2) := hP
    obtain ⟨p, hp, rfl⟩ := List.mem_map.mp hP
    exact ⟨#[], hT p hp, by trivial⟩
  · intro base KB GB hTB
    have B : Tb base T := ⟨tab_of (hTB (He.cT K ("later", none)) (List.mem_map.mpr ⟨_, (show (("later", none) : He.Defn) ∈ tf by decide), rfl⟩))⟩
    exact ok_law T B
end Gk
open PySem PySem.W PyProof.Rows
set_option maxRecDepth 100000 in
set_option maxHeartbeats 0 in
theorem PySem.Challenge.cw_glitchnet_k10_great_delays_and_too_many_holds : PySem.Challenge.rw_glitchnet_k10_great_delays_and_too_many.Holds := by
  w_on; o_law
  refine HandSHeadRun.head_any (r := OpenLaw.row PySem.Challenge.rw_glitchnet_k10_great_delays_and_too_many) (q := view (OpenLaw.row PySem.Challenge.rw_glitchnet_k10_great_delays_and_too_many).prog [31]) (H := Gk.hk) (ob := Gk.ob) (M := 3000) (loose := [("NetError" : PySem.Str), ("NoText" : PySem.Str), ("TooMany" : PySem.Str), ("NotFormula" : PySem.Str), ("NoTurn" : PySem.Str), ("NoForms" : PySem.Str), ("NoRow" : PySem.Str), ("table_worth" : PySem.Str), ("MOST_CHANGES" : PySem.Str), ("waves_of" : PySem.Str), ("input_wave" : PySem.Str), ("later" : PySem.Str), ("gate_wave" : PySem.Str), ("turns_of" : PySem.Str), ("_law_mixed" : PySem.Str), ("_law_deck" : PySem.Str), ("_law_draw" : PySem.Str), ("_law_table" : PySem.Str), ("_law_net" : PySem.Str), ("_law_rows" : PySem.Str), ("_law_delays" : PySem.Str), ("_law_worth" : PySem.Str), ("_law_wave" : PySem.Str), ("_law_due" : PySem.Str), ("_law_doubled" : PySem.Str), ("_law_told" : PySem.Str), ("_law_right" : PySem.Str)]) (d := HandSHeadRun.topDef (OpenLaw.row PySem.Challenge.rw_glitchnet_k10_great_delays_and_too_many).prog 31) (kwd := []) Gk.ob_eq
    (by kernel_rfl) (fun s => by kernel_rfl) Gk.run (by kernel_rfl) (by kernel_rfl) (by kernel_rfl) (by rfl) (by first | assumption | decide +kernel) (by decide +kernel) ⟨rfl, rfl, rfl, rfl, rfl, by decide +kernel⟩ ?hw ?hc
  case hw => w_witness2
  case hc =>
    refine Gk.walk_GT (l := PySem.Challenge.rw_glitchnet_k10_great_delays_and_too_many) (n := 63) (k := 10) (x := "_law_script") (CX := fun _ => L2.CX0) rfl (by decide) (by kernel_rfl) ⟨rfl, by decide, by decide⟩ ?F (fun _ _ _ _ _ z => z)
    intro w mg fa h Y G hmg0
    obtain ⟨K, KX, c⟩ := Y
    have hmg : mg ("law" : PySem.Str) = some (.ref fa) := by
      have e : (HandSHeadRun.topDef (OpenLaw.row PySem.Challenge.rw_glitchnet_k10_great_delays_and_too_many).prog 31).name = ("law" : PySem.Str) := by kernel_rfl
      rw [← e]
      exact hmg0
    exact ⟨K, KX, Gk.facts KX G hmg c⟩
