import PyProof.Rows.All
import Wide.All
import OpenK.AllK
import Wide.FinOn
import HandS.ForMost
import HandS.ForExc
import HandS.IsInst
import HandS.ExcIs
import HandS.ExcValue
import HandS.ExcCtx
import HandS.HotCalls
import HandS.ExcInitHot
import HandS.Head0
import HandS.Head1
import HandS.Head2
import HandS.HeadEnd
import HandS.HeadHook1
import HandS.HeadHook2
import HandS.HeadHook3
import HandS.HeadHook4
import HandS.HeadWalk
import HandS.Defaults
import HandS.ReplaceLit
import HandS.TupLe
import HandS.TupAny
import HandS.TupMul
import HandS.More
import HandS.Codes
import HandS.Conv
import HandS.Deep
import HandS.TupSets
import HandS.Style
import HandS.Strs
import HandS.AnyAll
import HandS.GenList
import HandS.JoinGen
import HandS.Zip
import HandS.Rev
import HandS.SetFor
import HandS.FStr
import HandS.RevTup
import KE.KUnpackStar
import PyProof.ReprLen
import PyProof.ReprRoads
import HandS.Text
import HandS.TryOnly
import HandS.StrMore
import PySem.Challenge.RW_glitchnet_k05_texts_that_write_no_net
import KE.KRevSl
set_option Elab.async false
set_option linter.all false
set_option maxRecDepth 100000
set_option maxHeartbeats 1000000
namespace Gk
open PySem PySem.Spec PyProof.Rows L2
/-! ### an exception handed on to a def -/
namespace GxE
open PySem PySem.Spec PyProof.Rows L2
/-- a caught exception, as it stands -/
def ExP (a : Addr) (oe : Obj) : HO := .ext fun h => h.get? a = some oe
theorem exP_ok {P : Program} {w : World} {H : Hp} {h : Heap} {a : Addr} {oe : Obj} (e : h.get? a = some oe) : ObjOk P w H h a (ExP a oe) := ⟨e, ⟨oe, e⟩, fun _ _ q k => k _ q⟩
/-- it is seen: told of, or there since the law began -/
def Seen (base : Heap) (H : Hp) (a : Addr) (oe : Obj) : Prop := H a = some (ExP a oe) ∨ base.get? a = some oe
theorem Seen.same {base : Heap} {H H' : Hp} {a : Addr} {oe : Obj} (h : Seen base H a oe) (s : Same H H') : Seen base H' a oe := h.imp (fun e => s _ _ e) id
section
variable {X : Cx} {pins : List (Addr × Obj)} {σ : L2.St} {H : Hp} {s : Shared}
theorem seen_at {a : Addr} {oe : Obj} (I : Inv X pins σ H s) (h : Seen X.base H a oe) : s.heap.get? a = some oe := by
  rcases h with h | h
  · exact (I.hok a _ h).1
  · exact (I.bs a oe h).1
theorem inst_of {h : Heap} {a D : Addr} {oe : Obj} (e : h.get? a = some oe) (hz : Zc (.ref D) none oe) (hf : ∃ vs, oe.data = .fields vs) : PySem.W.InstAt h a oe D none := by
  obtain ⟨vs, hv⟩ := hf
  obtain ⟨oc, od, oda, osl⟩ := oe
  obtain ⟨h1, h2⟩ := hz
  dsimp only at h1 h2 hv
  subst h1 h2 hv
  exact ⟨e, rfl, rfl, trivial⟩
/-- isinstance(e, c) -/
def rIsX (K : PySem.W.Frag) (base : Heap) : List V → Hp → VK → Prop := fun xs H Q => ∃ (a D : Addr) (oe : Obj) (c : V) (cv : Value) (b : Bool), xs = [.ref a, c] ∧ Seen base H a oe ∧ Zc (.ref D) none oe ∧ (∃ vs, oe.data = .fields vs) ∧ ExcC K D ∧ ClsV c cv ∧ PySem.W.kitOne K (.ref D) cv = some b ∧ Q (.bl b) H
theorem call_isX : CallR X (.builtin "isinstance") (rIsX X.K X.base) := by
  intro pins s σ H xs us Q I r h
  obtain ⟨a, D, oe, c, cv, b, rfl, seen, hz, hf, C, k, e, q⟩ := h
  obtain ⟨u1, u2, rfl, r1, r2⟩ := vals2 r
  have e2 := k.eq r2
  subst e2
  cases (show u1 = Value.ref a from r1)
  exact PySem.W.kia_one (PySem.W.handS_kitx_exc C.hg C.hk C.hs C.hd C.ha C.hn C.ht C.hm) I.kIn (inst_of (seen_at I seen) hz hf) e (fun z => nomatch z) fun tk => ⟨.bl b, H, I.tok tk, rfl, q⟩
/-- isinstance(e, (c1, c2, ..)) -/
def rIsXT (K : PySem.W.Frag) (base : Heap) : List V → Hp → VK → Prop := fun xs H Q => ∃ (a D : Addr) (oe : Obj) (tp : Addr) (cs : List V) (us : List Value) (b : Bool), xs = [.ref a, .ref tp] ∧ Seen base H a oe ∧ Zc (.ref D) none oe ∧ (∃ vs, oe.data = .fields vs) ∧ ExcC K D ∧ H tp = some (.tup cs) ∧ Paired ClsV cs us ∧ PySem.W.kitAny K (.ref D) us = some b ∧ Q (.bl b) H
theorem call_isXT : CallR X (.builtin "isinstance") (rIsXT X.K X.base) := by
  intro pins s σ H xs us Q I r h
  obtain ⟨a, D, oe, tp, cs, ws, b, rfl, seen, hz, hf, C, hT, k, e, q⟩ := h
  obtain ⟨u1, u2, rfl, r1, r2⟩ := vals2 r
  cases (show u1 = Value.ref a from r1)
  cases (show u2 = Value.ref tp from r2)
  obtain ⟨_, its, rv, o, h1, h2, n, h3⟩ := (show ObjOk X.prog X.w H s.heap tp (.tup cs) from I.hok tp _ hT)
  have e3 := ClsV.all k rv
  subst e3
  obtain ⟨oc, od, dt, sl⟩ := o
  simp only at h2 h3
  subst h2 h3
  exact PySem.W.kia_tup (PySem.W.handS_kitx_exc C.hg C.hk C.hs C.hd C.ha C.hn C.ht C.hm) I.kIn (inst_of (seen_at I seen) hz hf) h1 e (fun z => nomatch z) fun tk => ⟨.bl b, H, I.tok tk, rfl, q⟩
end
section
variable {P : Program} {w : World} {H H' : Hp} {h h' : Heap} {a : Addr} {oe : Obj}
theorem hok_add (x : HOk P w H h) (n : H a = none) (e : h.get? a = some oe) : HOk P w (upd H a (ExP a oe)) h := HOk.laidN x (fun _ _ z => z) n (exP_ok e)
theorem paired_imp {α β : Type} {R S : α → β → Prop} (f : ∀ a b, R a b → S a b) : ∀ {xs : List α} {ys : List β}, Paired R xs ys → Paired S xs ys
  | _, _, .nil => .nil
  | _, _, .cons r t => .cons (f _ _ r) (paired_imp f t)
/-- without what is only told of -/
theorem objOk_del {φ : Heap → Prop} (ha : H a = some (.ext φ)) : ∀ (u : HO) (b : Addr), ObjOk P w H h b u → ObjOk P w (delH H a) h b u := by
  have tup : ∀ {b xs}, H b = some (.tup xs) → delH H a b = some (.tup xs) := fun {b xs} e => by
    rw [delH_ne (fun z => by rw [z, ha] at e; cases e)]
    exact e
  have own : ∀ {b c}, H b = some (.own c) → delH H a b = some (.own c) := fun {b c} e => by
    rw [delH_ne (fun z => by rw [z, ha] at e; cases e)]
    exact e
  intro u
  induction u with
  | dT kvs =>
    rintro b ⟨h1, h2, xs, p, r⟩
    refine ⟨h1, h2, xs, ?_, r⟩
    exact paired_imp (fun _ _ ⟨q1, q2, q3⟩ => ⟨q1, tup q2, q3⟩) p
  | ins C dx fs =>
    rintro b ⟨h1, r⟩
    exact ⟨own h1, r⟩
  | frz o u ih =>
    rintro b ⟨h1, h2⟩
    exact ⟨h1, ih b h2⟩
  | _ => exact fun b x => x
theorem hok_del {φ : Heap → Prop} (x : HOk P w H h) (ha : H a = some (.ext φ)) : HOk P w (delH H a) h := fun b u e => by
  by_cases hb : b = a
  · rw [hb, delH_same] at e
    cases e
  · rw [delH_ne hb] at e
    exact objOk_del ha u b (x b u e)
end
section
variable {fs : List Addr} {H H2 : Hp} {h h' : Heap} {a : Addr} {oe : Obj}
theorem un_del (u : Un fs [] (upd H a (ExP a oe)) H2 h h') (n : H a = none) (e : h.get? a = some oe) (e' : h'.get? a = some oe) : Un fs [] H (delH H2 a) h h' := by
  have ne : ∀ {b : Addr} {o : HO}, H b = some o → b ≠ a := fun {b o} q z => by rw [z, n] at q; cases q
  refine ⟨fun b o q nb hb hx => ?_, fun b o q nb hb hx => ?_, fun b o q nb hx => ?_, fun b o q hx => u.there b o q hx, fun b xs q => ?_, fun b o v q => ?_, fun b ps q => ?_⟩
  · by_cases hz : b = a
    · rw [hz] at q ⊢
      rw [e] at q
      rw [e', ← q]
    · exact u.keep b o q (by rw [upd_ne hz]; exact nb) hb hx
  · by_cases hz : b = a
    · rw [hz] at q ⊢
      rw [e] at q
      cases q
      exact ⟨oe.slots, e'⟩
    · exact u.slot b o q (by rw [upd_ne hz]; exact nb) hb hx
  · by_cases hz : b = a
    · rw [hz]; exact delH_same
    · rw [delH_ne hz]
      exact u.free b o q (by rw [upd_ne hz]; exact nb) hx
  · rw [delH_ne (ne q)]
    exact u.tups b xs (by rw [upd_ne (ne q)]; exact q)
  · rw [delH_ne (ne q)]
    exact u.frzs b o v (by rw [upd_ne (ne q)]; exact q)
  · rw [delH_ne (ne q)]
    exact u.tbls b ps (by rw [upd_ne (ne q)]; exact q)
end
/-! ### a def that runs also where an exception is handled -/
structure FnR (P : Program) (w : World) (K : PySem.W.Frag) (mg : PySem.Str → Option Value) (base : Heap) (k : Nat) (f : Addr) (fd : FuncData) (ps : List PySem.Str) (sp : Sp) : Prop where
  len : ∀ vs H Q E, sp vs H Q E → vs.length = ps.length
  run : ∀ (A : Around) (outer : List Env) (s : Shared) (H : Hp) (args : Args) (us : List Value) (vs : List V) (Q : VK), L2H.RoomH k A → Env0 P w K mg base A outer s H → BindsTo s fd args (ps.zip us) → Vals vs us → sp vs H Q E0 →
    codeAny (model P w) A (.call (.ref f) args) (CR CX0 outer P w H s Q E0) s
theorem okR {P : Program} {w : World} {K : PySem.W.Frag} {mg : PySem.Str → Option Value} {base : Heap} {x qual : PySem.Str} {st : Stmt} {f : Addr} {fd : FuncData} {N ps : List PySem.Str} {k : Nat} {sp : Sp} (F : Fun K x qual st f fd) (S : FnScope N ps (defScope st)) (len : ∀ vs H Q E, sp vs H Q E → vs.length = ps.length)
    (body : ∀ (cdv : Value) (A : Around) (outer : List Env) (s : Shared) (H : Hp) (vs : List V) (Q : VK) (p : Addr × Obj), L2H.RoomH k (A.deeper (envOfC qual (defScope st) s.heap.objs.size f cdv)) → sp vs H Q E0 →
      ∃ t, PSs (L2H.cxH CX0 P w K mg base N qual (defScope st) f cdv A outer s H E0 p) (defBody st) t ∧ t { nx := fun _ H' => Q .non H', rt := Q } (L2.start N vs) H) : FnR P w K mg base (k + 1) f fd ps sp := by
  obtain ⟨oc, od, kV, doc, pm, an, cdv, ct, osl, rfl, lk, hcd⟩ := F.ex
  refine ⟨len, fun A outer s H args us vs Q hr e0 hb r hsp => ?_⟩
  have kin : K.In s.heap := e0.mod.kin.keeps fun b o e => (e0.bs b o e).1
  have nol : s.heap.NoLimit := e0.mod.nolimit.keeps fun b o e => (e0.bs b o e).1
  obtain ⟨go, ges, gep, hgo, hgx⟩ := id e0.mod.glob
  have pin : L2H.PinOk outer H s (mainGlobals, go) := by
    refine ⟨(e0.bs _ _ hgo).1, (e0.bs _ _ hgo).2, fun hm => ?_, fun v z => ?_⟩
    · have z := (e0.funs.mem hm).1
      rw [hgo] at z
      cases z
    · have z : go.data = .cell v := z
      rw [hgx.1] at z
      cases z
  have places : ∀ y ∈ ps.zip us, (defScope st).names.lookup y.1 = some .local ∨ ((defScope st).names.lookup y.1 = some .cell ∧ ((cellsFrom (s.heap.objs.size + 1) (defScope st).names []).lookup y.1).isSome = true) := fun ⟨n, v⟩ hy => by
    rcases S.par n (List.of_mem_zip hy).1 with q | q
    · exact .inl q
    · exact .inr ⟨q, PySem.W.cellsFrom_some _ _ _ (.inl q)⟩
  refine codeAny_call_function hr.depth (kin _ _ lk) rfl S.co S.gen rfl (PySem.W.codeRec_of kin hcd) (hb _ _ _ _ ?_)
  refine wpAny_newFunctionEnv_cells S.kind places fun env he s1 x => ?_
  subst he
  refine ⟨nol.keeps x.toInCall.keep, codeAny_func ?_⟩
  obtain ⟨t, ht, hq⟩ := body cdv A outer s H vs Q (mainGlobals, go) (hr.deeper _) hsp
  have I := L2H.inv_startH (CX := CX0) (E := E0) (f := f) (cd := cdv) (qual := qual) S pin e0 (len _ _ _ _ hsp) r x
  refine wpAny_mono (ht.run [] s1 (L2.start N vs) H _ I hq) (fun fl s' hs => ?_) fun e s' hs => hs
  cases fl with
  | ret u =>
    obtain ⟨v, σ', H', J, rv, q⟩ := hs
    exact ⟨v, H', J.os, J.bare, J.base, J.hok, rv, q⟩
  | next =>
    obtain ⟨σ', H', J, q⟩ := hs
    exact ⟨.non, H', J.os, J.bare, J.base, J.hok, rfl, q⟩
  | brk =>
    obtain ⟨_, _, _, q⟩ := hs
    exact False.elim q
  | cont =>
    obtain ⟨_, _, _, q⟩ := hs
    exact False.elim q
section
variable {X : Cx} {k : Nat} {f : Addr} {fd : FuncData} {ps : List PySem.Str} {sp : Sp} {x : PySem.Str} {p pos : Pos} {e : Expr} {es : List Expr} {t : TA} {a : Addr} {oe : Obj} {pn : List (Addr × Obj)} {cls : Value} {d : Option Addr}
/-- f(.., e, ..) in an except suite, e the exception -/
def tCallX (base : Heap) (a : Addr) (cls : Value) (d : Option Addr) (sp : Sp) (t : TA) : TE := fun σ H Q => t σ H fun vs H1 => ∀ oe : Obj, Zc cls d oe → (∃ vs, oe.data = .fields vs) →
  (H1 a = none → sp vs (upd H1 a (ExP a oe)) (fun v H2 => H2 a = some (ExP a oe) ∧ Q v (delH H2 a)) E0) ∧ (base.get? a = some oe → sp vs H1 Q E0)
theorem pe_callX (hz : Zc cls d oe) (hf : ∃ vs, oe.data = .fields vs) (F : FnR X.prog X.w X.K X.mg X.base k f fd ps sp) (hr : L2H.RoomH k (X.suite a ((a, oe) :: pn)).A) (hg : Gl X x) (hm : X.mg x = some (.ref f)) (hk : PySem.W.keepIn X.K (.ref f) = true) (hb : Binds X.K fd ps [])
    (ha : PA (X.suite a ((a, oe) :: pn)) (e :: es) t) (hdb : (x == ("__debug__" : PySem.Str)) = false := by decide) (he : starEach (e :: es) X.env = (false, eval e X.env) :: starEach es X.env := by rfl) (hpl : (backTo pos (starEach es X.env)).any (·.1) = false := by rfl) :
    PE (X.suite a ((a, oe) :: pn)) (.Call (.Name x p) (e :: es) [] pos) (tCallX X.base a cls d sp t) := by
  refine ⟨fun pins s σ H Q I h => ?_⟩
  refine wpAny_Call_Name_kw (ld_glob (X := X.suite a ((a, oe) :: pn)) I hg hm ?_ hdb)
  refine PySem.W.callWith_K (h₀ := X.base) I.ok.mod.kin hk (thn (ha.run pos pins s σ H _ I h) fun us s1 ⟨vs, H1, I1, r, q0⟩ => ⟨I1.kIn, ?_⟩) he hpl
  have q := q0 oe hz hf
  have pin := I1.pin (a, oe) (List.mem_append.mpr (.inl List.mem_cons_self))
  have e0 := I1.env0
  have na : H1 a = none := pin.2.1
  have bind : ∀ {H2 : Hp} {Q2 : VK}, sp vs H2 Q2 E0 → BindsTo s1 fd ⟨us, []⟩ (ps.zip us) := fun {H2 Q2} z => by
    have hl : (us ++ ([] : List Value)).length = ps.length := by rw [List.append_nil, ← r.length]; exact F.len _ _ _ _ z
    have y := hb s1 us I1.kIn hl
    rw [List.append_nil] at y
    exact y
  cases hbase : X.base.get? a with
  | some o =>
    have := (e0.bs a o hbase).1
    rw [pin.1] at this
    cases Option.some.inj this
    have h2 := q.2 hbase
    refine wpAny_call (codeAny_mono (F.run _ _ s1 _ ⟨us, []⟩ us vs _ hr e0 (bind h2) r h2) fun r' s' hq => ?_)
    cases r' with
    | error e' => exact False.elim hq
    | ok fl =>
      cases fl with
      | ret u => exact I1.after hq
      | next => exact False.elim hq
      | brk => exact False.elim hq
      | cont => exact False.elim hq
  | none =>
    have h2 := q.1 na
    have E1 : Env0 X.prog X.w X.K X.mg X.base (X.suite a ((a, oe) :: pn)).A (X.suite a ((a, oe) :: pn)).stack s1 (upd H1 a (ExP a oe)) :=
      ⟨e0.frames, e0.mod, fun b o z => ⟨(e0.bs b o z).1, by rw [upd_ne (fun y => by rw [y, hbase] at z; cases z)]; exact (e0.bs b o z).2⟩, e0.bsz, e0.funs, fun b hb' => by
        by_cases y : b = a
        · exfalso
          obtain ⟨_, o, ho, hnf⟩ := e0.funs.mem (show b ∈ frs _ from hb')
          rw [y, pin.1] at ho
          cases ho
          obtain ⟨vs', hv⟩ := hf
          exact hnf vs' hv
        · rw [upd_ne y]; exact e0.frf b hb', hok_add e0.hok na pin.1, e0.bare⟩
    refine wpAny_call (codeAny_mono (F.run _ _ s1 _ ⟨us, []⟩ us vs _ hr E1 (bind h2) r h2) fun r' s' hq => ?_)
    cases r' with
    | error e' => exact False.elim hq
    | ok fl =>
      cases fl with
      | ret u =>
        obtain ⟨v, H', os, bare, un, hok, rv, q1, q2⟩ := hq
        have e' : s'.heap.get? a = some oe := (hok a _ q1).1
        exact I1.after ⟨v, delH H' a, os, bare, un_del un na pin.1 e', hok_del hok q1, rv, q2⟩
      | next => exact False.elim hq
      | brk => exact False.elim hq
      | cont => exact False.elim hq
end
/-! ### defs that raise -/
theorem okN {P : Program} {w : World} {K : PySem.W.Frag} {mg : PySem.Str → Option Value} {base : Heap} {x qual : PySem.Str} {st : Stmt} {f : Addr} {fd : FuncData} {N ps : List PySem.Str} {k : Nat} {sp : Sp} (F : Fun K x qual st f fd) (S : FnScope N ps (defScope st)) (len : ∀ vs H Q E, sp vs H Q E → vs.length = ps.length)
    (body : ∀ (cdv : Value) (A : Around) (outer : List Env) (s : Shared) (H : Hp) (vs : List V) (Q : VK) (E : XK), Room k (A.deeper (envOfC qual (defScope st) s.heap.objs.size f cdv)) → sp vs H Q E →
      ∃ t, PSs (cxOf (L2N.CX P w) P w K mg base N qual (defScope st) f cdv A outer s H E) (defBody st) t ∧ t { nx := fun _ H' => Q .non H', rt := Q } (L2.start N vs) H) : FnOk P w K mg base (L2N.CX P w) (k + 1) f fd ps sp := by
  obtain ⟨oc, od, kV, doc, pm, an, cdv, ct, osl, rfl, lk, hcd⟩ := F.ex
  exact fn_of lk hcd S len fun A outer s H vs Q E hr hsp => body cdv A outer s H vs Q E hr hsp
theorem takesE {P : Program} {w : World} {K : PySem.W.Frag} {mg : PySem.Str → Option Value} {base : Heap} {N : List PySem.Str} {qual : PySem.Str} {sc : Scope} {f : Addr} {cd : Value} {A : Around} {outer : List Env} {s : Shared} {H : Hp} {E : XK} :
    L2N.Takes (cxOf (L2N.CX P w) P w K mg base N qual sc f cd A outer s H E) (fun cls d _ H => E cls d H) := L2N.takes_of rfl rfl rfl rfl
theorem takesN {X : Cx} : L2N.Takes X (fun _ _ _ _ => False) := fun _ _ x => by
  obtain ⟨_, _, _, _, _, _, _, _, _, _, _, _, _, _, _, _, z⟩ := x
  exact z.elim
end GxE
/-! ### what the top says of classes and of tuples of texts -/
namespace GxE
open PySem PySem.Spec PyProof.Rows L2
def excCB (K : PySem.W.Frag) (D : Addr) : Bool :=
  decide (PySem.W.findIn K (.ref D) "__getattribute__" = some (some (.builtin "BaseException.__getattribute__"))) && (decide (PySem.W.findIn K (.ref D) "__getattr__" = some none) &&
  (decide (PySem.W.subIn K (.ref D) (.type "BaseException") = some true) && (PySem.W.hasDictIn K D && (decide (PySem.W.findIn K (.ref D) "__class__" = some (some (.builtin "object.__class__"))) &&
  (decide (PySem.W.specialIn K (.builtin "object.__class__") "__get__" = some (some (.builtin "getset_descriptor.__get__"))) && (decide (PySem.W.takesIn K (.builtin "object.__class__") = some true) && decide (PySem.W.mroIn K D (.type "object") = some true)))))))
theorem excC_ok {K : PySem.W.Frag} {D : Addr} (h : excCB K D = true) : ExcC K D := by
  obtain ⟨h1, h⟩ := He.ba h
  obtain ⟨h2, h⟩ := He.ba h
  obtain ⟨h3, h⟩ := He.ba h
  obtain ⟨h4, h⟩ := He.ba h
  obtain ⟨h5, h⟩ := He.ba h
  obtain ⟨h6, h⟩ := He.ba h
  obtain ⟨h7, h8⟩ := He.ba h
  exact ⟨of_decide_eq_true h1, of_decide_eq_true h2, of_decide_eq_true h3, h4, of_decide_eq_true h5, of_decide_eq_true h6, of_decide_eq_true h7, of_decide_eq_true h8⟩
def strsB : List PySem.Str → List Value → Bool
  | [], [] => true
  | x :: r, .str y _ :: t => decide (y = x) && strsB r t
  | _, _ => false
theorem strsB_ok : ∀ {xs : List PySem.Str} {us : List Value}, strsB xs us = true → Vals (xs.map V.str) us
  | [], [], _ => .nil
  | x :: r, u :: t, h => by
    cases u with
    | str y k =>
      obtain ⟨h1, h2⟩ := He.ba h
      cases of_decide_eq_true h1
      exact .cons ⟨k, rfl⟩ (strsB_ok h2)
    | _ => cases h
  | [], _ :: _, h => by cases h
  | _ :: _, [], h => by cases h
def tupB (K : PySem.W.Frag) (x : PySem.Str) (xs : List PySem.Str) : Bool := match K.lookup (He.ga K x) with
  | some ⟨.type "tuple", none, .seq its _, _⟩ => strsB xs its.toList && decide (its.size ≤ 1000)
  | _ => false
theorem tupB_ok {K : PySem.W.Frag} {x : PySem.Str} {xs : List PySem.Str} (h : tupB K x xs = true) (H : Hp) : SqT K H (He.ga K x) (xs.map V.str) := by
  unfold tupB at h
  split at h
  · rename_i its n sl e
    obtain ⟨h1, h2⟩ := He.ba h
    exact .inr ⟨_, its, n, e, rfl, rfl, Nat.le_trans (of_decide_eq_true h2) (by decide), strsB_ok h1⟩
  · cases h
theorem tupB_ty {K : PySem.W.Frag} {x : PySem.Str} {xs : List PySem.Str} (h : tupB K x xs = true) : ∃ o, K.lookup (He.ga K x) = some o ∧ o.cls = .type "tuple" ∧ o.dict = none := by
  unfold tupB at h
  split at h
  · rename_i its n sl e
    exact ⟨_, e, rfl, rfl⟩
  · cases h
end GxE

/-! ### calls within a def that runs in an except suite; isinstance in the suite itself; X(e) -/
namespace GxE
open PySem PySem.Spec PyProof.Rows L2
section
variable {X : Cx} {k : Nat} {f : Addr} {fd : FuncData} {ps : List PySem.Str} {sp : Sp} {x : PySem.Str} {p pos : Pos} {e : Expr} {es : List Expr} {t : TA} {a : Addr} {oe : Obj} {pn : List (Addr × Obj)} {cls : Value} {d : Option Addr}
def tCallR (sp : Sp) (t : TA) : TE := fun σ H Q => t σ H fun vs H1 => sp vs H1 Q E0
theorem pe_callR (F : FnR X.prog X.w X.K X.mg X.base k f fd ps sp) (hr : L2H.RoomH k X.A) (hg : Gl X x) (hm : X.mg x = some (.ref f)) (hk : PySem.W.keepIn X.K (.ref f) = true) (hb : Binds X.K fd ps [])
    (ha : PA X (e :: es) t) (hdb : (x == ("__debug__" : PySem.Str)) = false := by decide) (he : starEach (e :: es) X.env = (false, eval e X.env) :: starEach es X.env := by rfl) (hpl : (backTo pos (starEach es X.env)).any (·.1) = false := by rfl) :
    PE X (.Call (.Name x p) (e :: es) [] pos) (tCallR sp t) := by
  refine ⟨fun pins s σ H Q I h => ?_⟩
  refine wpAny_Call_Name_kw (ld_glob I hg hm ?_ hdb)
  refine PySem.W.callWith_K (h₀ := X.base) I.ok.mod.kin hk (thn (ha.run pos pins s σ H _ I h) fun us s1 ⟨vs, H1, I1, r, q⟩ => ⟨I1.kIn, ?_⟩) he hpl
  have hl : (us ++ ([] : List Value)).length = ps.length := by rw [List.append_nil, ← r.length]; exact F.len _ _ _ _ q
  have y := hb s1 us I1.kIn hl
  rw [List.append_nil] at y
  refine wpAny_call (codeAny_mono (F.run _ _ s1 _ ⟨us, []⟩ us vs _ hr I1.env0 y r q) fun r' s' hq => ?_)
  cases r' with
  | error e' => exact False.elim hq
  | ok fl =>
    cases fl with
    | ret u => exact I1.after hq
    | next => exact False.elim hq
    | brk => exact False.elim hq
    | cont => exact False.elim hq
/-- isinstance(e, c) in the suite -/
def rIsP (K : PySem.W.Frag) (a : Addr) (cls : Value) (d : Option Addr) : List V → Hp → VK → Prop := fun xs H Q => ∃ (D : Addr) (c : V) (cv : Value) (b : Bool), xs = [.ref a, c] ∧ cls = .ref D ∧ d = none ∧ ExcC K D ∧ ClsV c cv ∧ PySem.W.kitOne K (.ref D) cv = some b ∧ Q (.bl b) H
theorem call_isP (hz : Zc cls d oe) (hf : ∃ vs, oe.data = .fields vs) : CallR (X.suite a ((a, oe) :: pn)) (.builtin "isinstance") (rIsP X.K a cls d) := by
  intro pins s σ H xs us Q I r h
  obtain ⟨D, c, cv, b, rfl, rfl, rfl, C, k, e, q⟩ := h
  obtain ⟨u1, u2, rfl, r1, r2⟩ := vals2 r
  have e2 := k.eq r2
  subst e2
  cases (show u1 = Value.ref a from r1)
  have pin := I.pin (a, oe) (List.mem_append.mpr (.inl List.mem_cons_self))
  exact PySem.W.kia_one (PySem.W.handS_kitx_exc C.hg C.hk C.hs C.hd C.ha C.hn C.ht C.hm) I.kIn (inst_of pin.1 hz hf) e (fun z => nomatch z) fun tk => ⟨.bl b, H, I.tok tk, rfl, q⟩
def rIsPT (K : PySem.W.Frag) (a : Addr) (cls : Value) (d : Option Addr) : List V → Hp → VK → Prop := fun xs H Q => ∃ (D tp : Addr) (cs : List V) (us : List Value) (b : Bool), xs = [.ref a, .ref tp] ∧ cls = .ref D ∧ d = none ∧ ExcC K D ∧ H tp = some (.tup cs) ∧ Paired ClsV cs us ∧ PySem.W.kitAny K (.ref D) us = some b ∧ Q (.bl b) H
theorem call_isPT (hz : Zc cls d oe) (hf : ∃ vs, oe.data = .fields vs) : CallR (X.suite a ((a, oe) :: pn)) (.builtin "isinstance") (rIsPT X.K a cls d) := by
  intro pins s σ H xs us Q I r h
  obtain ⟨D, tp, cs, ws, b, rfl, rfl, rfl, C, hT, k, e, q⟩ := h
  obtain ⟨u1, u2, rfl, r1, r2⟩ := vals2 r
  cases (show u1 = Value.ref a from r1)
  cases (show u2 = Value.ref tp from r2)
  obtain ⟨_, its, rv, o, h1, h2, n, h3⟩ := (show ObjOk X.prog X.w H s.heap tp (.tup cs) from I.hok tp _ hT)
  have e3 := ClsV.all k rv
  subst e3
  obtain ⟨oc, od, dt, sl⟩ := o
  simp only at h2 h3
  subst h2 h3
  have pin := I.pin (a, oe) (List.mem_append.mpr (.inl List.mem_cons_self))
  exact PySem.W.kia_tup (PySem.W.handS_kitx_exc C.hg C.hk C.hs C.hd C.ha C.hn C.ht C.hm) I.kIn (inst_of pin.1 hz hf) h1 e (fun z => nomatch z) fun tk => ⟨.bl b, H, I.tok tk, rfl, q⟩
end
section
variable {X : Cx}
/-- X(e), e a value -/
theorem pmk_one {C : Addr} {bmB : List Value} {B newId initId : String} {x : PySem.Str} {e : Expr} {ta : TE} {p pos : Pos} (F : ExcBaseFacts B newId initId bmB) (q : PySem.W.excIn X.K C bmB newId = true) (gC : X.mg x = some (.ref C)) (kC : PySem.W.keepIn X.K (.ref C) = true) (r : Raises X (.ref C)) (hg : Gl X x)
    (he : PE X e ta) (hs : starEach [e] X.env = (false, eval e X.env) :: starEach [] X.env := by rfl) (hdb : (x == ("__debug__" : PySem.Str)) = false := by decide) :
    L2N.PMk X (.Call (.Name x p) [e] [] pos) (fun σ H Q => ta σ H fun _ H1 => Q (.ref C) none H1) := by
  intro pins s σ H Q I h
  refine wpAny_Call_Name_kw (ld_glob I hg gC ?_ hdb)
  refine PySem.W.callWith_K (h₀ := X.base) I.ok.mod.kin kC ?_ hs (by rfl)
  rw [hs]
  show wpAny _ _ (spliced ((false, eval e X.env) :: backTo pos (starEach [] X.env))) _ _ s
  refine Calls.spliced_cons (thn (he.run pins s σ H _ I h) fun u s1 ⟨v, H1, I1, r1, q1⟩ => ?_)
  refine Calls.spliced_nil ⟨I1.kIn, ?_⟩
  show wpAny _ _ (call (.ref C) [u]) _ _ _
  obtain ⟨bm, N, nm, qn, bs, hdct, sn, sub, ab, col, dd, k0, k1, k2, k3, k5, mN, hC, hN, hni, T⟩ := exc_obj I1.kIn q
  refine wpAny_call_exc_subT F T hC hN hni (fun h' e hm => ?_) (by show 1 ≤ sizeLine; rw [sizeLine_eq]; omega)
  exact L2N.mk_of I1 hm r q1 (I1.hok.gone hm.new)
end
end GxE
theorem GxE.unH {k : Nat} {A : Around} (h : L2H.RoomH k A) : A.units + 64 < cLine := by
  have := h.un
  omega

end Gk

set_option Elab.async false
set_option linter.all false
set_option maxRecDepth 100000
set_option maxHeartbeats 1000000
namespace Gk
open PySem PySem.Spec PyProof.Rows L2
/-! ### the text -/
def topS (i : Nat) : Stmt := PySem.Challenge.pw_glitchnet_k05_texts_that_write_no_net.main.body.getD i (.Pass ⟨0, 0, 0, 0⟩)
abbrev s_is_whole : Stmt := topS 9
abbrev s_is_signs : Stmt := topS 10
abbrev s_is_net : Stmt := topS 14
abbrev s_is_gate : Stmt := topS 15
abbrev s_read_net : Stmt := topS 18
abbrev s_read_head : Stmt := topS 19
abbrev s_read_gate : Stmt := topS 20
abbrev s_read_number : Stmt := topS 21
abbrev s_deck : Stmt := topS 23
abbrev s_mixed : Stmt := topS 24
abbrev s_take : Stmt := topS 25
abbrev s_gate : Stmt := topS 26
abbrev s_net : Stmt := topS 27
abbrev s_shown : Stmt := topS 28
abbrev s_number : Stmt := topS 29
abbrev s_read : Stmt := topS 30
abbrev s_kinds : Stmt := topS 31
abbrev s_refused : Stmt := topS 32
abbrev s_bent : Stmt := topS 33
abbrev s_told : Stmt := topS 34
abbrev s_right : Stmt := topS 35
abbrev s_law : Stmt := topS 36
theorem sc_is_whole : FnScope ["thing"] ["thing"] (defScope s_is_whole) := ⟨rfl, rfl, rfl, by decide +kernel, rfl, by decide +kernel, by decide +kernel⟩
theorem sc_is_signs : FnScope ["many", "thing", "sign"] ["many", "thing"] (defScope s_is_signs) := ⟨rfl, rfl, rfl, by decide +kernel, rfl, by decide +kernel, by decide +kernel⟩
theorem sc_is_net : FnScope ["thing", "many", "gates", "number", "gate"] ["thing"] (defScope s_is_net) := ⟨rfl, rfl, rfl, by decide +kernel, rfl, by decide +kernel, by decide +kernel⟩
theorem sc_is_gate : FnScope ["wires", "thing", "table", "ins", "wire"] ["wires", "thing"] (defScope s_is_gate) := ⟨rfl, rfl, rfl, by decide +kernel, rfl, by decide +kernel, by decide +kernel⟩
theorem sc_read_net : FnScope ["text", "head", "lines", "net", "line"] ["text"] (defScope s_read_net) := ⟨rfl, rfl, rfl, by decide +kernel, rfl, by decide +kernel, by decide +kernel⟩
theorem sc_read_head : FnScope ["line", "words"] ["line"] (defScope s_read_head) := ⟨rfl, rfl, rfl, by decide +kernel, rfl, by decide +kernel, by decide +kernel⟩
theorem sc_read_gate : FnScope ["line", "table", "wires", "wire"] ["line"] (defScope s_read_gate) := ⟨rfl, rfl, rfl, by decide +kernel, rfl, by decide +kernel, by decide +kernel⟩
theorem sc_read_number : FnScope ["word", "sign"] ["word"] (defScope s_read_number) := ⟨rfl, rfl, rfl, by decide +kernel, rfl, by decide +kernel, by decide +kernel⟩
theorem sc_deck : FnScope ["_law_script"] ["_law_script"] (defScope s_deck) := ⟨rfl, rfl, rfl, by decide +kernel, rfl, by decide +kernel, by decide +kernel⟩
theorem sc_mixed : FnScope ["_law_cell", "_law_k", "_law_number_here"] ["_law_cell", "_law_k"] (defScope s_mixed) := ⟨rfl, rfl, rfl, by decide +kernel, rfl, by decide +kernel, by decide +kernel⟩
theorem sc_take : FnScope ["_law_deck_here", "_law_most", "_law_cells", "_law_cell"] ["_law_deck_here", "_law_most"] (defScope s_take) := ⟨rfl, rfl, rfl, by decide +kernel, rfl, by decide +kernel, by decide +kernel⟩
theorem sc_gate : FnScope ["_law_deck_here", "_law_wires", "_law_near", "_law_size", "_law_ins", "_law_k"] ["_law_deck_here", "_law_wires", "_law_near"] (defScope s_gate) := ⟨rfl, rfl, rfl, by decide +kernel, rfl, by decide +kernel, by decide +kernel⟩
theorem sc_net : FnScope ["_law_deck_here", "_law_great", "_law_near", "_law_many", "_law_count", "_law_gates", "_law_k"] ["_law_deck_here"] (defScope s_net) := ⟨rfl, rfl, rfl, by decide +kernel, rfl, by decide +kernel, by decide +kernel⟩
theorem sc_shown : FnScope ["_law_net_here", "_law_lines", "_law_table", "_law_ins", "_law_line", "_law_wire"] ["_law_net_here"] (defScope s_shown) := ⟨rfl, rfl, rfl, by decide +kernel, rfl, by decide +kernel, by decide +kernel⟩
theorem sc_number : FnScope ["_law_word", "_law_figures", "_law_sign"] ["_law_word"] (defScope s_number) := ⟨rfl, rfl, rfl, by decide +kernel, rfl, by decide +kernel, by decide +kernel⟩
theorem sc_read : FnScope ["_law_text", "_law_lines", "_law_many", "_law_gates", "_law_line", "_law_words", "_law_ins", "_law_word"] ["_law_text"] (defScope s_read) := ⟨rfl, rfl, rfl, by decide +kernel, rfl, by decide +kernel, by decide +kernel⟩
theorem sc_kinds : FnScope ["_law_error", "_law_found"] ["_law_error"] (defScope s_kinds) := ⟨rfl, rfl, rfl, by decide +kernel, rfl, by decide +kernel, by decide +kernel⟩
theorem sc_refused : FnScope ["_law_error"] ["_law_error"] (defScope s_refused) := ⟨rfl, rfl, rfl, by decide +kernel, rfl, by decide +kernel, by decide +kernel⟩
theorem sc_bent : FnScope ["_law_deck_here", "_law_text", "_law_way", "_law_signs", "_law_sign", "_law_at", "_law_some", "_law_lines", "_law_k", "_law_other", "_law_words", "_law_j", "_law_word", "_law_more", "_law_put", "_law_line"] ["_law_deck_here", "_law_text"] (defScope s_bent) := ⟨rfl, rfl, rfl, by decide +kernel, rfl, by decide +kernel, by decide +kernel⟩
theorem sc_told : FnScope ["_law_thing", "_law_found", "e"] ["_law_thing"] (defScope s_told) := ⟨rfl, rfl, rfl, by decide +kernel, rfl, by decide +kernel, by decide +kernel⟩
theorem sc_right : FnScope ["_law_text", "_law_due"] ["_law_text"] (defScope s_right) := ⟨rfl, rfl, rfl, by decide +kernel, rfl, by decide +kernel, by decide +kernel⟩
theorem sc_law : FnScope ["_law_script", "_law_deck_here", "_law_turn", "_law_steps", "_law_net_here", "_law_text", "_law_again", "_law_other", "_law_step", "_law_thing", "_law_kept", "_law_lines", "_law_last", "_law_row", "_law_long", "_law_some", "_law_k"] ["_law_script"] (defScope s_law) := ⟨rfl, rfl, rfl, by decide +kernel, rfl, by decide +kernel, by decide +kernel⟩
structure Tx (K : PySem.W.Frag) (mg : Str → Option Value) where
  f_is_whole : Addr
  fd_is_whole : FuncData
  F_is_whole : Fun K "is_whole" "is_whole" s_is_whole f_is_whole fd_is_whole
  g_is_whole : mg "is_whole" = some (.ref f_is_whole)
  b_is_whole : Binds K fd_is_whole ["thing"] []
  f_is_signs : Addr
  fd_is_signs : FuncData
  F_is_signs : Fun K "is_signs" "is_signs" s_is_signs f_is_signs fd_is_signs
  g_is_signs : mg "is_signs" = some (.ref f_is_signs)
  b_is_signs : Binds K fd_is_signs ["many", "thing"] []
  c_is_signs : Addr
  P_is_signs : Addr
  cd_is_signs : fd_is_signs.code = .ref c_is_signs
  f_is_net : Addr
  fd_is_net : FuncData
  F_is_net : Fun K "is_net" "is_net" s_is_net f_is_net fd_is_net
  g_is_net : mg "is_net" = some (.ref f_is_net)
  b_is_net : Binds K fd_is_net ["thing"] []
  c_is_net : Addr
  P_is_net : Addr
  cd_is_net : fd_is_net.code = .ref c_is_net
  f_is_gate : Addr
  fd_is_gate : FuncData
  F_is_gate : Fun K "is_gate" "is_gate" s_is_gate f_is_gate fd_is_gate
  g_is_gate : mg "is_gate" = some (.ref f_is_gate)
  b_is_gate : Binds K fd_is_gate ["wires", "thing"] []
  c_is_gate : Addr
  P_is_gate : Addr
  cd_is_gate : fd_is_gate.code = .ref c_is_gate
  f_read_net : Addr
  fd_read_net : FuncData
  F_read_net : Fun K "read_net" "read_net" s_read_net f_read_net fd_read_net
  g_read_net : mg "read_net" = some (.ref f_read_net)
  b_read_net : Binds K fd_read_net ["text"] []
  f_read_head : Addr
  fd_read_head : FuncData
  F_read_head : Fun K "read_head" "read_head" s_read_head f_read_head fd_read_head
  g_read_head : mg "read_head" = some (.ref f_read_head)
  b_read_head : Binds K fd_read_head ["line"] []
  f_read_gate : Addr
  fd_read_gate : FuncData
  F_read_gate : Fun K "read_gate" "read_gate" s_read_gate f_read_gate fd_read_gate
  g_read_gate : mg "read_gate" = some (.ref f_read_gate)
  b_read_gate : Binds K fd_read_gate ["line"] []
  f_read_number : Addr
  fd_read_number : FuncData
  F_read_number : Fun K "read_number" "read_number" s_read_number f_read_number fd_read_number
  g_read_number : mg "read_number" = some (.ref f_read_number)
  b_read_number : Binds K fd_read_number ["word"] []
  c_read_number : Addr
  P_read_number : Addr
  cd_read_number : fd_read_number.code = .ref c_read_number
  f_deck : Addr
  fd_deck : FuncData
  F_deck : Fun K "_law_deck" "_law_deck" s_deck f_deck fd_deck
  g_deck : mg "_law_deck" = some (.ref f_deck)
  b_deck : Binds K fd_deck ["_law_script"] []
  f_mixed : Addr
  fd_mixed : FuncData
  F_mixed : Fun K "_law_mixed" "_law_mixed" s_mixed f_mixed fd_mixed
  g_mixed : mg "_law_mixed" = some (.ref f_mixed)
  b_mixed : Binds K fd_mixed ["_law_cell", "_law_k"] []
  f_take : Addr
  fd_take : FuncData
  F_take : Fun K "_law_take" "_law_take" s_take f_take fd_take
  g_take : mg "_law_take" = some (.ref f_take)
  b_take : Binds K fd_take ["_law_deck_here", "_law_most"] []
  f_gate : Addr
  fd_gate : FuncData
  F_gate : Fun K "_law_gate" "_law_gate" s_gate f_gate fd_gate
  g_gate : mg "_law_gate" = some (.ref f_gate)
  b_gate : Binds K fd_gate ["_law_deck_here", "_law_wires", "_law_near"] []
  f_net : Addr
  fd_net : FuncData
  F_net : Fun K "_law_net" "_law_net" s_net f_net fd_net
  g_net : mg "_law_net" = some (.ref f_net)
  b_net : Binds K fd_net ["_law_deck_here"] []
  f_shown : Addr
  fd_shown : FuncData
  F_shown : Fun K "_law_shown" "_law_shown" s_shown f_shown fd_shown
  g_shown : mg "_law_shown" = some (.ref f_shown)
  b_shown : Binds K fd_shown ["_law_net_here"] []
  f_number : Addr
  fd_number : FuncData
  F_number : Fun K "_law_number" "_law_number" s_number f_number fd_number
  g_number : mg "_law_number" = some (.ref f_number)
  b_number : Binds K fd_number ["_law_word"] []
  f_read : Addr
  fd_read : FuncData
  F_read : Fun K "_law_read" "_law_read" s_read f_read fd_read
  g_read : mg "_law_read" = some (.ref f_read)
  b_read : Binds K fd_read ["_law_text"] []
  f_kinds : Addr
  fd_kinds : FuncData
  F_kinds : Fun K "_law_kinds" "_law_kinds" s_kinds f_kinds fd_kinds
  g_kinds : mg "_law_kinds" = some (.ref f_kinds)
  b_kinds : Binds K fd_kinds ["_law_error"] []
  f_refused : Addr
  fd_refused : FuncData
  F_refused : Fun K "_law_refused" "_law_refused" s_refused f_refused fd_refused
  g_refused : mg "_law_refused" = some (.ref f_refused)
  b_refused : Binds K fd_refused ["_law_error"] []
  f_bent : Addr
  fd_bent : FuncData
  F_bent : Fun K "_law_bent" "_law_bent" s_bent f_bent fd_bent
  g_bent : mg "_law_bent" = some (.ref f_bent)
  b_bent : Binds K fd_bent ["_law_deck_here", "_law_text"] []
  f_told : Addr
  fd_told : FuncData
  F_told : Fun K "_law_told" "_law_told" s_told f_told fd_told
  g_told : mg "_law_told" = some (.ref f_told)
  b_told : Binds K fd_told ["_law_thing"] []
  f_right : Addr
  fd_right : FuncData
  F_right : Fun K "_law_right" "_law_right" s_right f_right fd_right
  g_right : mg "_law_right" = some (.ref f_right)
  b_right : Binds K fd_right ["_law_text"] []
  f_law : Addr
  fd_law : FuncData
  F_law : Fun K "law" "law" s_law f_law fd_law
  g_law : mg "law" = some (.ref f_law)
  b_law : Binds K fd_law ["_law_script"] []
  m_ValueError : mg "ValueError" = none
  m_all : mg "all" = none
  m_bool : mg "bool" = none
  m_enumerate : mg "enumerate" = none
  m_int : mg "int" = none
  m_isinstance : mg "isinstance" = none
  m_len : mg "len" = none
  m_list : mg "list" = none
  m_max : mg "max" = none
  m_min : mg "min" = none
  m_range : mg "range" = none
  m_repr : mg "repr" = none
  m_reversed : mg "reversed" = none
  m_str : mg "str" = none
  m_sum : mg "sum" = none
  m_tuple : mg "tuple" = none
  k_MOST_INPUTS : ∃ t, mg "MOST_INPUTS" = some (.int 6 t)
  k_MOST_INS : ∃ t, mg "MOST_INS" = some (.int 3 t)
  k_MOST_FIGURES : ∃ t, mg "MOST_FIGURES" = some (.int 40 t)
  C_NetError : Addr
  gC_NetError : mg "NetError" = some (.ref C_NetError)
  C_NoText : Addr
  gC_NoText : mg "NoText" = some (.ref C_NoText)
  C_TooMany : Addr
  gC_TooMany : mg "TooMany" = some (.ref C_TooMany)
  C_NotFormula : Addr
  gC_NotFormula : mg "NotFormula" = some (.ref C_NotFormula)
  C_NoTurn : Addr
  gC_NoTurn : mg "NoTurn" = some (.ref C_NoTurn)
  C_NoForms : Addr
  gC_NoForms : mg "NoForms" = some (.ref C_NoForms)
  C_NoRow : Addr
  gC_NoRow : mg "NoRow" = some (.ref C_NoRow)
  q_NoText : PySem.W.excIn K C_NoText He.veBase "ValueError.__new__" = true
  kC_NoText : PySem.W.keepIn K (.ref C_NoText) = true
  su_NoText : PySem.W.subIn K (.ref C_NoText) (.type "BaseException") = some true
  ty_NoText : PySem.W.typeIn K (.ref C_NoText) = some (.type "type")
  X_NoText : ExcC K C_NoText
  v_NoText : PySem.W.kitOne K (.ref C_NoText) (.type "ValueError") = some true
  t_NoText_NetError : PySem.W.kitOne K (.ref C_NoText) (.ref C_NetError) = some true
  x_NoText_NetError : PySem.W.exmOne K (.ref C_NoText) (.ref C_NetError) = some true
  t_NoText_NoText : PySem.W.kitOne K (.ref C_NoText) (.ref C_NoText) = some true
  x_NoText_NoText : PySem.W.exmOne K (.ref C_NoText) (.ref C_NoText) = some true
  t_NoText_TooMany : PySem.W.kitOne K (.ref C_NoText) (.ref C_TooMany) = some false
  x_NoText_TooMany : PySem.W.exmOne K (.ref C_NoText) (.ref C_TooMany) = some false
  t_NoText_NotFormula : PySem.W.kitOne K (.ref C_NoText) (.ref C_NotFormula) = some false
  x_NoText_NotFormula : PySem.W.exmOne K (.ref C_NoText) (.ref C_NotFormula) = some false
  t_NoText_NoTurn : PySem.W.kitOne K (.ref C_NoText) (.ref C_NoTurn) = some false
  x_NoText_NoTurn : PySem.W.exmOne K (.ref C_NoText) (.ref C_NoTurn) = some false
  t_NoText_NoForms : PySem.W.kitOne K (.ref C_NoText) (.ref C_NoForms) = some false
  x_NoText_NoForms : PySem.W.exmOne K (.ref C_NoText) (.ref C_NoForms) = some false
  t_NoText_NoRow : PySem.W.kitOne K (.ref C_NoText) (.ref C_NoRow) = some false
  x_NoText_NoRow : PySem.W.exmOne K (.ref C_NoText) (.ref C_NoRow) = some false
  q_TooMany : PySem.W.excIn K C_TooMany He.veBase "ValueError.__new__" = true
  kC_TooMany : PySem.W.keepIn K (.ref C_TooMany) = true
  su_TooMany : PySem.W.subIn K (.ref C_TooMany) (.type "BaseException") = some true
  ty_TooMany : PySem.W.typeIn K (.ref C_TooMany) = some (.type "type")
  X_TooMany : ExcC K C_TooMany
  v_TooMany : PySem.W.kitOne K (.ref C_TooMany) (.type "ValueError") = some true
  t_TooMany_NetError : PySem.W.kitOne K (.ref C_TooMany) (.ref C_NetError) = some true
  x_TooMany_NetError : PySem.W.exmOne K (.ref C_TooMany) (.ref C_NetError) = some true
  t_TooMany_NoText : PySem.W.kitOne K (.ref C_TooMany) (.ref C_NoText) = some false
  x_TooMany_NoText : PySem.W.exmOne K (.ref C_TooMany) (.ref C_NoText) = some false
  t_TooMany_TooMany : PySem.W.kitOne K (.ref C_TooMany) (.ref C_TooMany) = some true
  x_TooMany_TooMany : PySem.W.exmOne K (.ref C_TooMany) (.ref C_TooMany) = some true
  t_TooMany_NotFormula : PySem.W.kitOne K (.ref C_TooMany) (.ref C_NotFormula) = some false
  x_TooMany_NotFormula : PySem.W.exmOne K (.ref C_TooMany) (.ref C_NotFormula) = some false
  t_TooMany_NoTurn : PySem.W.kitOne K (.ref C_TooMany) (.ref C_NoTurn) = some false
  x_TooMany_NoTurn : PySem.W.exmOne K (.ref C_TooMany) (.ref C_NoTurn) = some false
  t_TooMany_NoForms : PySem.W.kitOne K (.ref C_TooMany) (.ref C_NoForms) = some false
  x_TooMany_NoForms : PySem.W.exmOne K (.ref C_TooMany) (.ref C_NoForms) = some false
  t_TooMany_NoRow : PySem.W.kitOne K (.ref C_TooMany) (.ref C_NoRow) = some false
  x_TooMany_NoRow : PySem.W.exmOne K (.ref C_TooMany) (.ref C_NoRow) = some false
  q_NotFormula : PySem.W.excIn K C_NotFormula He.veBase "ValueError.__new__" = true
  kC_NotFormula : PySem.W.keepIn K (.ref C_NotFormula) = true
  su_NotFormula : PySem.W.subIn K (.ref C_NotFormula) (.type "BaseException") = some true
  ty_NotFormula : PySem.W.typeIn K (.ref C_NotFormula) = some (.type "type")
  X_NotFormula : ExcC K C_NotFormula
  v_NotFormula : PySem.W.kitOne K (.ref C_NotFormula) (.type "ValueError") = some true
  t_NotFormula_NetError : PySem.W.kitOne K (.ref C_NotFormula) (.ref C_NetError) = some true
  x_NotFormula_NetError : PySem.W.exmOne K (.ref C_NotFormula) (.ref C_NetError) = some true
  t_NotFormula_NoText : PySem.W.kitOne K (.ref C_NotFormula) (.ref C_NoText) = some false
  x_NotFormula_NoText : PySem.W.exmOne K (.ref C_NotFormula) (.ref C_NoText) = some false
  t_NotFormula_TooMany : PySem.W.kitOne K (.ref C_NotFormula) (.ref C_TooMany) = some false
  x_NotFormula_TooMany : PySem.W.exmOne K (.ref C_NotFormula) (.ref C_TooMany) = some false
  t_NotFormula_NotFormula : PySem.W.kitOne K (.ref C_NotFormula) (.ref C_NotFormula) = some true
  x_NotFormula_NotFormula : PySem.W.exmOne K (.ref C_NotFormula) (.ref C_NotFormula) = some true
  t_NotFormula_NoTurn : PySem.W.kitOne K (.ref C_NotFormula) (.ref C_NoTurn) = some false
  x_NotFormula_NoTurn : PySem.W.exmOne K (.ref C_NotFormula) (.ref C_NoTurn) = some false
  t_NotFormula_NoForms : PySem.W.kitOne K (.ref C_NotFormula) (.ref C_NoForms) = some false
  x_NotFormula_NoForms : PySem.W.exmOne K (.ref C_NotFormula) (.ref C_NoForms) = some false
  t_NotFormula_NoRow : PySem.W.kitOne K (.ref C_NotFormula) (.ref C_NoRow) = some false
  x_NotFormula_NoRow : PySem.W.exmOne K (.ref C_NotFormula) (.ref C_NoRow) = some false
  q_NoTurn : PySem.W.excIn K C_NoTurn He.veBase "ValueError.__new__" = true
  kC_NoTurn : PySem.W.keepIn K (.ref C_NoTurn) = true
  su_NoTurn : PySem.W.subIn K (.ref C_NoTurn) (.type "BaseException") = some true
  ty_NoTurn : PySem.W.typeIn K (.ref C_NoTurn) = some (.type "type")
  X_NoTurn : ExcC K C_NoTurn
  v_NoTurn : PySem.W.kitOne K (.ref C_NoTurn) (.type "ValueError") = some true
  t_NoTurn_NetError : PySem.W.kitOne K (.ref C_NoTurn) (.ref C_NetError) = some true
  x_NoTurn_NetError : PySem.W.exmOne K (.ref C_NoTurn) (.ref C_NetError) = some true
  t_NoTurn_NoText : PySem.W.kitOne K (.ref C_NoTurn) (.ref C_NoText) = some false
  x_NoTurn_NoText : PySem.W.exmOne K (.ref C_NoTurn) (.ref C_NoText) = some false
  t_NoTurn_TooMany : PySem.W.kitOne K (.ref C_NoTurn) (.ref C_TooMany) = some false
  x_NoTurn_TooMany : PySem.W.exmOne K (.ref C_NoTurn) (.ref C_TooMany) = some false
  t_NoTurn_NotFormula : PySem.W.kitOne K (.ref C_NoTurn) (.ref C_NotFormula) = some false
  x_NoTurn_NotFormula : PySem.W.exmOne K (.ref C_NoTurn) (.ref C_NotFormula) = some false
  t_NoTurn_NoTurn : PySem.W.kitOne K (.ref C_NoTurn) (.ref C_NoTurn) = some true
  x_NoTurn_NoTurn : PySem.W.exmOne K (.ref C_NoTurn) (.ref C_NoTurn) = some true
  t_NoTurn_NoForms : PySem.W.kitOne K (.ref C_NoTurn) (.ref C_NoForms) = some false
  x_NoTurn_NoForms : PySem.W.exmOne K (.ref C_NoTurn) (.ref C_NoForms) = some false
  t_NoTurn_NoRow : PySem.W.kitOne K (.ref C_NoTurn) (.ref C_NoRow) = some false
  x_NoTurn_NoRow : PySem.W.exmOne K (.ref C_NoTurn) (.ref C_NoRow) = some false
  q_NoForms : PySem.W.excIn K C_NoForms He.veBase "ValueError.__new__" = true
  kC_NoForms : PySem.W.keepIn K (.ref C_NoForms) = true
  su_NoForms : PySem.W.subIn K (.ref C_NoForms) (.type "BaseException") = some true
  ty_NoForms : PySem.W.typeIn K (.ref C_NoForms) = some (.type "type")
  X_NoForms : ExcC K C_NoForms
  v_NoForms : PySem.W.kitOne K (.ref C_NoForms) (.type "ValueError") = some true
  t_NoForms_NetError : PySem.W.kitOne K (.ref C_NoForms) (.ref C_NetError) = some true
  x_NoForms_NetError : PySem.W.exmOne K (.ref C_NoForms) (.ref C_NetError) = some true
  t_NoForms_NoText : PySem.W.kitOne K (.ref C_NoForms) (.ref C_NoText) = some false
  x_NoForms_NoText : PySem.W.exmOne K (.ref C_NoForms) (.ref C_NoText) = some false
  t_NoForms_TooMany : PySem.W.kitOne K (.ref C_NoForms) (.ref C_TooMany) = some false
  x_NoForms_TooMany : PySem.W.exmOne K (.ref C_NoForms) (.ref C_TooMany) = some false
  t_NoForms_NotFormula : PySem.W.kitOne K (.ref C_NoForms) (.ref C_NotFormula) = some false
  x_NoForms_NotFormula : PySem.W.exmOne K (.ref C_NoForms) (.ref C_NotFormula) = some false
  t_NoForms_NoTurn : PySem.W.kitOne K (.ref C_NoForms) (.ref C_NoTurn) = some false
  x_NoForms_NoTurn : PySem.W.exmOne K (.ref C_NoForms) (.ref C_NoTurn) = some false
  t_NoForms_NoForms : PySem.W.kitOne K (.ref C_NoForms) (.ref C_NoForms) = some true
  x_NoForms_NoForms : PySem.W.exmOne K (.ref C_NoForms) (.ref C_NoForms) = some true
  t_NoForms_NoRow : PySem.W.kitOne K (.ref C_NoForms) (.ref C_NoRow) = some false
  x_NoForms_NoRow : PySem.W.exmOne K (.ref C_NoForms) (.ref C_NoRow) = some false
  q_NoRow : PySem.W.excIn K C_NoRow He.veBase "ValueError.__new__" = true
  kC_NoRow : PySem.W.keepIn K (.ref C_NoRow) = true
  su_NoRow : PySem.W.subIn K (.ref C_NoRow) (.type "BaseException") = some true
  ty_NoRow : PySem.W.typeIn K (.ref C_NoRow) = some (.type "type")
  X_NoRow : ExcC K C_NoRow
  v_NoRow : PySem.W.kitOne K (.ref C_NoRow) (.type "ValueError") = some true
  t_NoRow_NetError : PySem.W.kitOne K (.ref C_NoRow) (.ref C_NetError) = some true
  x_NoRow_NetError : PySem.W.exmOne K (.ref C_NoRow) (.ref C_NetError) = some true
  t_NoRow_NoText : PySem.W.kitOne K (.ref C_NoRow) (.ref C_NoText) = some false
  x_NoRow_NoText : PySem.W.exmOne K (.ref C_NoRow) (.ref C_NoText) = some false
  t_NoRow_TooMany : PySem.W.kitOne K (.ref C_NoRow) (.ref C_TooMany) = some false
  x_NoRow_TooMany : PySem.W.exmOne K (.ref C_NoRow) (.ref C_TooMany) = some false
  t_NoRow_NotFormula : PySem.W.kitOne K (.ref C_NoRow) (.ref C_NotFormula) = some false
  x_NoRow_NotFormula : PySem.W.exmOne K (.ref C_NoRow) (.ref C_NotFormula) = some false
  t_NoRow_NoTurn : PySem.W.kitOne K (.ref C_NoRow) (.ref C_NoTurn) = some false
  x_NoRow_NoTurn : PySem.W.exmOne K (.ref C_NoRow) (.ref C_NoTurn) = some false
  t_NoRow_NoForms : PySem.W.kitOne K (.ref C_NoRow) (.ref C_NoForms) = some false
  x_NoRow_NoForms : PySem.W.exmOne K (.ref C_NoRow) (.ref C_NoForms) = some false
  t_NoRow_NoRow : PySem.W.kitOne K (.ref C_NoRow) (.ref C_NoRow) = some true
  x_NoRow_NoRow : PySem.W.exmOne K (.ref C_NoRow) (.ref C_NoRow) = some true
structure Tb (base : Heap) {K : PySem.W.Frag} {mg : Str → Option Value} (T : Tx K mg) : Prop where
  TB_is_signs : GxR.TabB base mg T.c_is_signs T.P_is_signs
  TB_is_net : GxR.TabB base mg T.c_is_net T.P_is_net
  TB_is_gate : GxR.TabB base mg T.c_is_gate T.P_is_gate
  TB_read_number : GxR.TabB base mg T.c_read_number T.P_read_number
def Tx.tabs {K : PySem.W.Frag} {mg : Str → Option Value} (T : Tx K mg) : List Addr := [T.P_is_signs, T.P_is_net, T.P_is_gate, T.P_read_number]
/-! ### generator expressions whose elements may call -/
theorem inv_moved {X : Cx} {cp : List (Addr × Obj)} {σ : L2.St} {H : Hp} {s s' : Shared} (I : Inv X cp σ H s) (os : s'.os = s.os) (bare : AllBare s'.gens) (k : ∀ b o, s.heap.get? b = some o → s'.heap.get? b = some o) : Inv X cp σ H s' :=
  I.call' (ch := []) os (Un.kept k) (I.hok.kept k) bare fun b hb => absurd hb (by simp)
/-- the context of a generator expression's frame: C its frame, s, H the entry, fp its iterator's objects -/
abbrev gblk (X : Cx) (A : Around) (s : Shared) (H : Hp) (cenv : Env) (fp : List Addr) : Cx :=
  { X with A := A, s_0 := s, H_0 := H, env := cenv, outer := X.stack, stack := cenv :: X.stack, ex := fp, fn := fun _ => false, pn := [], xe := fun _ _ => False }
section
variable {X : Cx} {pins : List (Addr × Obj)} {σ : L2.St} {H : Hp} {s : Shared}
theorem gen_start {scope : Scope} {own : List (Str × Nat)} {fp : List Addr} {A : Around} {code it : Value} {s5 : Shared} {cp : List (Addr × Obj)}
    (I : Inv X pins σ H s) (ok : BlkOk X.N X.env.scope scope own) (nocell : ∀ y ∈ scope.names, y.2 ≠ .cell) (hN : X.N.Nodup) (hfp : ∀ b ∈ fp, FpOk X pins H b ∧ b < s.heap.objs.size)
    (hh : A.handled = none) (hfr : A.frames = some (genEnv scope (cloFrom X.env.cells scope.names []) s.heap.objs.size code builtinsNs X.env :: X.stack))
    (os : s5.os = s.os) (bare : AllBare s5.gens) (kp : ∀ b o, s.heap.get? b = some o → s5.heap.get? b = some o)
    (hns : s5.heap.Ns s.heap.objs.size fun y => if y = ".0" then some it else none)
    (hcp : ∀ p ∈ cp, s.heap.objs.size < p.1 ∧ s5.heap.get? p.1 = some p.2 ∧ ∀ v, p.2.data ≠ .cell v) :
    Inv (gblk X A s H (genEnv scope (cloFrom X.env.cells scope.names []) s.heap.objs.size code builtinsNs X.env) fp) cp (wipe σ (own.map (·.2))) H s5 := by
  have hfree : ∀ y ∈ scope.names, y.2 = .free → ∃ c, X.env.cells.lookup y.1 = some c := fun y hy e => by
    rcases ok.free y hy e with k | k
    · exact I.ok.has _ (.inl k)
    · exact I.ok.has _ (.inr k)
  generalize hcenv : genEnv scope (cloFrom X.env.cells scope.names []) s.heap.objs.size code builtinsNs X.env = cenv at hfr ⊢
  have hL : cenv.locals = s.heap.objs.size := by rw [← hcenv]; rfl
  have hcl : cenv.cells = cloFrom X.env.cells scope.names [] := by rw [← hcenv]; rfl
  have hsc : cenv.scope = scope := by rw [← hcenv]; rfl
  have cm : ∀ {y c}, (y, c) ∈ cloFrom X.env.cells scope.names [] → X.env.cells.lookup y = some c ∧ c < s.heap.objs.size := fun {y c} hm => by
    rcases cloFrom_mem hm with hm | ⟨h1, rfl⟩
    · cases hm
    · obtain ⟨c, hc⟩ := hfree _ h1 rfl
      rw [hc]
      obtain ⟨w, z⟩ := I.cell _ _ hc
      exact ⟨rfl, z.lt⟩
  have mem : ∀ {y c}, cenv.cells.lookup y = some c → X.env.cells.lookup y = some c ∧ c < s.heap.objs.size := fun {y c} e => by
    rw [hcl] at e
    exact cm (PySem.mem_of_lookup e)
  have look : ∀ {y}, scope.names.lookup y = some .free → ∃ c, cenv.cells.lookup y = some c ∧ X.env.cells.lookup y = some c := fun {y} hl => by
    have hy : (y, NameKind.free) ∈ scope.names := PySem.mem_of_lookup hl
    obtain ⟨c', e'⟩ := mem_lookup (cloFrom_has (cells := X.env.cells) (acc := []) hy)
    rw [← hcl] at e'
    exact ⟨c', e', (mem e').1⟩
  have okB : (gblk X A s H cenv fp).Ok := by
    refine ⟨I.ok.mod, by show cenv.scope.kind = _; rw [hsc]; exact ok.kind, by show cenv.globals = _; rw [← hcenv]; exact I.ok.glob, by show cenv.builtins = _; rw [← hcenv]; rfl, by show s.heap.objs.size ≤ cenv.locals; rw [hL]; exact Nat.le_refl _,
      fun y z c e1 e2 => I.ok.inj y z c (mem e1).1 (mem e2).1, fun y hy => ?_, fun y c z e => (by cases z), fun _ => hh, hfr, .inr ⟨rfl, by show cenv.frame = some cenv.locals; rw [← hcenv]; rfl⟩, fun b hb => ⟨?_, fun y c e z => ?_⟩, I.bs, Nat.le_trans I.ok.bsz I.sz, fun b o e hb => ?_, fun b hb z => ?_, I.stack, I.stkFree⟩
    · have hy' : scope.names.lookup y = some .cell ∨ scope.names.lookup y = some .free := by
        rw [← hsc]
        exact hy
      rcases hy' with e | e
      · exact absurd rfl (nocell _ (PySem.mem_of_lookup e))
      · obtain ⟨c, h1, _⟩ := look e
        exact ⟨c, h1⟩
    · show b ≠ cenv.locals
      rw [hL]; exact Nat.ne_of_lt (hfp b hb).2
    · exact (hfp b hb).1.2.2.2.2.1 y c (mem e).1 z
    · rcases (hfp b hb).1.2.2.2.1 with z | z
      · exact I.ok.noex b o e z
      · exact absurd (Nat.lt_of_lt_of_le (Heap.lt_size e) (Nat.le_trans I.ok.bsz z)) (Nat.lt_irrefl _)
    · rcases List.mem_cons.mp (I.stkSub b z) with z | z
      · exact (hfp b hb).1.2.1 z
      · exact (hfp b hb).1.2.2.1 z
  refine ⟨okB, os, bare, Un.kept kp, ⟨_, (by show s5.heap.Ns cenv.locals _; rw [hL]; exact hns), fun i y av e1 e2 e3 => ?_⟩, fun y c e => ?_, ?_, fun y c e => I.freeC y c (mem e).1, fun p hp => ?_, I.hok.kept kp, by rw [wipe_length]; exact I.len⟩
  · obtain ⟨e2, hne⟩ := wipe_some e2
    have e3 : Vis scope y := by rw [← hsc]; exact e3
    have no : ∀ k, scope.names.lookup y = some k → ¬ (k = .local ∨ k = .cell) := fun k e hh => by
      rcases ok.own _ (PySem.mem_of_lookup e) hh with e' | e'
      · obtain ⟨p, hp, hpy⟩ := List.mem_map.mp e'
        have e3 := ok.ix p hp
        have : p.1 = y := hpy
        rw [this] at e3
        exact hne (List.mem_map.mpr ⟨p, hp, nodup_ix hN e3 e1⟩)
      · exact e' (List.mem_of_getElem? e1)
    have hfr2 : scope.names.lookup y = some .free := by
      rcases e3 with e | e | e
      · exact absurd (.inl rfl) (no _ e)
      · exact absurd (.inr rfl) (no _ e)
      · exact e
    obtain ⟨m, hn, hl⟩ := I.loc
    have hvis : Vis X.env.scope y := (ok.free _ (PySem.mem_of_lookup hfr2) rfl).elim (fun k => .inr (.inl k)) (fun k => .inr (.inr k))
    obtain ⟨w, r, q⟩ := hl i y av e1 e2 hvis
    refine ⟨w, r, .inr ⟨.inr (by show cenv.scope.names.lookup y = some .free; rw [hsc]; exact hfr2), ?_⟩⟩
    obtain ⟨c, h1, h2⟩ := look hfr2
    rcases q with ⟨k, _⟩ | ⟨_, c', e', z⟩
    · have k : X.env.scope.names.lookup y = some .local := k
      rcases ok.free _ (PySem.mem_of_lookup hfr2) rfl with k' | k' <;> rw [show X.env.scope.names.lookup y = _ from k'] at k <;> cases k
    · rw [h2] at e'; cases e'
      exact ⟨c, h1, z.keeps kp⟩
  · obtain ⟨w, z⟩ := I.cell y c (mem e).1
    exact ⟨w, z.keeps kp⟩
  · show H cenv.locals = none
    rw [hL]; exact I.hok.fresh (Nat.le_refl _)
  · have hp : p ∈ cp := by simpa using hp
    obtain ⟨h1, h2, h3⟩ := hcp p hp
    refine ⟨h2, I.hok.fresh (Nat.le_of_lt h1), by show p.1 ≠ cenv.locals; rw [hL]; exact Nat.ne_of_gt h1, fun z => ?_, h3⟩
    rcases List.mem_cons.mp (I.stkSub _ z) with z | z
    · exact absurd (Nat.lt_trans I.lt h1) (by rw [z]; exact Nat.lt_irrefl _)
    · exact I.nofs (Nat.le_of_lt h1) z
end
/-! ### the talk of a generator and who asks it -/
section
variable {α : Type}
/-- handed out: x; the asker's state a (laid down in the pins cp) goes to one with Nx -/
def YG (Xg : Cx) (fp : List Addr) (tn : Nat → Heap → Prop) (AC : α → List (Addr × Obj) → Prop) (Yd : α → V → Hp → (α → Hp → Prop) → Prop) : Protocol := fun _ s0 v s kap =>
  ∃ (a : α) (x : V) (σ : L2.St) (H : Hp) (i : Nat) (cp : List (Addr × Obj)) (Nx : α → Hp → Prop), RelV x v ∧ AC a cp ∧ (∀ p ∈ cp, s0.heap.get? p.1 = some p.2) ∧ Inv Xg cp σ H s ∧ tn i s.heap ∧ (∀ b ∈ fp, H b = none) ∧ Yd a x H Nx ∧
    ∀ a' cp' s', Nx a' H → AC a' cp' → Inv Xg cp' σ H s' → tn i s'.heap → kap (.send .none) s'
def RG (Xg : Cx) (AC : α → List (Addr × Obj) → Prop) (End : α → Hp → Prop) : GenEnd := fun _ s0 r s =>
  ((r = .ok (.ret .none) ∨ r = .ok .next) ∧ ∃ (a : α) (σ : L2.St) (H : Hp) (cp : List (Addr × Obj)), AC a cp ∧ (∀ p ∈ cp, s0.heap.get? p.1 = some p.2) ∧ Inv Xg cp σ H s ∧ End a H) ∨ ∃ e, r = .error e ∧ False
/-- a generator's turns -/
def tGx (J : It) (g : TG) (tt : TT) (te : TE) (σ0 : L2.St) (vs : List Nat) (End : α → Hp → Prop) (Yd : α → V → Hp → (α → Hp → Prop) → Prop) (W : Nat → Nat → α → Hp → Prop) : Prop :=
  ∀ i m a H, W i m a H → (J.stop i H ∧ End a H) ∨ (J.go i H ∧ ∃ Nx : α → Hp → Prop, (∀ a' H', Nx a' H' → ∃ m', m' < m ∧ W (i + 1) m' a' H') ∧
    ∀ x H', J.yld i H x H' → g x σ0 H' fun σ2 H2 => wipe σ2 vs = σ0 ∧ tt σ2 H2 fun b H3 => if b = true then te σ2 H3 fun y H4 => Yd a y H4 Nx else Nx a H3)
theorem wipe_wipe_some {σ σ2 : L2.St} {vs : List Nat} (h : wipe σ2 vs = σ) : ∀ (j : Nat) v, σ[j]? = some (some v) → σ2[j]? = some (some v) := fun j v e => by
  rw [← h] at e
  exact (wipe_some e).1
theorem seg_gx {X : Cx} {A A' : Around} {s_0 : Shared} {H_0 : Hp} {elt tg iter : Expr} {ifs : List Expr} {scope : Scope} {pos : Pos} {it : Addr} {fp : List Addr} {tn : Nat → Heap → Prop} {J : It} {cenv : Env} {g : TG} {tt : TT} {te : TE} {σ0 : L2.St} {vs : List Nat}
    {AC : α → List (Addr × Obj) → Prop} {End : α → Hp → Prop} {Yd : α → V → Hp → (α → Hp → Prop) → Prop} {W : Nat → Nat → α → Hp → Prop}
    (hA : A.over (.compLoop (.GeneratorExp elt [⟨tg, iter, ifs, 0⟩] scope pos) 0 (.ref it) .none cenv) [] = A') (hc : X.calm = true) (hco : cenv.scope.isCoroutine = false)
    (T : Turn X.prog X.w X.K tg J fp it tn) (pg : PG (gblk X A' s_0 H_0 cenv fp) tg g) (pt : PTs (gblk X A' s_0 H_0 cenv fp) ifs tt) (pe : PE (gblk X A' s_0 H_0 cenv fp) elt te)
    (hAC : ∀ a cp, AC a cp → ∀ p ∈ cp, ∀ b ∈ fp, p.1 ≠ b) (turn : tGx J g tt te σ0 vs End Yd W) :
    ∀ (m n i : Nat) (a : α) (H : Hp) (s₀ s : Shared) (cp : List (Addr × Obj)), m < n → W i m a H → AC a cp → (∀ p ∈ cp, s₀.heap.get? p.1 = some p.2) → Inv (gblk X A' s_0 H_0 cenv fp) cp σ0 H s → tn i s.heap → (∀ b ∈ fp, H b = none) →
      Seg (model X.prog X.w) A (RG (gblk X A' s_0 H_0 cenv fp) AC End) (YG (gblk X A' s_0 H_0 cenv fp) fp tn AC Yd) n s₀
        (.compLoop (.GeneratorExp elt [⟨tg, iter, ifs, 0⟩] scope pos) 0 (.ref it) .none cenv)
        ((model X.prog X.w).den (.compLoop (.GeneratorExp elt [⟨tg, iter, ifs, 0⟩] scope pos) 0 (.ref it) .none cenv)) [] s := by
  have stat : ∀ {a : α} {cp : List (Addr × Obj)} {σ' : L2.St} {H' : Hp} {s' : Shared}, AC a cp → Inv (gblk X A' s_0 H_0 cenv fp) cp σ' H' s' → (∀ b ∈ fp, H' b = none) → ∀ b ∈ fp, FpOk (gblk X A' s_0 H_0 cenv fp) cp H' b := fun {a cp σ' H' s'} hac I' hn b hb =>
    ⟨hn b hb, (I'.ok.exf b hb).1, I'.ok.exfs b hb, .inl hb, fun x c e => (I'.ok.exf b hb).2 x c e, fun p hp => hAC a cp hac p (by simpa using hp) b hb⟩
  intro m
  induction m using Nat.strongRecOn with
  | ind m ih =>
    intro n i a H s₀ s cp hmn w hac tie I st nf
    show Seg _ A _ _ _ s₀ _ ((compTurn (.GeneratorExp elt [⟨tg, iter, ifs, 0⟩] scope pos) 0 (.ref it) .none cenv).onRaise (leaving cenv)) [] s
    rw [compTurn_gen, Sem.onRaise_eq_wrap]
    refine seg_bind_wrap (wpAny_standAt ?_)
    rcases turn i m a H w with ⟨stop, hend⟩ | ⟨go, Nx, hNx, step⟩
    · refine seg_bind_wrap ?_
      rw [hA]
      refine thnF (T.done (gblk X A' s_0 H_0 cenv fp) rfl rfl rfl hc i cp s σ0 H (fun _ _ => False) I (stat hac I nf) st stop) fun r s1 ⟨hr, I1⟩ => ?_
      subst hr
      exact seg_end (.ok .next) (.inl ⟨.inr rfl, a, _, H, cp, hac, tie, I1, hend⟩)
    · refine seg_bind_wrap ?_
      rw [hA]
      refine thnF (T.item (gblk X A' s_0 H_0 cenv fp) rfl rfl rfl hc i cp s σ0 H (fun _ _ => False) I (stat hac I nf) st go) fun r s1 ⟨u, hr, h1⟩ => ?_
      subst hr
      refine seg_bind_wrap ?_
      rw [hA]
      refine thnF h1 fun _ s2 ⟨x, H2, I2, r2, y2, st2, n2⟩ => ?_
      have I2' := I2.pinned (stat hac I2 n2) (T.obj _ _ st2)
      refine seg_bind_wrap ?_
      rw [hA]
      refine thnF (pg.run _ s2 _ H2 x u _ I2' r2 (step x H2 y2)) fun _ s3 ⟨σ3, H3, I3, hw3, q3⟩ => ?_
      refine seg_bind_wrap ?_
      rw [hA]
      refine thnF (pt.run _ s3 σ3 H3 _ I3 q3) fun b s4 ⟨H4, I4, q4⟩ => ?_
      have hl : σ0.length = σ3.length := by rw [← hw3, wipe_length]
      have fin : ∀ {s' : Shared} {H' : Hp}, Inv (gblk X A' s_0 H_0 cenv fp) (cp ++ pinsAt fp s2.heap) σ3 H' s' → Inv (gblk X A' s_0 H_0 cenv fp) cp σ0 H' s' ∧ tn (i + 1) s'.heap ∧ ∀ b ∈ fp, H' b = none := fun {s' H'} I' => by
        have pin' : ∀ b ∈ fp, ∀ o, s2.heap.get? b = some o → s'.heap.get? b = some o ∧ H' b = none := fun b hb o e =>
          let z := I'.pin (b, o) (List.mem_append_right _ (List.mem_append_right _ (mem_pinsAt hb e)))
          ⟨z.1, z.2.1⟩
        refine ⟨(I'.unpinned (pins := cp)).weak hl (wipe_wipe_some hw3), T.keep _ _ _ st2 fun b hb o e => (pin' b hb o e).1, fun b hb => ?_⟩
        obtain ⟨o, e, _⟩ := T.obj _ _ st2 b hb
        exact (pin' b hb o e).2
      cases b with
      | false =>
        simp only [Bool.false_eq_true, if_false] at q4 ⊢
        obtain ⟨m', hm, w'⟩ := hNx a H4 q4
        obtain ⟨J1, J2, J3⟩ := fin I4
        exact seg_again rfl (ih m' hm n (i + 1) a H4 s₀ s4 cp (by omega) w' hac tie J1 J2 J3)
      | true =>
        simp only [if_true] at q4 ⊢
        have hy : ∀ v, yieldOut cenv v = yieldValue v := fun v => by simp only [yieldOut, hco, Bool.false_eq_true, if_false]
        simp only [hy]
        rw [Sem.bind_eq_wrap', Sem.bind_eq_wrap', Sem.wrap_wrap, Sem.wrap_wrap]
        refine seg_wrap ?_
        rw [hA]
        refine thnF (pe.run _ s4 σ3 H4 _ I4 q4) fun yv s5 ⟨y, H5, I5, r5, q5⟩ => ?_
        obtain ⟨J1, J2, J3⟩ := fin I5
        -- at least one more
        cases n with
        | zero => exact absurd hmn (Nat.not_lt_zero _)
        | succ n =>
          refine seg_at (seg_yield rfl rfl rfl ⟨a, y, σ0, H5, i + 1, cp, Nx, r5, hac, tie, J1, J2, J3, q5, fun a' cp' s' nx hac' I' st' => ?_⟩)
          obtain ⟨m', hm, w'⟩ := hNx a' H5 nx
          exact seg_again rfl (ih m' hm n (i + 1) a' H5 s' s' cp' (by omega) w' hac' (fun p hp => (I'.pin p (List.mem_append_right _ hp)).1) I' st' J3)
end
/-! ### a generator that is made -/
section
variable {X : Cx} {pins : List (Addr × Obj)} {σ : L2.St} {H : Hp} {s : Shared}
def GenObj (o : Obj) (g : Nat) : Prop := ∃ nm qn, o.cls = .type "generator" ∧ o.data = .fields #[.int g 0, nm, qn] ∧ o.slots = #[]
theorem GenObj.isGen {o : Obj} {g : Nat} (h : GenObj o g) {a : Addr} {hp : Heap} (e : hp.get? a = some o) : hp.IsGen a g := by
  obtain ⟨nm, qn, h1, h2, h3⟩ := h
  exact ⟨o, nm, qn, e, h1, h2, h3⟩
/-- the generator u, made and not begun, in the state s5 -/
def Gx (X : Cx) (pins : List (Addr × Obj)) (σ : L2.St) (A : Around) (J : It) (g : TG) (tt : TT) (te : TE) (vs : List Nat) (H4 : Hp) (u : Value) (s5 : Shared) : Prop :=
  ∃ (A' : Around) (s_0 : Shared) (H_0 : Hp) (cenv : Env) (fp : List Addr) (ga : Addr) (gn : Nat) (go : Obj) (tn : Nat → Heap → Prop) (gs : GenState),
    u = .ref ga ∧ GenObj go gn ∧ s5.gens[gn]? = some gs ∧ gs.bare = true ∧ Inv (gblk X A' s_0 H_0 cenv fp) [(ga, go)] (wipe σ vs) H4 s5 ∧ tn 0 s5.heap ∧ (∀ b ∈ fp, H4 b = none) ∧ (∀ b ∈ fp, b < ga) ∧
    (∀ i h h', tn i h → (∀ b ∈ fp, ∀ o, h.get? b = some o → h'.get? b = some o) → tn i h') ∧ (∀ cp σ' H' s', Inv (gblk X A' s_0 H_0 cenv fp) cp σ' H' s' → Inv X pins σ H' s') ∧
    ∀ (α : Type) (AC : α → List (Addr × Obj) → Prop) (End : α → Hp → Prop) (Yd : α → V → Hp → (α → Hp → Prop) → Prop) (W : Nat → Nat → α → Hp → Prop) (m n : Nat) (a : α) (cp : List (Addr × Obj)) (s' : Shared),
      tGx J g tt te (wipe σ vs) vs End Yd W → W 0 m a H4 → m < n → (∀ a cp, AC a cp → ∀ p ∈ cp, ∀ b ∈ fp, p.1 ≠ b) → AC a cp → Inv (gblk X A' s_0 H_0 cenv fp) cp (wipe σ vs) H4 s' → tn 0 s'.heap →
      gs.Goes (model X.prog X.w) A (RG (gblk X A' s_0 H_0 cenv fp) AC End) (YG (gblk X A' s_0 H_0 cenv fp) fp tn AC Yd) n (.send .none) s'
/-- what stands about an asker -/
structure Near (A B : Around) : Prop where
  hd : B.handled = A.handled
  fr : B.frames = A.frames
  gd : B.guards = A.guards
  dp : B.depth = A.depth
  un : B.units ≤ A.units + 8
theorem gx_make {c P : Addr} {elt tg iter : Expr} {ifs : List Expr} {gpos : Pos} {scope : Scope} {own : List (Str × Nat)} {wi : TI} {g : TG} {tt : TT} {te : TE} {k : Nat} {Q' : Value → Shared → Prop} {R : It → Hp → Prop} {A : Around}
    (hr : Room (k + 1) X.A) (near : Near X.A A) (hc : X.calm = true) (hN : X.N.Nodup) (TB : GxR.TabB X.base X.mg c P) (hcode : X.env.code = .ref c) (hco : scope.isCoroutine = false) (hdot : scope.names.lookup (".0" : Str) = some NameKind.local)
    (nocell : ∀ y ∈ scope.names, y.2 ≠ .cell) (ok : BlkOk X.N X.env.scope scope own) (hi : PI X tg iter wi)
    (hg : ∀ (A' : Around) (s : Shared) (H : Hp) (C : Addr) (cl : List (Str × Addr)) (code : Value) (fp : List Addr), Room k A' → A'.guards = X.A.guards → PG (gblk X A' s H (genEnv scope cl C code builtinsNs X.env) fp) tg g)
    (ht : ∀ (A' : Around) (s : Shared) (H : Hp) (C : Addr) (cl : List (Str × Addr)) (code : Value) (fp : List Addr), Room k A' → A'.guards = X.A.guards → PTs (gblk X A' s H (genEnv scope cl C code builtinsNs X.env) fp) ifs tt)
    (he : ∀ (A' : Around) (s : Shared) (H : Hp) (C : Addr) (cl : List (Str × Addr)) (code : Value) (fp : List Addr), Room k A' → A'.guards = X.A.guards → PE (gblk X A' s H (genEnv scope cl C code builtinsNs X.env) fp) elt te)
    (hs : ∀ v, genFold iter X.env v = pure v) (I : Inv X pins σ H s) (h : wi σ H fun J H1 => GxR.TabG H1 P ∧ R J H1)
    (hQ : ∀ J H1 H2 u s5, R J H1 → GxR.Tabbed P H1 H2 → Gx X pins σ A J g tt te (own.map (·.2)) H2 u s5 → Q' u s5) :
    wpAny (model X.prog X.w) X.A (eval (.GeneratorExp elt [⟨tg, iter, ifs, 0⟩] scope gpos) X.env) Q' X.xe s := by
  have hfree : ∀ y ∈ scope.names, y.2 = .free → ∃ c, X.env.cells.lookup y.1 = some c := fun y hy e => by
    rcases ok.free y hy e with k | k
    · exact I.ok.has _ (.inl k)
    · exact I.ok.has _ (.inr k)
  refine wpAny_GeneratorExp_make hco (closure_ok hfree) nocell hdot ok.kind (by have := hr.dp; omega) ?_ hs
  refine thn (hi.run pins s σ H _ I h) fun xv s1 hx => thn hx fun itv s2 h2 => ?_
  obtain ⟨it, fp, tn, J, H2, rfl, I2, T, st2, f2, ⟨ps, hP, ht3⟩, q⟩ := h2
  refine ⟨I2.nolimit, ?_⟩
  have hPs : s2.heap.get? P = some { cls := .none, data := .fields ps } := I2.hok P _ hP
  have cd : PySem.W.CodeHd s2.heap c P := TB.code.keeps fun b u e => I2.bk b u e
  have nP : ∀ b, H2 b = none → b ≠ P := fun b e z => by
    rw [z, hP] at e
    cases e
  have cont : ∀ (code : Value) (h3 : Heap) (tk : Nat) (ps' : Array Value), Heap.ExtBut P s2.heap h3 → s2.heap.objs.size ≤ h3.objs.size → h3.get? P = some { cls := .none, data := .fields ps' } → (∃ more, ps' = ps ++ more) → TriplesOk ps'.toList →
      wpAny (model X.prog X.w) X.A (builtinsFor X.env.globals X.env.builtins) (fun bi s₄ =>
        ∀ h', h'.Ns s₄.heap.objs.size (fun y => if y = ".0" then some (Value.ref it) else none) → Heap.SameBut s₄.heap.objs.size (s₄.heap.push { cls := .type "frame", data := .dict #[] }) h' →
          Q' (.ref h'.objs.size) { s₄ with
            gens := s₄.gens.push (.fresh (.compStart (.GeneratorExp elt [⟨tg, iter, ifs, 0⟩] scope gpos) 0 (.ref it) .none (genEnv scope (cloFrom X.env.cells scope.names []) s₄.heap.objs.size code bi X.env))),
            toks := s₄.toks + 1 + 1 + 1,
            heap := h'.push { cls := .type "generator", data := .fields #[.int s₄.gens.size 0, .str "<genexpr>" (s₄.toks + 1), .str (X.env.qual ++ "<genexpr>") (s₄.toks + 1 + 1)] } }) X.xe { s2 with heap := h3, toks := tk } := by
    rintro code h3 tk ps' hx hsz hP3 ⟨more, rfl⟩ ht4
    obtain ⟨bm, ob, e1, e2, e3, e4, e5, e6, e7, e8⟩ := TB.bm
    refine wpAny_builtinsFor (m := X.mg) (by rw [I2.ok.glob]; exact (I2.mod.glob.keeps I2.bk).extBut hx TB.gP) e1 e2 (hx _ _ e4 (I2.bk _ _ e5)) e6 e7 e8 ?_
    intro h' hns hsb
    have I3 : Inv X pins σ (upd H2 P (.tbl (ps ++ more))) { s2 with heap := h3, toks := tk } := GxR.inv_tab (g' := s2.gens) (d' := s2.drawn) I2 hP (fun b o hb e => hx b o hb e) hP3 I2.bare
    have lt2 : ∀ b ∈ fp, b < s2.heap.objs.size := fun b hb => by
      obtain ⟨o, e, _⟩ := T.obj _ _ st2 b hb
      exact Heap.lt_size e
    have f3 : ∀ b ∈ fp, FpOk X pins (upd H2 P (.tbl (ps ++ more))) b ∧ b < ({ s2 with heap := h3, toks := tk } : Shared).heap.objs.size := fun b hb => by
      refine ⟨⟨?_, (f2 b hb).2⟩, Nat.lt_of_lt_of_le (lt2 b hb) hsz⟩
      rw [upd_ne (nP b (f2 b hb).1)]
      exact (f2 b hb).1
    have st3 : tn 0 h3 := T.keep _ _ _ st2 fun b hb o e => hx b o (nP b (f2 b hb).1) e
    generalize hs4 : ({ s2 with heap := h3, toks := tk } : Shared) = s4 at I3 f3 hns hsb ⊢
    have h4 : s4.heap = h3 := by rw [← hs4]
    have hsz4 : h'.objs.size = s4.heap.objs.size + 1 := by rw [hsb.1, Heap.size_push]
    have keep' : ∀ b o, s4.heap.get? b = some o → h'.get? b = some o := fun b o e => hsb.extBut b o (Nat.ne_of_lt (Heap.lt_size e)) (Heap.get?_push_of_some _ e)
    generalize hgo : ({ cls := .type "generator", data := .fields #[.int s4.gens.size 0, .str "<genexpr>" (s4.toks + 1), .str (X.env.qual ++ "<genexpr>") (s4.toks + 1 + 1)] } : Obj) = go
    have hGO : GenObj go s4.gens.size := by rw [← hgo]; exact ⟨_, _, rfl, rfl, rfl⟩
    have k5 : ∀ b o, s4.heap.get? b = some o → (h'.push go).get? b = some o := fun b o e => Heap.get?_push_of_some _ (keep' b o e)
    have pg := fun A' => hg A' s4 (upd H2 P (.tbl (ps ++ more))) s4.heap.objs.size (cloFrom X.env.cells scope.names []) code fp
    have pt := fun A' => ht A' s4 (upd H2 P (.tbl (ps ++ more))) s4.heap.objs.size (cloFrom X.env.cells scope.names []) code fp
    have pe := fun A' => he A' s4 (upd H2 P (.tbl (ps ++ more))) s4.heap.objs.size (cloFrom X.env.cells scope.names []) code fp
    generalize hce : genEnv scope (cloFrom X.env.cells scope.names []) s4.heap.objs.size code builtinsNs X.env = cenv at pg pt pe ⊢
    have hscn : cenv.scope = scope := by rw [← hce]; rfl
    generalize hA' : A.over (.compLoop (.GeneratorExp elt [⟨tg, iter, ifs, 0⟩] scope gpos) 0 (.ref it) .none cenv) [] = A'
    have hfrA : A'.frames = some (cenv :: X.stack) := by
      rw [← hA']
      show pushEnvs [cenv] A.frames = _
      rw [near.fr, I2.ok.frames]
      rfl
    have hhd : A'.handled = none := by
      rw [← hA']
      show A.handled = none
      rw [near.hd]
      exact hr.hd
    have rm : Room k A' := by
      refine ⟨hhd, ?_, ?_⟩
      · have := hr.dp
        have := near.dp
        rw [← hA']
        show A.depth + 0 + 1 + 3 * k + 5 < _
        omega
      · have := hr.un
        have := near.un
        rw [← hA']
        show A.units + 0 + 3 + 16 * k + 200 < _
        omega
    have gdA : A'.guards = X.A.guards := by
      rw [← hA']
      show pushGuards [] A.guards = _
      rw [near.gd]
      rfl
    have I5 : Inv (gblk X A' s4 (upd H2 P (.tbl (ps ++ more))) cenv fp) [(h'.objs.size, go)] (wipe σ (own.map (·.2))) (upd H2 P (.tbl (ps ++ more)))
        { s4 with gens := s4.gens.push (.fresh (.compStart (.GeneratorExp elt [⟨tg, iter, ifs, 0⟩] scope gpos) 0 (.ref it) .none cenv)), toks := s4.toks + 1 + 1 + 1, heap := h'.push go } := by
      subst hce
      refine gen_start (it := .ref it) I3 ok nocell hN f3 hhd hfrA rfl (I3.bare.push rfl) k5 (hns.push _) fun p hp => ?_
      have e : p = (h'.objs.size, go) := by simpa using hp
      subst e
      refine ⟨by show s4.heap.objs.size < h'.objs.size; omega, Heap.get?_push_size _ (by rw [← hgo]; rfl), fun v z => ?_⟩
      rw [← hgo] at z
      cases z
    refine hQ J H2 _ _ _ q ⟨⟨_, upd_same, ht4⟩, fun b hb => upd_ne hb⟩ ⟨A', s4, _, cenv, fp, h'.objs.size, s4.gens.size, go, tn, _, rfl, hGO, Array.getElem?_push_size .., rfl, I5, ?_, fun b hb => (f3 b hb).1.1, fun b hb => ?_, T.keep, fun cp σ' H' s' I' => ?_, ?_⟩
    · exact T.keep _ _ _ st3 fun b _ o e => k5 b o (by rw [h4]; exact e)
    · have := (f3 b hb).2
      rw [hsz4]
      exact Nat.lt_succ_of_lt this
    · exact I3.call' (ch := fp) I'.os I'.base I'.hok I'.bare fun b hb => ⟨(f3 b hb).1.2.2.2.1, (f3 b hb).1.2.1, (f3 b hb).1.2.2.2.2.1, (f3 b hb).1.2.2.2.2.2⟩
    · intro α AC End Yd W m n a cp s' turn w hmn hAC hac I' st'
      refine ⟨rfl, ?_⟩
      have loop := seg_gx (A := A) (pos := gpos) (iter := iter) (scope := scope) hA' hc (by rw [hscn]; exact hco) T (pg A' rm gdA) (pt A' rm gdA) (pe A' rm gdA) hAC turn m n 0 a _ s' s' cp hmn w hac (fun p hp => (I'.pin p (List.mem_append_right _ hp)).1) I' st' fun b hb => (f3 b hb).1.1
      show Seg _ A _ _ _ s' _ ((compStart (.GeneratorExp elt [⟨tg, iter, ifs, 0⟩] scope gpos) 0 (.ref it) .none cenv).onRaise (leaving cenv)) [] s'
      unfold compStart
      rw [Sem.onRaise_eq_wrap]
      show Seg _ A _ _ _ s' _ ((ask >>= _).wrap _ _ _ _) [] s'
      refine seg_bind_wrap (wpAny_askSetting ?_)
      split
      · exact seg_again rfl loop
      · first
          | exact seg_bind_wrap (wpAny_rule (seg_bind_wrap (wpAny_standAt (seg_bind_wrap (T.self _ 0 s' _ _ st' (seg_again rfl loop))))))
          | (refine seg_bind_wrap (wpAny_rule ?_); show Seg _ A _ _ _ s' _ ((standAt iter.pos >>= _).wrap _ _ _ _) [] s'; exact seg_bind_wrap (wpAny_standAt (seg_bind_wrap (T.self _ 0 s' _ _ st' (seg_again rfl loop)))))
  cases hf : codeAmong gpos ps.toList with
  | none =>
    refine wpAny_genexprCodeX hcode (cd.code hPs ht3) (cd.tab hPs) hf fun c' h' tk hx hge hlt hco' _ htab' _ => ?_
    obtain ⟨o1, vs, f1, tf, fl, tg, inF, tx, tt, op, _, _, _, _, _, _, _, _, _, htr, _⟩ := hco'
    exact cont _ h' tk _ hx (Nat.le_trans hge (Nat.le_of_lt hlt)) htab'.2 ⟨_, rfl⟩ htr
  | some cv =>
    refine wpAny_genexprCode_hit hcode (cd.code hPs ht3) hf ?_
    exact cont cv s2.heap s2.toks ps (Heap.ExtBut.refl _ _) (Nat.le_refl _) hPs ⟨#[], by simp⟩ ht3
end
/-! ### asking -/
section
variable {α : Type} {X : Cx} {A A' : Around} {s_0 : Shared} {H_0 : Hp} {cenv : Env} {fp : List Addr} {tn : Nat → Heap → Prop} {AC : α → List (Addr × Obj) → Prop} {End : α → Hp → Prop} {Yd : α → V → Hp → (α → Hp → Prop) → Prop} {ga : Addr} {gn n : Nat} {go : Obj}
theorem next_gx2 {gs : GenState} {s : Shared} {Q : Option Value → Shared → Prop} {E : Value → Shared → Prop} (hh : A.handled = none) (hroom : A.depth < recursionLimit) (hl : s.heap.NoLimit) (hG : GenObj go gn) (e : s.heap.get? ga = some go) (hgs : s.gens[gn]? = some gs)
    (hgo : gs.Goes (model X.prog X.w) A.in1 (RG (gblk X A' s_0 H_0 cenv fp) AC End) (YG (gblk X A' s_0 H_0 cenv fp) fp tn AC Yd) n (.send .none) (s.setGen gn .running))
    (item : ∀ (a : α) (x : V) (σ : L2.St) (H : Hp) (i : Nat) (cp : List (Addr × Obj)) (Nx : α → Hp → Prop) (v : Value) (s1 : Shared) (gs' : GenState), RelV x v → AC a cp → (∀ p ∈ cp, s.heap.get? p.1 = some p.2) → Inv (gblk X A' s_0 H_0 cenv fp) cp σ H s1 → tn i s1.heap → Yd a x H Nx → s1.gens[gn]? = some gs' →
      (∀ a' cp' s', Nx a' H → AC a' cp' → Inv (gblk X A' s_0 H_0 cenv fp) cp' σ H s' → tn i s'.heap → ∃ m, n = m + 1 ∧ gs'.Goes (model X.prog X.w) A.in1 (RG (gblk X A' s_0 H_0 cenv fp) AC End) (YG (gblk X A' s_0 H_0 cenv fp) fp tn AC Yd) m (.send .none) s') → Q (some v) s1)
    (done : ∀ (a : α) (σ : L2.St) (H : Hp) (cp : List (Addr × Obj)) (s1 : Shared), AC a cp → (∀ p ∈ cp, s.heap.get? p.1 = some p.2) → Inv (gblk X A' s_0 H_0 cenv fp) cp σ H s1 → End a H → Q none s1) :
    wpAny (model X.prog X.w) A (pyNext (.ref ga)) Q E s := by
  have hgl : gn < s.gens.size := (Array.getElem?_eq_some_iff.mp hgs).1
  refine GenW.wpAny_gsz (n := gn + 1) hgl (next_genG (Er := fun _ _ => False) hh hl hroom (hG.isGen e) hgs hgo (fun v s₁ gs' hbare hv => ?_) (fun s₁ hp h' hk => ?_) fun e s₁ he => he.elim)
  · intro hsz
    obtain ⟨a, x, σ, H, i, cp, Nx, r, hac, tie, I, st, nf, hy, kap⟩ := hv
    have hsz1 : gn < s₁.gens.size := by
      have q : (s₁.setGen gn gs').gens.size = s₁.gens.size := GenW.setGen_size _ _ _
      have hsz' : gn + 1 ≤ (s₁.setGen gn gs').gens.size := hsz
      omega
    refine item a x σ H i cp Nx v (s₁.setGen gn gs') gs' r hac tie (inv_moved I rfl (allBare_setGen I.bare hbare) fun _ _ q => q) st hy (setGen_at hsz1) fun a' cp' s' nx hac' I' st' => ?_
    have z := kap a' cp' s' nx hac' I' st'
    cases n with
    | zero => exact z.elim
    | succ m => exact ⟨m, rfl, z⟩
  · intro _
    obtain ⟨a, σ, H, cp, hac, tie, I, q⟩ := hp
    exact done a σ H cp _ hac tie (inv_moved I rfl (allBare_setGen I.bare rfl) hk) q
theorem next_gx {gs : GenState} {s : Shared} {Q : Option Value → Shared → Prop} {E : Value → Shared → Prop} (hh : A.handled = none) (hroom : A.depth < recursionLimit) (hl : s.heap.NoLimit) (hG : GenObj go gn) (e : s.heap.get? ga = some go) (hgs : s.gens[gn]? = some gs)
    (hgo : gs.Goes (model X.prog X.w) A.in1 (RG (gblk X A' s_0 H_0 cenv fp) AC End) (YG (gblk X A' s_0 H_0 cenv fp) fp tn AC Yd) n (.send .none) (s.setGen gn .running))
    (item : ∀ (a : α) (x : V) (σ : L2.St) (H : Hp) (i : Nat) (cp : List (Addr × Obj)) (Nx : α → Hp → Prop) (v : Value) (s1 : Shared) (gs' : GenState), RelV x v → AC a cp → Inv (gblk X A' s_0 H_0 cenv fp) cp σ H s1 → tn i s1.heap → Yd a x H Nx → s1.gens[gn]? = some gs' →
      (∀ a' cp' s', Nx a' H → AC a' cp' → Inv (gblk X A' s_0 H_0 cenv fp) cp' σ H s' → tn i s'.heap → ∃ m, n = m + 1 ∧ gs'.Goes (model X.prog X.w) A.in1 (RG (gblk X A' s_0 H_0 cenv fp) AC End) (YG (gblk X A' s_0 H_0 cenv fp) fp tn AC Yd) m (.send .none) s') → Q (some v) s1)
    (done : ∀ (a : α) (σ : L2.St) (H : Hp) (cp : List (Addr × Obj)) (s1 : Shared), AC a cp → Inv (gblk X A' s_0 H_0 cenv fp) cp σ H s1 → End a H → Q none s1) :
    wpAny (model X.prog X.w) A (pyNext (.ref ga)) Q E s :=
  next_gx2 hh hroom hl hG e hgs hgo (fun a x σ H i cp Nx v s1 gs' r hac _ I st hy at_ kap => item a x σ H i cp Nx v s1 gs' r hac I st hy at_ kap) fun a σ H cp s1 hac _ I q => done a σ H cp s1 hac I q
/-- all(..) asks on -/
theorem all_gx {R : Result → Shared → Prop} {Stop : Hp → Prop} {End : Unit → Hp → Prop} (hh : A.handled = none) (hroom : A.depth < recursionLimit) (hG : GenObj go gn)
    (yes : ∀ (σ : L2.St) (H : Hp) (cp : List (Addr × Obj)) (s1 : Shared), Inv (gblk X A' s_0 H_0 cenv fp) cp σ H s1 → End () H → R (.ok (.ret (.bool true))) s1)
    (no : ∀ (σ : L2.St) (H : Hp) (cp : List (Addr × Obj)) (s1 : Shared), Inv (gblk X A' s_0 H_0 cenv fp) cp σ H s1 → Stop H → R (.ok (.ret (.bool false))) s1) :
    ∀ (n : Nat) (s : Shared), s.heap.NoLimit → s.heap.get? ga = some go → (∃ gs, s.gens[gn]? = some gs ∧ gs.Goes (model X.prog X.w) A.in1.in1 (RG (gblk X A' s_0 H_0 cenv fp) (fun _ cp => cp = [(ga, go)]) End)
      (YG (gblk X A' s_0 H_0 cenv fp) fp tn (fun _ cp => cp = [(ga, go)]) (fun _ y H Nx => ∃ b : Bool, y = .bl b ∧ if b = true then Nx () H else Stop H)) n (.send .none) (s.setGen gn .running)) →
      codeAny (model X.prog X.w) A (.builtin "all.loop" ⟨[.ref ga], []⟩) R s := by
  intro n
  induction n with
  | zero =>
    rintro s hl e ⟨gs, hgs, hgo⟩
    refine codeAny_builtin F.entry_all_loop ?_
    rw [Around.under_plainId F.plain_all_loop _]
    show wpAny _ A.in1 (pyNext (.ref ga) >>= _) _ _ s
    refine wpAny_bind (next_gx (A := A.in1) hh hroom hl hG e hgs hgo (fun a x σ H i cp Nx v s1 gs' r hac I st hy at_ kap => ?_) fun a σ H cp s1 hac I q => ?_)
    · obtain ⟨b, rfl, hb⟩ := hy
      cases (show v = Value.bool b from r)
      refine wpAny_bind (wpAny_holding (wpAny_truthy_bool ?_))
      refine wpAny_bind (wpAny_letGo ?_)
      cases b with
      | true =>
        obtain ⟨m, hm, _⟩ := kap () cp s1 hb hac I st
        cases hm
      | false =>
        simp only [Bool.false_eq_true, if_false] at hb ⊢
        exact wpAny_bind (wpAny_rule (wpAny_pure (no σ H cp s1 I hb)))
    · exact wpAny_bind (wpAny_rule (wpAny_pure (yes σ H cp s1 I q)))
  | succ n ih =>
    rintro s hl e ⟨gs, hgs, hgo⟩
    refine codeAny_builtin F.entry_all_loop ?_
    rw [Around.under_plainId F.plain_all_loop _]
    show wpAny _ A.in1 (pyNext (.ref ga) >>= _) _ _ s
    refine wpAny_bind (next_gx (A := A.in1) hh hroom hl hG e hgs hgo (fun a x σ H i cp Nx v s1 gs' r hac I st hy at_ kap => ?_) fun a σ H cp s1 hac I q => ?_)
    · obtain ⟨b, rfl, hb⟩ := hy
      cases (show v = Value.bool b from r)
      refine wpAny_bind (wpAny_holding (wpAny_truthy_bool ?_))
      refine wpAny_bind (wpAny_letGo ?_)
      cases b with
      | true =>
        simp only [if_true] at hb ⊢
        subst hac
        refine wpAny_pure ⟨plainId_quiet F.plain_all_loop _, ih s1 I.nolimit (I.pin (ga, go) (List.mem_append_right _ List.mem_cons_self)).1 ⟨gs', at_, ?_⟩⟩
        obtain ⟨m, hm, z⟩ := kap () [(ga, go)] (s1.setGen gn .running) hb rfl (inv_moved I rfl (allBare_setGen I.bare rfl) fun _ _ q => q) st
        cases hm
        exact z
      | false =>
        simp only [Bool.false_eq_true, if_false] at hb ⊢
        exact wpAny_bind (wpAny_rule (wpAny_pure (no σ H cp s1 I hb)))
    · exact wpAny_bind (wpAny_rule (wpAny_pure (yes σ H cp s1 I q)))
end
section
variable {X : Cx}
/-- all(elt for tg in iter ..) -/
def tAllX (P : Addr) (wi : TI) (g : TG) (tt : TT) (te : TE) (vs : List Nat) : TE := fun σ H Q => wi σ H fun J H1 => GxR.TabG H1 P ∧ ∀ H2, GxR.Tabbed P H1 H2 → ∃ W : Nat → Nat → Unit → Hp → Prop, (∃ m, W 0 m () H2) ∧
  tGx J g tt te (wipe σ vs) vs (fun _ H => Q (.bl true) H) (fun _ y H Nx => ∃ b : Bool, y = .bl b ∧ if b = true then Nx () H else Q (.bl false) H) W
theorem pe_allX {c P : Addr} {elt tg iter : Expr} {ifs : List Expr} {p pos gpos : Pos} {scope : Scope} {own : List (Str × Nat)} {wi : TI} {g : TG} {tt : TT} {te : TE} {k : Nat}
    (hr : Room (k + 1) X.A) (hc : X.calm = true) (hN : X.N.Nodup) (hgl : Gl X "all") (hm : X.mg "all" = none) (hb : bootBuiltins "all" = some (.builtin "all")) (TB : GxR.TabB X.base X.mg c P) (hcode : X.env.code = .ref c)
    (hco : scope.isCoroutine = false) (hdot : scope.names.lookup (".0" : Str) = some NameKind.local) (nocell : ∀ y ∈ scope.names, y.2 ≠ .cell) (ok : BlkOk X.N X.env.scope scope own) (hi : PI X tg iter wi)
    (hg : ∀ (A' : Around) (s : Shared) (H : Hp) (C : Addr) (cl : List (Str × Addr)) (code : Value) (fp : List Addr), Room k A' → A'.guards = X.A.guards → PG (gblk X A' s H (genEnv scope cl C code builtinsNs X.env) fp) tg g)
    (ht : ∀ (A' : Around) (s : Shared) (H : Hp) (C : Addr) (cl : List (Str × Addr)) (code : Value) (fp : List Addr), Room k A' → A'.guards = X.A.guards → PTs (gblk X A' s H (genEnv scope cl C code builtinsNs X.env) fp) ifs tt)
    (he : ∀ (A' : Around) (s : Shared) (H : Hp) (C : Addr) (cl : List (Str × Addr)) (code : Value) (fp : List Addr), Room k A' → A'.guards = X.A.guards → PE (gblk X A' s H (genEnv scope cl C code builtinsNs X.env) fp) elt te)
    (hs : ∀ v, genFold iter X.env v = pure v)
    (hst : starEach [.GeneratorExp elt [⟨tg, iter, ifs, 0⟩] scope gpos] X.env = (false, eval (.GeneratorExp elt [⟨tg, iter, ifs, 0⟩] scope gpos) X.env) :: starEach [] X.env := by rfl) :
    PE X (.Call (.Name "all" p) [.GeneratorExp elt [⟨tg, iter, ifs, 0⟩] scope gpos] [] pos) (tAllX P wi g tt te (own.map (·.2))) := by
  refine ⟨fun pins s σ H Q I h => ?_⟩
  refine wpAny_Call_Name_kw (ld_blt I hgl hm hb ?_)
  refine PyProof.Rows.callWith_builtin1 ?_ hst (by rfl)
  rw [hst]
  show wpAny _ _ (spliced ((false, eval (.GeneratorExp elt [⟨tg, iter, ifs, 0⟩] scope gpos) X.env) :: backTo pos (starEach [] X.env))) _ _ s
  refine Calls.spliced_cons (gx_make (A := X.A.in1.in1) hr ⟨rfl, rfl, rfl, rfl, (by show X.A.units + 1 + 1 ≤ _; omega)⟩ hc hN TB hcode hco hdot nocell ok hi hg ht he hs I h fun J H1 H2 u s5 hR hT hG => ?_)
  obtain ⟨A', s_0, H_0, cenv, fp, ga, gn, go, tn, gs, rfl, hGO, hgs, hbare, I5, st5, nf, hlt, keep, back, goes⟩ := hG
  obtain ⟨W, ⟨m, w0⟩, turn⟩ := hR H2 hT
  refine Calls.spliced_nil ?_
  have pin5 := (I5.pin (ga, go) (List.mem_append_right _ List.mem_cons_self)).1
  refine call_function_tree F.kind_all F.plain_all F.entry_all (F.args_all1 _) ?_
  unfold Builtin.«all»
  refine wpAny_bind (m := oneArg "all" _) (wpAny_pure ?_)
  refine wpAny_bind (wpAny_pyIter_gen (hGO.isGen pin5) ?_)
  refine wpAny_pure ⟨plainId_quiet F.plain_all_loop _, all_gx (A' := A') (s_0 := s_0) (H_0 := H_0) (cenv := cenv) (fp := fp) (tn := tn) (go := go) (gn := gn) (Stop := fun H => Q (.bl false) H) (End := fun _ H => Q (.bl true) H) hr.hd hr.depth hGO
    (fun σ' H' cp s1 I1 q => ⟨.bl true, H', back _ _ _ _ I1, rfl, q⟩) (fun σ' H' cp s1 I1 q => ⟨.bl false, H', back _ _ _ _ I1, rfl, q⟩) (m + 1) s5 I5.nolimit pin5 ⟨gs, hgs, ?_⟩⟩
  refine goes Unit _ _ _ W m (m + 1) () [(ga, go)] _ turn w0 (Nat.lt_succ_self _) (fun a cp hac p hp b hb z => ?_) rfl (inv_moved I5 rfl (allBare_setGen I5.bare rfl) fun _ _ q => q) st5
  subst hac
  have e : p = (ga, go) := by simpa using hp
  subst e
  exact absurd (hlt b hb) (by rw [← z]; exact Nat.lt_irrefl _)
end
/-! ### tuple(..) -/
section
variable {X : Cx} {A A' : Around} {s_0 : Shared} {H_0 : Hp} {cenv : Env} {fp : List Addr} {tn : Nat → Heap → Prop} {ga S : Addr} {gn n : Nat} {go : Obj}
/-- the asker's list S holds what is out -/
def ACl (ga : Addr) (go : Obj) (S : Addr) (ys : List V) (cp : List (Addr × Obj)) : Prop := ∃ (acc : Array Value) (c : Nat), cp = [(ga, go), (S, lstObj acc c)] ∧ Vals ys acc.toList
def YdL (ys : List V) (y : V) (H : Hp) (Nx : List V → Hp → Prop) : Prop := ys.length < sizeLine ∧ Nx (ys ++ [y]) H
theorem ext_gx {R : Result → Shared → Prop} {End : List V → Hp → Prop} {res : Value} (hh : A.handled = none) (hroom : A.depth < recursionLimit) (hG : GenObj go gn) (hSa : S ≠ ga) (far : (gblk X A' s_0 H_0 cenv fp).s_0.heap.objs.size ≤ S) (hSc : ∀ x c, cenv.cells.lookup x = some c → c ≠ S)
    (keep : ∀ i h h', tn i h → (∀ b ∈ fp, ∀ o, h.get? b = some o → h'.get? b = some o) → tn i h') (hSf : ∀ b ∈ fp, b ≠ S)
    (yes : ∀ (σ : L2.St) (H : Hp) (ys : List V) (acc : Array Value) (c : Nat) (s1 : Shared), Inv (gblk X A' s_0 H_0 cenv fp) [(ga, go), (S, lstObj acc c)] σ H s1 → Vals ys acc.toList → End ys H → R (.ok (.ret res)) s1) :
    ∀ (n : Nat) (s : Shared), s.heap.NoLimit → s.heap.get? ga = some go → (∃ gs, s.gens[gn]? = some gs ∧ gs.Goes (model X.prog X.w) A.in1.in1 (RG (gblk X A' s_0 H_0 cenv fp) (ACl ga go S) End)
      (YG (gblk X A' s_0 H_0 cenv fp) fp tn (ACl ga go S) YdL) n (.send .none) (s.setGen gn .running)) →
      codeAny (model X.prog X.w) A (.builtin "list.extend.loop" ⟨[.ref S, .ref ga, res], []⟩) R s := by
  intro n
  induction n with
  | zero =>
    rintro s hl e ⟨gs, hgs, hgo⟩
    refine codeAny_builtin F.entry_extend_loop ?_
    rw [Around.under_plainId F.plain_extend_loop _]
    show wpAny _ A.in1 (pyNext (.ref ga) >>= _) _ _ s
    refine wpAny_bind (next_gx (A := A.in1) hh hroom hl hG e hgs hgo (fun ys x σ H i cp Nx v s1 gs' r hac I st hy at_ kap => ?_) fun ys σ H cp s1 hac I q => ?_)
    · obtain ⟨acc, c, rfl, rv⟩ := hac
      have pS := I.pin (S, lstObj acc c) (List.mem_append_right _ (List.mem_cons_of_mem _ List.mem_cons_self))
      have I0 : Inv (gblk X A' s_0 H_0 cenv fp) [(ga, go)] σ H s1 := I.pins_of fun p hp => I.pin p (List.mem_append_right _ (by rw [List.mem_singleton.mp hp]; exact List.mem_cons_self))
      have I1 := I0.turned (t' := s1.toks) (h' := s1.heap.update S (Obj.mapSeq (·.push v))) (it := S) (fun b o hb q => (Heap.get?_update_other _ _ (Ne.symm hb)).trans q) pS.2.1 pS.2.2.1 (.inr far) hSc (fun p hp => by rw [List.mem_singleton.mp (show p ∈ [(ga, go)] by simpa using hp)]; exact Ne.symm hSa)
      have e2 := Heap.get?_update_self (Obj.mapSeq (·.push v)) pS.1 rfl
      obtain ⟨m, hm, _⟩ := kap (ys ++ [x]) [(ga, go), (S, _)] _ hy.2 ⟨acc.push v, _, rfl, by rw [Array.toList_push]; exact rv.append (.cons r .nil)⟩ (I1.pins_of fun p hp => by
        rcases List.mem_cons.mp hp with z | z
        · rw [z]; exact I1.pin (ga, go) (List.mem_append_right _ List.mem_cons_self)
        · rw [List.mem_singleton.mp z]; exact ⟨e2, pS.2.1, pS.2.2.1, pS.2.2.2.1, fun v q => by cases q⟩) (keep _ _ _ st fun b hb o q => (Heap.get?_update_other _ _ (Ne.symm (hSf b hb))).trans q)
      cases hm
    · obtain ⟨acc, c, rfl, rv⟩ := hac
      exact wpAny_pure (yes σ H ys acc c s1 I rv q)
  | succ n ih =>
    rintro s hl e ⟨gs, hgs, hgo⟩
    refine codeAny_builtin F.entry_extend_loop ?_
    rw [Around.under_plainId F.plain_extend_loop _]
    show wpAny _ A.in1 (pyNext (.ref ga) >>= _) _ _ s
    refine wpAny_bind (next_gx (A := A.in1) hh hroom hl hG e hgs hgo (fun ys x σ H i cp Nx v s1 gs' r hac I st hy at_ kap => ?_) fun ys σ H cp s1 hac I q => ?_)
    · obtain ⟨acc, c, rfl, rv⟩ := hac
      have pS := I.pin (S, lstObj acc c) (List.mem_append_right _ (List.mem_cons_of_mem _ List.mem_cons_self))
      have I0 : Inv (gblk X A' s_0 H_0 cenv fp) [(ga, go)] σ H s1 := I.pins_of fun p hp => I.pin p (List.mem_append_right _ (by rw [List.mem_singleton.mp hp]; exact List.mem_cons_self))
      have I1 := I0.turned (t' := s1.toks) (h' := s1.heap.update S (Obj.mapSeq (·.push v))) (it := S) (fun b o hb q => (Heap.get?_update_other _ _ (Ne.symm hb)).trans q) pS.2.1 pS.2.2.1 (.inr far) hSc (fun p hp => by rw [List.mem_singleton.mp (show p ∈ [(ga, go)] by simpa using hp)]; exact Ne.symm hSa)
      have e2 := Heap.get?_update_self (Obj.mapSeq (·.push v)) pS.1 rfl
      have hln := rv.length
      have hlt : acc.size < sizeLine := by
        have := hy.1
        rw [hln] at this
        simpa using this
      have pG := I1.pin (ga, go) (List.mem_append_right _ List.mem_cons_self)
      show wpAny _ A.in1 (updateSeq S (·.push v) >>= _) _ _ _
      refine wpAny_bind ?_
      refine wpAny_updateSeq pS.1 rfl (wpAny_pure ⟨plainId_quiet F.plain_extend_loop _, ih _ I1.nolimit pG.1 ⟨gs', at_, ?_⟩⟩) (Nat.le_of_lt hlt) (by show (acc.push v).size ≤ sizeLine + 1; rw [Array.size_push]; omega)
      obtain ⟨m, hm, z⟩ := kap (ys ++ [x]) [(ga, go), (S, _)] (({ s1 with heap := s1.heap.update S (Obj.mapSeq (·.push v)) } : Shared).setGen gn .running) hy.2 ⟨acc.push v, _, rfl, by rw [Array.toList_push]; exact rv.append (.cons r .nil)⟩ (inv_moved (I1.pins_of fun p hp => by
        rcases List.mem_cons.mp hp with z | z
        · rw [z]; exact pG
        · rw [List.mem_singleton.mp z]; exact ⟨e2, pS.2.1, pS.2.2.1, pS.2.2.2.1, fun v q => by cases q⟩) rfl (allBare_setGen (s := { s1 with heap := s1.heap.update S (Obj.mapSeq (·.push v)) }) I1.bare rfl) fun _ _ q => q) (keep _ _ _ st fun b hb o q => (Heap.get?_update_other _ _ (Ne.symm (hSf b hb))).trans q)
      cases hm
      exact z
    · obtain ⟨acc, c, rfl, rv⟩ := hac
      exact wpAny_pure (yes σ H ys acc c s1 I rv q)
end
section
variable {X : Cx} {pins : List (Addr × Obj)} {σ : L2.St} {s5 : Shared} {J : It} {g : TG} {tt : TT} {te : TE} {vs : List Nat} {H4 : Hp} {u : Value}
/-- all that a generator hands out, in a list of the asker's own -/
theorem collect_gx {A : Around} {E : Value → Shared → Prop} {Q : List Value → Shared → Prop} {End : List V → Hp → Prop} {W : Nat → Nat → List V → Hp → Prop} {m : Nat} (hh : A.handled = none) (hroom : A.depth < recursionLimit) (G : Gx X pins σ A.in1.in1 J g tt te vs H4 u s5)
    (w0 : W 0 m [] H4) (turn : tGx J g tt te (wipe σ vs) vs End YdL W)
    (hQ : ∀ (s' : Shared) (acc : Array Value) (ys : List V) (H' : Hp), Inv X pins σ H' s' → Vals ys acc.toList → End ys H' → Q acc.toList s') : wpAny (model X.prog X.w) A (collect u) Q E s5 := by
  obtain ⟨A', s_0, H_0, cenv, fp, ga, gn, go, tn, gs, rfl, hGO, hgs, hbare, I5, st5, nf, hlt, keep, back, goes⟩ := G
  have pin5 := I5.pin (ga, go) (List.mem_append_right _ List.mem_cons_self)
  have glt : ga < s5.heap.objs.size := Heap.lt_size pin5.1
  have hSI : s5.heap.objs.size ≠ ga := Nat.ne_of_gt glt
  unfold collect
  refine wpAny_bind (wpAny_runValue (codeAny_builtin F.entry_proto_collect ?_))
  rw [Around.under_plainId F.plain_proto_collect _]
  show wpAny _ A.in1 (newList [] >>= fun l => again (.builtin "list.__iadd__" ⟨[l, .ref ga], []⟩)) _ _ s5
  refine wpAny_bind (wpAny_newObj_type ?_)
  refine wpAny_pure ⟨plainId_quiet F.plain_list_iadd _, codeAny_builtin F.entry_list_iadd ?_⟩
  rw [Around.under_plainId F.plain_list_iadd _]
  show wpAny _ A.in1 (Builtin.List.listExtendWith (.ref s5.heap.objs.size) (.ref ga) (.ref s5.heap.objs.size)) _ _ _
  unfold Builtin.List.listExtendWith
  have k1 : ∀ b o, s5.heap.get? b = some o → (s5.heap.push { cls := .type "list", data := .seq ([] : List Value).toArray }).get? b = some o := fun b o e => Heap.get?_push_of_some _ e
  have hT : Shared.TypeIs { s5 with heap := s5.heap.push { cls := .type "list", data := .seq ([] : List Value).toArray } } (.ref ga) "generator" := Heap.IsGen.typeIs (s := { s5 with heap := _ }) (hGO.isGen (k1 _ _ pin5.1))
  refine wpAny_bind (wpAny_typeOf hT ?_)
  have h1 : Builtin.List.listSameRef (.ref s5.heap.objs.size) (.ref ga) = false := by simp [Builtin.List.listSameRef, hSI]
  have h2 : (Value.type "generator" == Value.type "list") = false := by decide
  have h3 : (Value.type "generator" == Value.type "tuple") = false := by decide
  simp only [h1, h2, h3, Bool.or_false, Bool.false_eq_true, if_false]
  refine wpAny_bind (wpAny_pyIter_gen (s := { s5 with heap := _ }) (hGO.isGen (k1 _ _ pin5.1)) ?_)
  refine wpAny_bind (wpAny_holding ?_)
  unfold Builtin.List.listLengthHint
  refine wpAny_bind (wpAny_specialOf hT F.gen_no_len ?_)
  show wpAny _ A.in1 (specialOf (Value.ref ga) (Str.ofString "__length_hint__") >>= _) _ _ _
  refine wpAny_bind (wpAny_specialOf hT F.gen_no_hint ?_)
  refine wpAny_pure ?_
  show wpAny _ A.in1 (rule "list.extend.makes-room" >>= fun _ => Builtin.List.listTouch (.ref s5.heap.objs.size) >>= fun _ =>
    again (.builtin "list.extend.loop" ⟨[.ref s5.heap.objs.size, .ref ga, .ref s5.heap.objs.size], []⟩)) _ _ _
  refine wpAny_bind (wpAny_rule ?_)
  have hS₁ : (s5.heap.push { cls := .type "list", data := .seq ([] : List Value).toArray }).get? s5.heap.objs.size = some { cls := .type "list", data := .seq ([] : List Value).toArray } := Heap.get?_push_size _ rfl
  refine wpAny_bind ?_
  show wpAny _ A.in1 (updateSeq s5.heap.objs.size (·.push .none) >>= fun _ => updateSeq s5.heap.objs.size (·.pop)) _ _ _
  refine wpAny_bind (wpAny_updateSeq hS₁ rfl ?_)
  have hS₂ := Heap.get?_update_self (Obj.mapSeq (·.push Value.none)) hS₁ rfl
  refine wpAny_updateSeq hS₂ rfl ?_
  have hS₃ := Heap.get?_update_self (Obj.mapSeq (·.pop)) hS₂ rfl
  obtain ⟨c3, hS₄⟩ : ∃ c, (((s5.heap.push { cls := .type "list", data := .seq ([] : List Value).toArray }).update s5.heap.objs.size (Obj.mapSeq (·.push Value.none))).update s5.heap.objs.size (Obj.mapSeq (·.pop))).get? s5.heap.objs.size = some (lstObj #[] c) := ⟨_, hS₃⟩
  have k3 : ∀ b o, s5.heap.get? b = some o → (((s5.heap.push { cls := .type "list", data := .seq ([] : List Value).toArray }).update s5.heap.objs.size (Obj.mapSeq (·.push Value.none))).update s5.heap.objs.size (Obj.mapSeq (·.pop))).get? b = some o :=
    fun b o e => (Heap.get?_update_other _ _ (Ne.symm (Nat.ne_of_lt (Heap.lt_size e)))).trans ((Heap.get?_update_other _ _ (Ne.symm (Nat.ne_of_lt (Heap.lt_size e)))).trans (k1 b o e))
  have fS : FpOk (gblk X A' s_0 H_0 cenv fp) [(ga, go)] H4 s5.heap.objs.size := I5.fpOk (Nat.le_refl _) (I5.hok.fresh (Nat.le_refl _))
  have hfS : ∀ b ∈ fp, b ≠ s5.heap.objs.size := fun b hb => Nat.ne_of_lt (Nat.lt_trans (hlt b hb) glt)
  have I6 := inv_moved (s' := { s5 with heap := ((s5.heap.push { cls := .type "list", data := .seq ([] : List Value).toArray }).update s5.heap.objs.size (Obj.mapSeq (·.push Value.none))).update s5.heap.objs.size (Obj.mapSeq (·.pop)) }) I5 rfl I5.bare k3
  refine wpAny_pure ⟨plainId_quiet F.plain_extend_loop _, ext_gx (A := A) (A' := A') (s_0 := s_0) (H_0 := H_0) (cenv := cenv) (fp := fp) (tn := tn) (go := go) (gn := gn) (End := End) hh hroom hGO hSI ?_ fS.2.2.2.2.1 keep hfS
    (fun σ' H' ys acc c s1 I1 rv q => ?_) (m + 1) _ I6.nolimit (k3 _ _ pin5.1) ⟨gs, hgs, ?_⟩⟩
  · exact Nat.le_trans I5.sz (Nat.le_refl _)
  · show wpAny _ A (load s5.heap.objs.size >>= _) _ _ s1
    have pS := (I1.pin (s5.heap.objs.size, lstObj acc c) (List.mem_append_right _ (List.mem_cons_of_mem _ List.mem_cons_self))).1
    refine wpAny_bind (wpAny_load pS ?_)
    exact wpAny_pure (hQ s1 acc ys H' (back _ _ _ _ I1) rv q)
  · refine goes (List V) (ACl ga go s5.heap.objs.size) End YdL W m (m + 1) [] [(ga, go), (s5.heap.objs.size, lstObj #[] c3)] _ turn w0 (Nat.lt_succ_self _) (fun ys cp hac p hp b hb z => ?_) ⟨#[], c3, rfl, .nil⟩
      (inv_moved (I6.pins_of fun p hp => ?_) rfl (allBare_setGen (s := { s5 with heap := _ }) I5.bare rfl) fun _ _ q => q) (keep _ _ _ st5 fun b hb o q => k3 b o q)
    · obtain ⟨acc, c, rfl, _⟩ := hac
      rcases List.mem_cons.mp hp with e | e
      · rw [e] at z
        exact absurd (hlt b hb) (by rw [← z]; exact Nat.lt_irrefl _)
      · rw [List.mem_singleton.mp e] at z
        exact hfS b hb z.symm
    · rcases List.mem_cons.mp hp with e | e
      · rw [e]
        exact I6.pin (ga, go) (List.mem_append_right _ List.mem_cons_self)
      · rw [List.mem_singleton.mp e]
        exact ⟨hS₄, fS.1, fS.2.1, fS.2.2.1, fun v q => by cases q⟩
end
section
variable {X : Cx}
/-- tuple(elt for tg in iter ..) -/
def tTupX (P : Addr) (wi : TI) (g : TG) (tt : TT) (te : TE) (vs : List Nat) : TE := fun σ H Q => wi σ H fun J H1 => GxR.TabG H1 P ∧ ∀ H2, GxR.Tabbed P H1 H2 → ∃ W : Nat → Nat → List V → Hp → Prop, (∃ m, W 0 m [] H2) ∧
  tGx J g tt te (wipe σ vs) vs (fun ys H => ys.length ≤ sizeLine ∧ ∀ p, H p = none → Q (.ref p) (upd H p (.tup ys))) YdL W
theorem pe_tupX {c P : Addr} {elt tg iter : Expr} {ifs : List Expr} {p pos gpos : Pos} {scope : Scope} {own : List (Str × Nat)} {wi : TI} {g : TG} {tt : TT} {te : TE} {k : Nat}
    (hr : Room (k + 1) X.A) (hc : X.calm = true) (hN : X.N.Nodup) (hgl : Gl X "tuple") (hm : X.mg "tuple" = none) (hb : bootBuiltins "tuple" = some (.type "tuple")) (TB : GxR.TabB X.base X.mg c P) (hcode : X.env.code = .ref c)
    (hco : scope.isCoroutine = false) (hdot : scope.names.lookup (".0" : Str) = some NameKind.local) (nocell : ∀ y ∈ scope.names, y.2 ≠ .cell) (ok : BlkOk X.N X.env.scope scope own) (hi : PI X tg iter wi)
    (hg : ∀ (A' : Around) (s : Shared) (H : Hp) (C : Addr) (cl : List (Str × Addr)) (code : Value) (fp : List Addr), Room k A' → A'.guards = X.A.guards → PG (gblk X A' s H (genEnv scope cl C code builtinsNs X.env) fp) tg g)
    (ht : ∀ (A' : Around) (s : Shared) (H : Hp) (C : Addr) (cl : List (Str × Addr)) (code : Value) (fp : List Addr), Room k A' → A'.guards = X.A.guards → PTs (gblk X A' s H (genEnv scope cl C code builtinsNs X.env) fp) ifs tt)
    (he : ∀ (A' : Around) (s : Shared) (H : Hp) (C : Addr) (cl : List (Str × Addr)) (code : Value) (fp : List Addr), Room k A' → A'.guards = X.A.guards → PE (gblk X A' s H (genEnv scope cl C code builtinsNs X.env) fp) elt te)
    (hs : ∀ v, genFold iter X.env v = pure v)
    (hst : starEach [.GeneratorExp elt [⟨tg, iter, ifs, 0⟩] scope gpos] X.env = (false, eval (.GeneratorExp elt [⟨tg, iter, ifs, 0⟩] scope gpos) X.env) :: starEach [] X.env := by rfl) :
    PE X (.Call (.Name "tuple" p) [.GeneratorExp elt [⟨tg, iter, ifs, 0⟩] scope gpos] [] pos) (tTupX P wi g tt te (own.map (·.2))) := by
  refine ⟨fun pins s σ H Q I h => ?_⟩
  refine wpAny_Call_Name_kw (ld_blt I hgl hm hb ?_)
  refine PyProof.Rows.callWith_type1 ?_ hst (by rfl)
  rw [hst]
  show wpAny _ _ (spliced ((false, eval (.GeneratorExp elt [⟨tg, iter, ifs, 0⟩] scope gpos) X.env) :: backTo pos (starEach [] X.env))) _ _ s
  refine Calls.spliced_cons (gx_make (A := X.A.in1.in1.in1.in1) hr ⟨rfl, rfl, rfl, rfl, (by show X.A.units + 1 + 1 + 1 + 1 ≤ _; omega)⟩ hc hN TB hcode hco hdot nocell ok hi hg ht he hs I h fun J H1 H2 u s5 hR hT hG => ?_)
  obtain ⟨W, ⟨m, w0⟩, turn⟩ := hR H2 hT
  refine Calls.spliced_nil ?_
  have ⟨A', s_0, H_0, cenv, fp, ga, gn, go, tn, gs, eu, hGO, hgs, hbare, I5, st5, nf, hlt, keep, back, goes⟩ := hG
  have pin5 := (I5.pin (ga, go) (List.mem_append_right _ List.mem_cons_self)).1
  rw [eu] at hG ⊢
  refine callType_codes (Q₁ := fun obj s₁ => s₁.TypeIs obj "tuple" ∧ EP X pins σ Q obj s₁) F.called_tuple (F.typeCall_tuple_1 _) F.entry_object_init ?_ fun obj s₁ h₁ =>
    ⟨h₁.1, F.args_object_init_2 obj _, object_init_meets F.called_tuple.init.lookup F.called_tuple.made (by decide) X.prog X.w X.A.in1 _ s₁ ⟨h₁.1, rfl, h₁.2⟩⟩
  refine codeAny_of_tree ?_
  show wpAny _ X.A.in1.in1 (do checkBuiltinCall "tuple.__new__" ⟨[.type "tuple", .ref ga], []⟩; again (.builtin "tuple.__new__" ⟨[.type "tuple", .ref ga], []⟩)) _ _ s5
  refine wpAny_bind (wpAny_of_eq (F.newCall_tuple_1 _) (wpAny_pure ⟨plainId_quiet F.plain_tuple_new _, codeAny_builtin F.entry_tuple_new ?_⟩))
  rw [Around.under_plainId F.plain_tuple_new _]
  have hsub := sub_tuple_self
  have hinit := init_tuple_lookup
  have hmh := madeHere_tuple
  have hTI : s5.TypeIs (.ref ga) "generator" := (hGO.isGen pin5).typeIs
  have col : ∀ {Q0 : List Value → Shared → Prop} {E0 : Value → Shared → Prop}, (∀ (s' : Shared) (acc : Array Value), (∃ (ys : List V) (H' : Hp), Inv X pins σ H' s' ∧ Vals ys acc.toList ∧ ys.length ≤ sizeLine ∧ ∀ p, H' p = none → Q (.ref p) (upd H' p (.tup ys))) → Q0 acc.toList s') →
      wpAny (model X.prog X.w) X.A.in1.in1 (collect (.ref ga)) Q0 E0 s5 := fun hq => collect_gx hr.hd hr.depth hG w0 turn (fun s' acc ys H' I' rv q => hq s' acc ⟨ys, H', I', rv, q.1, q.2⟩)
  wp_walk using wpAny_typeOf hTI, col
  rintro s' acc ⟨ys, H', I', rv, small, q⟩
  show wpAny _ _ (Builtin.Tuple.tupleExact acc.toList.toArray >>= fun v => ret v) _ _ _
  unfold Builtin.Tuple.tupleExact
  refine wpAny_bind (wpAny_newObj_type ?_ (by show acc.toList.toArray.size ≤ sizeLine; rw [List.size_toArray, ← rv.length]; exact small))
  refine wpAny_pure ?_
  have free : H' s'.heap.objs.size = none := I'.hok.fresh (Nat.le_refl _)
  refine ⟨⟨_, Heap.get?_push_size _ rfl, rfl⟩, .ref s'.heap.objs.size, upd H' s'.heap.objs.size (.tup ys), I'.laid (t' := s'.toks) (fun b u z => Heap.get?_push_of_some _ z) (Nat.le_refl _) ⟨small, acc.toList, rv, ?_⟩, rfl, q _ free⟩
  exact ⟨_, Heap.get?_push_size _ rfl, rfl, 0, rfl⟩
end
/-! ### a def by its body, its code object known -/
theorem okC {P : Program} {w : World} {K : PySem.W.Frag} {mg : Str → Option Value} {base : Heap} {x qual : Str} {st : Stmt} {f : Addr} {fd : FuncData} {N ps : List Str} {k : Nat} {sp : Sp} (F : Fun K x qual st f fd) (S : FnScope N ps (defScope st)) (len : ∀ vs H Q E, sp vs H Q E → vs.length = ps.length)
    (body : ∀ (A : Around) (outer : List Env) (s : Shared) (H : Hp) (vs : List V) (Q : VK) (E : XK), Room k (A.deeper (envOfC qual (defScope st) s.heap.objs.size f fd.code)) → sp vs H Q E →
      ∃ t, PSs (cxOf CX0 P w K mg base N qual (defScope st) f fd.code A outer s H E).nox (defBody st) t ∧ t { nx := fun _ H' => Q .non H', rt := Q } (start N vs) H) : FnOk P w K mg base CX0 (k + 1) f fd ps sp := by
  obtain ⟨oc, od, kV, doc, pm, an, cdv, ct, osl, rfl, lk, hcd⟩ := F.ex
  refine fn_of lk hcd S len fun A outer s H vs Q E hr hsp => ?_
  obtain ⟨t, h, q⟩ := body A outer s H vs Q E hr hsp
  exact ⟨t, h.nox, q⟩
/-! ### from the head's facts -/
theorem fun_of {K : PySem.W.Frag} {x qual : Str} {st : Stmt} {f : Addr} {fd : FuncData} (F : FunD K x qual (defArgs st) (defBody st) (defScope st) [] [] f fd) : Fun K x qual st f fd := by
  obtain ⟨oc, od, dV, kV, doc, pm, an, cdv, ct, osl, rfl, lk, hcd, hd, _⟩ := F.ex
  rcases hd with ⟨_, rfl⟩ | ⟨z, _⟩
  · exact ⟨⟨oc, od, kV, doc, pm, an, cdv, ct, osl, rfl, lk, hcd⟩, F.kp⟩
  · exact absurd rfl z
theorem code_of {K : PySem.W.Frag} {x qual : Str} {st : Stmt} {p : He.Defn} {fd : FuncData} (F : Fun K x qual st (He.fAd K p) fd) : fd.code = .ref (He.cT K p).1 := by
  obtain ⟨oc, od, kV, doc, pm, an, cdv, ct, osl, rfl, lk, hcd⟩ := F.ex
  obtain ⟨c, rfl⟩ := He.codeIn_ref hcd
  show Value.ref c = Value.ref (He.codeOf K p)
  rw [He.codeOf_eq lk rfl]
theorem tab_of {base : Heap} {mg : Str → Option Value} {c P : Addr} (h : LamX.TabB base mg c P) : GxR.TabB base mg c P := ⟨h.code, h.bm, h.gP⟩
/-! ### heaps whose tables grow -/
def Tabs (H : Hp) (Ps : List Addr) : Prop := ∀ P ∈ Ps, GxR.TabG H P
/-- what is no table stays; tables stay tables -/
def Gr (H H' : Hp) : Prop := (∀ b o, (∀ ps, o ≠ HO.tbl ps) → H b = some o → H' b = some o) ∧ ∀ b, GxR.TabG H b → GxR.TabG H' b
theorem Gr.refl {H : Hp} : Gr H H := ⟨fun _ _ _ e => e, fun _ e => e⟩
theorem Gr.trans {H H1 H2 : Hp} (a : Gr H H1) (b : Gr H1 H2) : Gr H H2 := ⟨fun c o n e => b.1 c o n (a.1 c o n e), fun c e => b.2 c (a.2 c e)⟩
theorem Gr.of {H H' : Hp} (h : ∀ b o, H b = some o → H' b = some o) : Gr H H' := ⟨fun b o _ e => h b o e, fun b ⟨ps, e, t⟩ => ⟨ps, h _ _ e, t⟩⟩
theorem Gr.tab {P : Addr} {H H' : Hp} (t : GxR.TabG H P) (h : GxR.Tabbed P H H') : Gr H H' := by
  obtain ⟨ps, e, _⟩ := t
  refine ⟨fun b o n q => ?_, fun b q => ?_⟩
  · by_cases hb : b = P
    · rw [hb, e] at q
      exact absurd (Option.some.inj q).symm (n ps)
    · rw [h.2 b hb]; exact q
  · by_cases hb : b = P
    · rw [hb]; exact h.1
    · obtain ⟨ps', e', t'⟩ := q
      exact ⟨ps', by rw [h.2 b hb]; exact e', t'⟩
theorem Gr.tup {H H' : Hp} (g : Gr H H') {a : Addr} {xs : List V} (h : H a = some (.tup xs)) : H' a = some (.tup xs) := g.1 a _ (fun _ z => by cases z) h
theorem Gr.lst {H H' : Hp} (g : Gr H H') {a : Addr} {xs : List V} (h : H a = some (.lst xs)) : H' a = some (.lst xs) := g.1 a _ (fun _ z => by cases z) h
theorem Gr.tabs {H H' : Hp} (g : Gr H H') {Ps : List Addr} (h : Tabs H Ps) : Tabs H' Ps := fun P hP => g.2 P (h P hP)
theorem Gr.none {H : Hp} {a : Addr} {o : HO} (n : H a = Option.none) : Gr H (upd H a o) := Gr.of fun b u e => by
  rw [upd_ne (ne_of_none e n)]
  exact e
namespace CwR
/-- behind it a token is out -/
def PEp (X : Cx) (e : Expr) (t : TE) : Prop := ∀ (pins : List (Addr × Obj)) (s : Shared) (σ : L2.St) (H : Hp) (Q : VK), Inv X pins σ H s → t σ H Q → wpAny (model X.prog X.w) X.A (eval e X.env) (fun u s' => 1 ≤ s'.toks ∧ EP X pins σ Q u s') X.xe s
theorem pep_ix {X : Cx} {a : Expr} {i : Int} {j : Nat} {p pos : Pos} {ta : TE} {r : R2} (hr : IxR X r) (ha : PE X a ta) (hs : PlainIx (.Constant (.int i) j p)) : PEp X (.Subscript a (.Constant (.int i) j p) pos) (tOp r ta (tC (.int i))) := by
  intro pins s σ H Q I h
  refine Subscript_ (thn (ha.run pins s σ H _ I h) fun v s1 ⟨x, H1, I1, r1, q1⟩ => wpAny_Constant_int ?_)
  refine wpAny_mono (PySem.wpAny_toks (hr a _ pins { s1 with toks := s1.toks + 1 } σ H1 x (.int i) v (.int i s1.toks) Q (I1.tok _) r1 ⟨_, rfl⟩ q1 (hs _ _))) (fun u s2 q => ⟨?_, q.2⟩) fun _ _ z => z.2
  have h1 : s1.toks + 1 ≤ s2.toks := q.1
  omega
theorem pep_repl {X : Cx} {o : Expr} {to : TE} {y z : Str} {j k : Nat} {c0 c1 apos pos : Pos} (ho : PEp X o to) (hyz : (y == z) = false := by decide)
    (hst : starEach [.Constant (.str y) j c0, .Constant (.str z) k c1] X.env = [(false, eval (.Constant (.str y) j c0) X.env), (false, eval (.Constant (.str z) k c1) X.env)] := by rfl)
    (hbase : attributeBase o "replace" X.env (eval o X.env) = eval o X.env := by rfl) (hline : (apos.endLine == pos.line) = true := by rfl) :
    PEp X (.Call (.Attribute o "replace" apos) [.Constant (.str y) j c0, .Constant (.str z) k c1] [] pos) (CwR.tReplC to y z) := by
  intro pins s σ H Q I h
  refine PySem.Call_method2 hbase hst hline (wpAny_mono (ho pins s σ H _ I h) (fun v s1 q => ?_) fun _ _ z => z)
  obtain ⟨hk, v', H1, I1, r1, x, e1, hb, q⟩ := q
  subst e1
  obtain ⟨tx, e2⟩ := r1
  subst e2
  refine ⟨"str", _, PySem.F.plainAttrs_str, PySem.F.slot_str_replace, PySem.F.type_str_replace, typeIs_str _ _ _, (fun _ e => nomatch e), Calls.callWith_builtin rfl (Calls.evalArgs_plain (Calls.spliced_cons ?_))⟩
  refine Calls.Constant_str (Calls.spliced_cons (Calls.Constant_str (Calls.spliced_nil ?_)))
  refine wpAny_mono (PySem.wpAny_toks (PySem.SC.replace (Q := fun u s' => EP X pins σ Q u s') (by show s1.toks ≠ 0; omega) (by show s1.toks + 1 ≠ 0; omega) (by show s1.toks ≠ s1.toks + 1; omega) hyz hb fun t' k => ⟨.str (Txt.replace x y z), H1, I1.tok k, ⟨t', rfl⟩, q⟩)) (fun u s2 q => ⟨?_, q.2⟩) fun _ _ z => z.2
  have h1 : s1.toks + 1 + 1 ≤ s2.toks := q.1
  omega
theorem pe_replP {X : Cx} {e : Expr} {t : TE} (h : PEp X e t) : PE X e t := ⟨fun pins s σ H Q I q => wpAny_mono (h pins s σ H Q I q) (fun _ _ z => z.2) fun _ _ z => z⟩
end CwR

/-! ### x, *y = a list -/
namespace StarR
section
open PySem.W
variable {X : Cx}
theorem pgs_star {e : Expr} {p : Pos} {es : List Expr} {t : TG} {u : TGs} (h1 : PG X e t) (h2 : PGs X es u) : PGs X (.Starred e p :: es) (gCons t u) := by
  refine ⟨fun pins s σ H vs us Q I r h => ?_⟩
  obtain ⟨v, vr, e1, h⟩ := h
  subst e1
  cases r with
  | cons r rr =>
    show wpAny _ _ (assignInOrder (assign e X.env :: (assignEach es X.env).map (·.2)) _) _ _ _
    refine assignInOrder_cons (thn (h1.run pins s σ H _ _ _ I r h) fun _ s1 ⟨σ1, H1, I1, q1⟩ => ?_)
    exact h2.run pins s1 σ1 H1 _ _ Q I1 rr q1
theorem star_list {prog : Program} {w : World} {A : Around} {E : Value → Shared → Prop} {s : Shared} {l : Addr} {items : Array Value} {Q : List Value → Shared → Prop} (hl : s.heap.IsList l items) (hh : A.handled = none) (hn : 1 ≤ items.size) (hz : items.size ≤ sizeLine)
    (h : ∀ (h' : Heap) (tk : Nat), (∀ b o, s.heap.get? b = some o → h'.get? b = some o) → Q (items.toList.take 1 ++ [.ref h'.objs.size] ++ []) { s with heap := h'.push { cls := .type "list", data := .seq (items.toList.drop 1).toArray }, toks := tk }) : wpAny (model prog w) A (unpackItems (.ref l) 2 (some 1)) Q E s := by
  have hlt : l ≠ s.heap.objs.size := by obtain ⟨o, ho, _⟩ := hl; exact Nat.ne_of_lt (Heap.lt_size ho)
  unfold unpackItems
  refine wpAny_bind ?_
  unfold notIterableAtAll
  refine wpAny_bind (wpAny_specialOf hl.typeIs slot_list_iter.lookup ?_)
  refine wpAny_pure ?_
  simp only [Bool.false_eq_true, if_false]
  refine wpAny_bind (wpAny_holding (wpAny_pyIter_list hl ?_))
  refine wpAny_bind (wpAny_holding (kun_draw hlt 1 0 _ _ ⟨_, Heap.get?_push_size _ rfl, rfl, rfl⟩ (hl.push _) (by omega) fun h₁ hit₁ hs₁ => ?_))
  have hl₁ : h₁.IsList l items := (hl.push _).extBut hs₁.extBut hlt
  rw [Nat.zero_add] at hit₁
  have hit₁' := hit₁
  obtain ⟨oi, hoi, _⟩ := hit₁'
  have hl₁' := hl₁
  obtain ⟨ol, hol, _⟩ := hl₁'
  rw [List.drop_zero]
  have hfl : (items.toList.take 1).length = 1 := by rw [List.length_take, Array.length_toList]; omega
  rw [if_neg (show ¬ ((items.toList.take 1).length < 1) by rw [hfl]; omega)]
  refine wpAny_bind (wpAny_holding (kun_collect (s := { s with heap := h₁ }) (T := "list_iterator") (.inr (.inr (.inl rfl))) (Walks.list (A := A.in1) hh s.heap.objs.size l hlt items) (fun j u st => st.1.typeIs) (k := 1) (by omega) ⟨hit₁, hl₁⟩ (Heap.lt_size hoi) (Heap.lt_size hol) (fun h₂ tk hk => ?_) hz))
  have hrl : (items.toList.drop 1).length = items.size - 1 := by rw [List.length_drop, Array.length_toList]
  show wpAny _ _ (if (items.toList.drop 1).length < 0 then _ else _) _ _ _
  rw [if_neg (by omega)]
  show wpAny _ _ (newList ((items.toList.drop 1).take ((items.toList.drop 1).length - 0)) >>= fun d => pure (items.toList.take 1 ++ [d] ++ (items.toList.drop 1).drop ((items.toList.drop 1).length - 0))) _ _ _
  rw [Nat.sub_zero, List.take_length, List.drop_length]
  have he : ∀ b o, s.heap.get? b = some o → h₂.get? b = some o := fun b o e => by
    have hb : b ≠ s.heap.objs.size := Nat.ne_of_lt (Heap.lt_size e)
    exact hk b o hb (hs₁.extBut b o hb (Heap.get?_push_of_some _ e))
  exact wpAny_bind (wpAny_newList (wpAny_pure (h h₂ tk he)) (by rw [hrl]; omega))
/-- x, *y = a list that has an x -/
def gStar (K : PySem.W.Frag) (t : TGs) : TG := fun v σ H Q => ∃ a x xs, v = .ref a ∧ SqL K H a (x :: xs) ∧ ∀ D, H D = none → t [x, .ref D] σ (upd H D (.lst xs)) Q
theorem pg_star {es : List Expr} {k : Nat} {pos : Pos} {t : TGs} (hc : X.calm = true) (h : PGs X es t)
    (hn : (assignEach es X.env).length = 2 := by rfl) (hst : (assignEach es X.env).findIdx? (·.1) = some 1 := by rfl) : PG X (.Tuple es k pos) (gStar X.K t) := by
  refine ⟨fun pins s σ H v u Q I r hw => ?_⟩
  obtain ⟨a, x, xs, e1, hq, hw⟩ := hw
  subst e1
  cases r
  obtain ⟨its, rv, pl, hz⟩ := I.list hq
  have hl' : s.heap.IsList a its.toArray := by
    obtain ⟨o, m, e, c, d, q⟩ := pl
    exact ⟨o, e, c, m, q⟩
  cases rv with
  | cons r1 rr =>
    rename_i y ys
    have lz : ys.length + 1 ≤ sizeLine := by
      have := rr.length
      rw [← this]
      exact hz
    rw [PyProof.Rows.assign_Tuple]
    refine wpAny_bind (wpAny_standAt ?_)
    unfold unpack
    rw [hn, hst]
    refine wpAny_bind (wpAny_holding (star_list hl' (I.ok.hd hc) (by simp) (by simpa using lz) fun h' tk hx => ?_))
    have I1 : Inv X pins σ H { s with heap := h', toks := tk } := I.kept hx
    have hf : H h'.objs.size = none := I1.hok.fresh (Nat.le_refl _)
    have I2 : Inv X pins σ (upd H h'.objs.size (.lst xs)) { s with heap := h'.push { cls := .type "list", data := .seq ys.toArray }, toks := tk } :=
      I1.laid (t' := tk) (fun b u e => Heap.get?_push_of_some _ e) (Nat.le_refl _) ⟨by have : xs.length + 1 ≤ sizeLine := hz; omega, ys, 0, rr, Heap.get?_push_size _ rfl⟩
    have e2 : ((y :: ys).toArray.toList.take 1 ++ [Value.ref h'.objs.size] ++ []) = [y, .ref h'.objs.size] := by simp
    have e3 : ((y :: ys).toArray.toList.drop 1).toArray = ys.toArray := by simp
    rw [e2, e3]
    exact h.run pins _ σ _ _ _ Q I2 (.cons r1 (.cons (show L2.RelV (V.ref h'.objs.size) (Value.ref h'.objs.size) from rfl) .nil)) (hw _ hf)
end
end StarR

/-! ### list(reversed(a list)) -/
namespace RevL
open RT PySem.Calls
section
variable {prog : Program} {w : World} {A : Around} {E : Value → Shared → Prop} {s : Shared}
theorem grows_rev {it l S : Addr} {c0 : Nat} {xs : Array Value} {R : Result → Shared → Prop} {res : Value} (quiet : A.handled = none) (rev : s.heap.IsRevIter it l ((xs.size : Int) - 1)) (src : s.heap.IsList l xs) (apart : l ≠ it) (few : xs.size ≤ sizeLine)
    (tgt : s.heap.get? S = some { cls := .type "list", data := .seq #[] c0 }) (n1 : S ≠ it) (n2 : S ≠ l)
    (fin : ∀ (hp : Heap) (tk : Nat) (acc : Array Value) (c : Nat), (∀ b o, b ≠ it → b ≠ S → s.heap.get? b = some o → hp.get? b = some o) → hp.get? S = some { cls := .type "list", dict := none, data := .seq acc c, slots := #[] } → ItemsOf (fun i v => xs[xs.size - 1 - i]? = some v) acc xs.size → R (.ok (.ret res)) { s with heap := hp, toks := tk }) :
    wpAny (model prog w) A.in1 (Builtin.List.listExtendWith (.ref S) (.ref it) res)
      (fun f st => match f with | .done g => R (.ok g) st | .again c => c.quiet = true ∧ codeAny (model prog w) A c R st) (fun e st => R (.error e) st) s := by
  have walk := (Walks.listRev (prog := prog) (w := w) (A := A.in1) quiet it l apart xs).toS
  have notIn : S ∉ [it, l] := by
    intro h
    rcases List.mem_cons.mp h with h | h
    · exact n1 h
    · exact n2 (List.mem_singleton.mp h)
  have ty : s.TypeIs (.ref it) "list_reverseiterator" := rev.typeIs
  have unlike : Builtin.List.listSameRef (.ref S) (.ref it) = false := by simp [Builtin.List.listSameRef, n1]
  unfold Builtin.List.listExtendWith
  refine wpAny_bind (wpAny_typeOf ty (?_))
  rw [if_neg (show ¬ _ by rw [unlike]; decide)]
  refine wpAny_bind (wpAny_pyIter_revIter rev (wpAny_bind (wpAny_holding ?_)))
  unfold Builtin.List.listLengthHint
  refine wpAny_bind (wpAny_specialOf ty nolen_lri (?_))
  show wpAny _ _ (specialOf (Value.ref it) (Str.ofString "__length_hint__") >>= _) _ _ _
  refine wpAny_bind (wpAny_specialOf ty hint_lri (?_))
  generalize name : ("list_reverseiterator.__length_hint__" : String) = nm
  wp_delta
  rw [show splitId nm = some ("list_reverseiterator", "__length_hint__") by rw [← name]; decide +kernel]
  rw [← name]
  refine wpAny_bind (wpAny_isInstance (b := true) ty (by rw [isSubtype_type]; kernel_rfl) (wpAny_pure ?_))
  rw [if_neg (show ¬ _ by decide)]
  have first : ((xs.size : Nat) : Int) - 1 - ((0 : Nat) : Int) = (xs.size : Int) - 1 := by omega
  refine wpAny_pure ⟨plainId_quiet F.plain_extend_loop _, codeAny_extend_loopS walk few _ notIn _ xs.size 0 _ _ _ rfl (Nat.zero_le _) ⟨Nat.zero_le _, by rw [first]; exact rev, src⟩ tgt (ItemsOf.nil _) fun st acc c moved hS got => ?_⟩
  rw [Moved.eq_with moved]
  refine fin st.heap st.toks acc c (fun b o b1 b2 e => moved.heap b o (fun h => ?_) e) hS got
  rcases List.mem_cons.mp h with h | h
  · exact b2 h
  · exact b1 (List.mem_singleton.mp h)
theorem call_list_rev {it l : Addr} {xs : Array Value} {Q : Value → Shared → Prop} (quiet : A.handled = none) (rev : s.heap.IsRevIter it l ((xs.size : Int) - 1)) (src : s.heap.IsList l xs) (apart : l ≠ it) (few : xs.size ≤ sizeLine)
    (fin : ∀ (hp : Heap) (tk : Nat) (acc : Array Value) (c : Nat), (∀ b o, b ≠ it → s.heap.get? b = some o → hp.get? b = some o) → hp.get? s.heap.objs.size = some { cls := .type "list", dict := none, data := .seq acc c, slots := #[] } → ItemsOf (fun i v => xs[xs.size - 1 - i]? = some v) acc xs.size → Q (.ref s.heap.objs.size) { s with heap := hp, toks := tk }) :
    wpAny (model prog w) A (call (.type "list") [.ref it]) Q E s := by
  have newAt : ∀ {b : Addr} {o : Obj}, s.heap.get? b = some o → b ≠ s.heap.objs.size := fun e => Nat.ne_of_lt (Heap.lt_size e)
  have itNew : s.heap.objs.size ≠ it := by
    obtain ⟨o, e, _⟩ := id rev
    exact (newAt e).symm
  have lNew : s.heap.objs.size ≠ l := by
    obtain ⟨o, e, _⟩ := id src
    exact (newAt e).symm
  refine callType_codes (Q₁ := fun v st => v = .ref s.heap.objs.size ∧ st = { s with heap := s.heap.push { cls := .type "list", data := .seq #[] } }) F.called_list (F.typeCall_list_1 _) F.entry_list_init (code_list_new _ ⟨rfl, rfl⟩) ?_
  rintro v st ⟨rfl, rfl⟩
  have made : (s.heap.push { cls := .type "list", data := .seq #[] }).get? s.heap.objs.size = some { cls := .type "list", data := .seq #[] } := Heap.get?_push_size _ rfl
  refine ⟨⟨_, made, rfl⟩, F.args_list_init_2 _ _, ?_⟩
  show wpAny _ A.in1.in1 (do let was ← Builtin.List.listItems (.ref s.heap.objs.size); Builtin.List.listUpdate (.ref s.heap.objs.size) (fun _ => #[]); letGo was.toList.reverse; Builtin.List.listExtendWith (.ref s.heap.objs.size) (.ref it) .none) _ _ _
  refine wpAny_bind ?_
  unfold Builtin.List.listItems
  refine wpAny_bind (wpAny_seqItems made rfl (wpAny_pure (wpAny_bind ?_)))
  show wpAny _ _ (updateSeq s.heap.objs.size (fun _ => (#[] : Array Value))) _ _ _
  refine wpAny_updateSeq made rfl (wpAny_bind (wpAny_letGo ?_))
  have emptied := Heap.get?_update_self (Obj.mapSeq (fun _ => (#[] : Array Value))) made rfl
  have stays : ∀ b o, s.heap.get? b = some o → ((s.heap.push { cls := .type "list", data := .seq #[] }).update s.heap.objs.size (Obj.mapSeq (fun _ => (#[] : Array Value)))).get? b = some o := fun b o e =>
    (Heap.get?_update_other _ _ (newAt e).symm).trans (Heap.get?_push_of_some _ e)
  refine grows_rev (A := A.in1) quiet (rev.at fun o e => stays _ _ e) (by obtain ⟨o, e, r⟩ := id src; exact ⟨o, stays _ _ e, r⟩) apart few emptied itNew lNew fun hp tk acc c keep hS got => ?_
  exact ⟨rfl, fin hp tk acc c (fun b o b1 e => keep b o b1 (newAt e) (stays b o e)) hS got⟩
def tLstRev (K : PySem.W.Frag) (te : TE) : TE := fun σ H Q => te σ H fun v H1 => ∃ (a : Addr) (xs : List V), v = .ref a ∧ SqL K H1 a xs ∧ ∀ q, H1 q = none → Q (.ref q) (upd H1 q (.lst xs.reverse))
theorem pe_lstRev {X : Cx} {e : Expr} {te : TE} {p1 p2 pos pos2 : Pos} (calm : X.calm = true) (g1 : Gl X "list") (m1 : X.mg "list" = none) (g2 : Gl X "reversed") (m2 : X.mg "reversed" = none) (he : PE X e te)
    (st1 : starEach [e] X.env = (false, eval e X.env) :: starEach [] X.env := by rfl)
    (st2 : starEach [.Call (.Name "reversed" p2) [e] [] pos2] X.env = (false, eval (.Call (.Name "reversed" p2) [e] [] pos2) X.env) :: starEach [] X.env := by rfl) :
    PE X (.Call (.Name "list" p1) [.Call (.Name "reversed" p2) [e] [] pos2] [] pos) (tLstRev X.K te) := by
  refine ⟨fun pins s σ H Q I told => ?_⟩
  refine Call_ (ld_blt I g1 m1 boot_list (PyProof.Rows.callWith_type1 (args_cons (Call_ (ld_blt I g2 m2 PyProof.Rows.boot_reversed (PyProof.Rows.callWith_type1 (args_cons (thn (he.run pins s σ H _ I told) ?_) st1) st1 rfl))) st2) st2 rfl))
  rintro u s1 ⟨v, H1, I1, r1, a, xs, rfl, list, q⟩
  refine args_nil ?_
  cases (show u = Value.ref a from r1)
  obtain ⟨us, rv, plain, few⟩ := I1.list list
  have src := plain.isList
  refine call_reversed_list src (args_nil ?_)
  have apart : a ≠ s1.heap.objs.size := by
    obtain ⟨o, e, _⟩ := id src
    exact Nat.ne_of_lt (Heap.lt_size e)
  have few2 : us.toArray.size ≤ sizeLine := by
    rw [List.size_toArray, ← rv.length]
    exact few
  refine call_list_rev (s := { s1 with heap := s1.heap.push (revObj a ((us.toArray.size : Int) - 1)) }) (I1.ok.hd calm) ⟨_, Heap.get?_push_size _ rfl, rfl, rfl⟩ (src.push _) apart few2 fun hp tk acc c keep hS got => ?_
  have size2 : s1.heap.objs.size ≤ (s1.heap.push (revObj a ((us.toArray.size : Int) - 1))).objs.size := by
    rw [Heap.size_push]
    exact Nat.le_succ _
  refine ⟨.ref _, upd H1 _ (.lst xs.reverse), I1.laid (t' := tk) (fun b o e => keep b o (Nat.ne_of_lt (Heap.lt_size e)) (Heap.get?_push_of_some _ e)) size2 ⟨by rw [List.length_reverse]; exact few, acc.toList, c, vals_rev rv got, ?_⟩, rfl, q _ (I1.hok.fresh size2)⟩
  rw [Array.toArray_toList]
  exact hS
end
end RevL

/-! ### heaps -/
theorem same_upd {H : Hp} {p : Addr} {o : HO} (h : H p = none) : Same H (upd H p o) := fun b x e => by
  rw [upd_ne (ne_of_none e h)]
  exact e
def Fr (d l : Addr) (H H' : Hp) : Prop := ∀ b o, b ≠ d → b ≠ l → H b = some o → H' b = some o
theorem Fr.trans {d l : Addr} {H H1 H2 : Hp} (a : Fr d l H H1) (b : Fr d l H1 H2) : Fr d l H H2 := fun c o h1 h2 h => b c o h1 h2 (a c o h1 h2 h)
theorem Fr.refl {d l : Addr} {H : Hp} : Fr d l H H := fun _ _ _ _ h => h
theorem Fr.new {d l p : Addr} {H : Hp} {o : HO} (h : H p = none) : Fr d l H (upd H p o) := fun b x _ _ e => same_upd h b x e
theorem Fr.of {d l : Addr} {H H' : Hp} (h : Same H H') : Fr d l H H' := fun b x _ _ e => h b x e
theorem Fr.d {d l : Addr} {H : Hp} {o : HO} : Fr d l H (upd H d o) := fun b x h1 _ e => by rw [upd_ne h1]; exact e
theorem Fr.l {d l : Addr} {H : Hp} {o : HO} : Fr d l H (upd H l o) := fun b x _ h2 e => by rw [upd_ne h2]; exact e
def Deck (H : Hp) (d l : Addr) : Prop := d ≠ l ∧ ∃ (cs : List Int) (z : Int), H d = some (.lst [.ref l, .int z]) ∧ H l = some (.lst (cs.map V.int)) ∧ cs.length ≤ 63 ∧ 0 ≤ z ∧ z < 4294967296
theorem Deck.same {H H' : Hp} {d l : Addr} (D : Deck H d l) (s : Same H H') : Deck H' d l := by
  obtain ⟨ne, cs, z, hd, hl, r⟩ := D
  exact ⟨ne, cs, z, s _ _ hd, s _ _ hl, r⟩
theorem Deck.new {H : Hp} {d l p : Addr} {o : HO} (D : Deck H d l) (h : H p = none) : Deck (upd H p o) d l := D.same (same_upd h)
theorem Deck.ne_new {H : Hp} {d l p : Addr} (D : Deck H d l) (h : H p = none) : p ≠ d ∧ p ≠ l := by
  obtain ⟨ne, cs, z, hd, hl, r⟩ := D
  exact ⟨(ne_of_none hd h).symm, (ne_of_none hl h).symm⟩
theorem p29 : (0 : Int) < 2147483629 := by decide
theorem p47 : (0 : Int) < 2147483647 := by decide
theorem p87 : (0 : Int) < 2147483587 := by decide
theorem sl1 : 1 ≤ sizeLine := by decide
theorem sl2 : 2 ≤ sizeLine := by decide
theorem sl3 : 3 ≤ sizeLine := by decide
theorem sl4 : 4 ≤ sizeLine := by decide
theorem seqIx0 {α : Type} (x : α) (xs : List α) : seqIndex? 0 (x :: xs).length = some 0 := by
  refine (ixN_seq (n := (x :: xs).length) (i := 0) (j := 0) ?_).1
  unfold ixN
  rw [if_pos (by decide), if_pos (by rw [List.length_cons]; omega)]
  rfl
theorem dpInts {K : PySem.W.Frag} {H : Hp} : ∀ cs : List Int, DpAll K H (cs.map V.int) (cs.map PyData.int)
  | [] => .nil
  | c :: r => .cons (.int c) (dpInts r)
theorem shInts (ns : List Int) : SeqAt.shaped (.list (ns.map PyData.int)) = true := by
  unfold SeqAt.shaped
  rw [Bool.and_eq_true]
  refine ⟨?_, ?_⟩
  · simp only [PyData.canLay0, canLayAll_ints]
  · simp only [PyData.depth, depthAll_ints]
    decide
theorem at_pick {xs : List V} {j : Int} (h0 : 0 ≤ j) (h1 : j < xs.length) : ∃ x, atI xs j = some x ∧ x ∈ xs := by
  obtain ⟨k, rfl⟩ : ∃ k : Nat, j = (k : Int) := ⟨j.toNat, (Int.toNat_of_nonneg h0).symm⟩
  have hk : k < xs.length := by omega
  exact ⟨xs[k], atI_nat (List.getElem?_eq_getElem hk), List.getElem_mem hk⟩
theorem units65 {k : Nat} {A : Around} (r : Room k A) : A.units + 65 < cLine := by have := r.un; omega
def rLenK (K : PySem.W.Frag) : List V → Hp → VK → Prop := fun xs H Q => ∃ p ys, xs = [.ref p] ∧ (SqL K H p ys ∨ SqT K H p ys) ∧ Q (.int ys.length) H
def rTupK (K : PySem.W.Frag) : List V → Hp → VK → Prop := fun xs H Q => ∃ p ys, xs = [.ref p] ∧ ((SqL K H p ys ∧ ∀ l, H l = none → Q (.ref l) (upd H l (.tup ys))) ∨ (SqT K H p ys ∧ Q (.ref p) H))
def rLstK (K : PySem.W.Frag) : List V → Hp → VK → Prop := fun xs H Q => ∃ p ys, xs = [.ref p] ∧ (SqL K H p ys ∨ SqT K H p ys) ∧ ∀ l, H l = none → Q (.ref l) (upd H l (.lst ys))
/-- joining ways behind a test, behind an expression -/
def tCutT (t : TT) : TT := fun σ H Q => ∃ Mid : Bool → Hp → Prop, t σ H Mid ∧ ∀ b H1, Mid b H1 → Q b H1
theorem pt_cut {X : Cx} {e : Expr} {t : TT} (h : PT X e t) : PT X e (tCutT t) := ⟨fun pins s σ H Q I hw => by
  obtain ⟨Mid, h1, q⟩ := hw
  exact thn (h.run pins s σ H _ I h1) fun c s1 ⟨H1, I1, m⟩ => ⟨H1, I1, q _ _ m⟩⟩
def tCutE (t : TE) : TE := fun σ H Q => ∃ Mid : VK, t σ H Mid ∧ ∀ v H1, Mid v H1 → Q v H1
theorem pe_cut {X : Cx} {e : Expr} {t : TE} (h : PE X e t) : PE X e (tCutE t) := ⟨fun pins s σ H Q I hw => by
  obtain ⟨Mid, h1, q⟩ := hw
  exact thn (h.run pins s σ H _ I h1) fun u s1 ⟨v, H1, I1, r, m⟩ => ⟨v, H1, I1, r, q _ _ m⟩⟩

/-! ### defs called where nothing is being shown (so that repr tells what stands there) -/
structure FnG (P : Program) (w : World) (K : PySem.W.Frag) (mg : Str → Option Value) (bs : Heap) (CX : CXT) (k : Nat) (f : Addr) (fd : FuncData) (ps : List Str) (sp : Sp) : Prop where
  many : ∀ vs H Q E, sp vs H Q E → vs.length = ps.length
  go : ∀ A : Around, A.guards = some [] → Room k A → ∀ (fr : List Env) (s : Shared) (H : Hp) (ar : Args) (us : List Value) (vs : List V) (Q : VK) (E : XK), Env0 P w K mg bs A fr s H → BindsTo s fd ar (ps.zip us) → Vals vs us → sp vs H Q E → codeAny (model P w) A (.call (.ref f) ar) (CR CX fr P w H s Q E) s
theorem FnG.of {P : Program} {w : World} {K : PySem.W.Frag} {mg : Str → Option Value} {bs : Heap} {CX : CXT} {k : Nat} {f : Addr} {fd : FuncData} {ps : List Str} {sp : Sp} (F : FnOk P w K mg bs CX k f fd ps sp) : FnG P w K mg bs CX k f fd ps sp :=
  ⟨F.len, fun A _ room fr s H ar us vs Q E e0 b r h => F.run A fr s H ar us vs Q E room e0 b r h⟩
theorem okG {CX : CXT} {P : Program} {w : World} {K : PySem.W.Frag} {mg : Str → Option Value} {bs : Heap} {x qual : Str} {st : Stmt} {f : Addr} {fd : FuncData} {N ps : List Str} {k : Nat} {sp : Sp} (F : Fun K x qual st f fd) (S : FnScope N ps (defScope st))
    (many : ∀ vs H Q E, sp vs H Q E → vs.length = ps.length)
    (body : ∀ (cdv : Value) (A : Around) (fr : List Env) (s : Shared) (H : Hp) (vs : List V) (Q : VK) (E : XK), A.guards = some [] → Room k (A.deeper (envOfC qual (defScope st) s.heap.objs.size f cdv)) → sp vs H Q E →
      ∃ t, PSs (cxOf CX P w K mg bs N qual (defScope st) f cdv A fr s H E) (defBody st) t ∧ t ⟨fun _ H' => Q .non H', Q, fun _ _ => False, fun _ _ => False⟩ (start N vs) H) : FnG P w K mg bs CX (k + 1) f fd ps sp := by
  obtain ⟨oc, od, kV, doc, pm, an, cdv, ct, osl, rfl, lk, code⟩ := F.ex
  refine ⟨many, fun A nothing room fr s H ar us vs Q E e0 bound rel told => ?_⟩
  have stays : ∀ b o, bs.get? b = some o → s.heap.get? b = some o := fun b o z => (e0.bs b o z).1
  have inK : K.In s.heap := e0.mod.kin.keeps stays
  have places : ∀ y ∈ ps.zip us, (defScope st).names.lookup y.1 = some .local ∨ ((defScope st).names.lookup y.1 = some .cell ∧ ((cellsFrom (s.heap.objs.size + 1) (defScope st).names []).lookup y.1).isSome = true) := by
    rintro ⟨n, v⟩ hy
    exact (S.par n (List.of_mem_zip hy).1).imp id fun c => ⟨c, PySem.W.cellsFrom_some _ _ _ (Or.inl c)⟩
  refine codeAny_call_function room.depth (inK _ _ lk) rfl S.co S.gen rfl (PySem.W.codeRec_of inK code) (bound _ _ _ _
    (wpAny_newFunctionEnv_cells S.kind places fun env he s1 made => ?_))
  subst he
  obtain ⟨t, runs, holds⟩ := body cdv A fr s H vs Q E nothing (room.deeper _) told
  refine ⟨(e0.mod.nolimit.keeps stays).keeps made.toInCall.keep, codeAny_func (wpAny_mono (runs.run [] s1 (start N vs) H _ (inv_start S room.hd e0 (many _ _ _ _ told) rel made) holds) (fun fl s2 z => ?_) fun _ _ z => z)⟩
  match fl, z with
  | .ret _, ⟨v, _, H', J, rv, q⟩ => exact ⟨v, H', J.os, J.bare, J.base, J.hok, rv, q⟩
  | .next, ⟨_, H', J, q⟩ => exact ⟨V.non, H', J.os, J.bare, J.base, J.hok, rfl, q⟩
  | .brk, ⟨_, _, _, q⟩ => exact q.elim
  | .cont, ⟨_, _, _, q⟩ => exact q.elim
theorem okG0 {P : Program} {w : World} {K : PySem.W.Frag} {mg : Str → Option Value} {bs : Heap} {x qual : Str} {st : Stmt} {f : Addr} {fd : FuncData} {N ps : List Str} {k : Nat} {sp : Sp} (F : Fun K x qual st f fd) (S : FnScope N ps (defScope st))
    (many : ∀ vs H Q E, sp vs H Q E → vs.length = ps.length)
    (body : ∀ (cdv : Value) (A : Around) (fr : List Env) (s : Shared) (H : Hp) (vs : List V) (Q : VK) (E : XK), A.guards = some [] → Room k (A.deeper (envOfC qual (defScope st) s.heap.objs.size f cdv)) → sp vs H Q E →
      ∃ t, PSs (cxOf CX0 P w K mg bs N qual (defScope st) f cdv A fr s H E).nox (defBody st) t ∧ t ⟨fun _ H' => Q .non H', Q, fun _ _ => False, fun _ _ => False⟩ (start N vs) H) : FnG P w K mg bs CX0 (k + 1) f fd ps sp :=
  okG F S many fun cdv A fr s H vs Q E g r h => by
    obtain ⟨t, p, q⟩ := body cdv A fr s H vs Q E g r h
    exact ⟨t, p.nox, q⟩
section
variable {X : Cx} {CX : CXT} {k : Nat} {f : Addr} {fd : FuncData} {ps : List Str} {sp : Sp} {ds : List Value} {dvs : List V} {E : XK}
theorem runG {pins : List (Addr × Obj)} {σ : L2.St} {H : Hp} {s : Shared} {Q : VK} {us : List Value} {vs : List V} (F : FnG X.prog X.w X.K X.mg X.base CX k f fd ps sp) (nothing : X.A.guards = some []) (room : Room k X.A) (hb : Binds X.K fd ps ds)
    (hd : Vals dvs ds) (out : Passes CX X E) (I : Inv X pins σ H s) (r : Vals vs us) (told : sp (vs ++ dvs) H Q E) : wpAny (model X.prog X.w) X.A (call (.ref f) us) (EP X pins σ Q) X.xe s := by
  have rel : Vals (vs ++ dvs) (us ++ ds) := r.append hd
  have size : (us ++ ds).length = ps.length := rel.length ▸ F.many _ _ _ _ told
  refine wpAny_call (codeAny_mono (F.go X.A nothing room X.stack s H _ _ _ Q E I.env0 (hb s us I.kIn size) rel told) fun res s2 z => ?_)
  match res, z with
  | .error e, z => exact out pins σ H s e s2 I z
  | .ok (.ret u), z => exact I.after z
  | .ok .next, z => exact z.elim
  | .ok .brk, z => exact z.elim
  | .ok .cont, z => exact z.elim
theorem pe_callG {x : Str} {p pos : Pos} {e : Expr} {es : List Expr} {t : TA} (F : FnG X.prog X.w X.K X.mg X.base CX k f fd ps sp) (nothing : X.A.guards = some []) (room : Room k X.A) (hg : Gl X x) (hm : X.mg x = some (.ref f)) (kp : PySem.W.keepIn X.K (.ref f) = true)
    (hb : Binds X.K fd ps ds) (hd : Vals dvs ds) (out : Passes CX X E) (ha : PA X (e :: es) t) (nd : (x == ("__debug__" : Str)) = false := by decide) (he : starEach (e :: es) X.env = (false, eval e X.env) :: starEach es X.env := by rfl)
    (hpl : (backTo pos (starEach es X.env)).any (·.1) = false := by rfl) : PE X (.Call (.Name x p) (e :: es) [] pos) (tCall sp dvs E t) := by
  refine ⟨fun pins s σ H Q I told => wpAny_Call_Name_kw (ld_glob I hg hm ?_ nd)⟩
  refine PySem.W.callWith_K (h₀ := X.base) I.ok.mod.kin kp (thn (ha.run pos pins s σ H _ I told) ?_) he hpl
  rintro us s1 ⟨vs, H1, J, r, q⟩
  exact ⟨J.kIn, runG F nothing room hb hd out J r q⟩
end
/-! ### what is shown by repr: plain data, whose lists and dicts were made by the law -/
def kD : Key → PyData
  | .inl i => .int i
  | .inr x => .str x
mutual
inductive Sh (H : Hp) : V → PyData → Prop
  | non : Sh H .non .none
  | bl (b : Bool) : Sh H (.bl b) (.bool b)
  | int (i : Int) : Sh H (.int i) (.int i)
  | str (x : Str) : Sh H (.str x) (.str x)
  | lst {a : Addr} {xs : List V} {ds : List PyData} : H a = some (.lst xs) → a ≠ sysModules → ShAll H xs ds → Sh H (.ref a) (.list ds)
  | tup {a : Addr} {xs : List V} {ds : List PyData} : H a = some (.tup xs) → ShAll H xs ds → Sh H (.ref a) (.tuple ds)
  | dic {a : Addr} {kvs : List (Key × V)} {ds : List PyData} : H a = some (.dK kvs) → ShAll H (kvs.map (·.2)) ds → Sh H (.ref a) (.dict ((kvs.map fun kv => kD kv.1).zip ds))
inductive ShAll (H : Hp) : List V → List PyData → Prop
  | nil : ShAll H [] []
  | cons {v : V} {vs : List V} {d : PyData} {ds : List PyData} : Sh H v d → ShAll H vs ds → ShAll H (v :: vs) (d :: ds)
end
theorem ShAll.length {H : Hp} : ∀ {vs : List V} {ds : List PyData}, ShAll H vs ds → vs.length = ds.length
  | _, _, .nil => rfl
  | _, _, .cons _ t => by rw [List.length_cons, List.length_cons, t.length]
mutual
theorem Sh.same {H H' : Hp} (s : Same H H') : ∀ {v : V} {d : PyData}, Sh H v d → Sh H' v d
  | _, _, .non => .non
  | _, _, .bl b => .bl b
  | _, _, .int i => .int i
  | _, _, .str x => .str x
  | _, _, .lst h n t => .lst (s _ _ h) n (t.same s)
  | _, _, .tup h t => .tup (s _ _ h) (t.same s)
  | _, _, .dic h t => .dic (s _ _ h) (t.same s)
theorem ShAll.same {H H' : Hp} (s : Same H H') : ∀ {vs : List V} {ds : List PyData}, ShAll H vs ds → ShAll H' vs ds
  | _, _, .nil => .nil
  | _, _, .cons h t => .cons (h.same s) (t.same s)
end
/-- the name of the class of such data -/
def tyD : PyData → String
  | .none => "NoneType"
  | .bool _ => "bool"
  | .int _ => "int"
  | .str _ => "str"
  | .list _ => "list"
  | .tuple _ => "tuple"
  | .dict _ => "dict"
theorem Sh.ty {K : PySem.W.Frag} {H : Hp} {v : V} {d : PyData} (h : Sh H v d) : TyX K H v (.type (tyD d)) := by
  cases h with
  | non => exact .base .non
  | bl b => exact .base (.bl b)
  | int i => exact .base (.int i)
  | str x => exact .base (.str x)
  | lst h _ _ => exact .base (.lst h)
  | tup h _ => exact .base (.tup h)
  | dic h _ => exact .base (.dK h)
section
variable {X : Cx} {pins : List (Addr × Obj)} {σ : L2.St} {H : Hp} {s : Shared}
theorem pairs_keys {P : Program} {w : World} {h : Heap} : ∀ {es : List DictEntry} {kvs : List (Key × Value)}, Pairs (mixKind P w) es kvs → ReadsAll h (es.map (·.key)) (kvs.map fun kv => kD kv.1) []
  | _, _, .nil => .nil
  | _, _, .cons (kv := kv) hk _ t => by
    have r := pairs_keys (h := h) t
    rcases keyIs_shape (k := kv.1) hk with ⟨i, u, e1, e2⟩ | ⟨x, u, e1, e2⟩
    · rw [List.map_cons, List.map_cons, e1, e2]
      exact ReadsAll.cons (as := []) (.int i u) r
    · rw [List.map_cons, List.map_cons, e1, e2]
      exact ReadsAll.cons (as := []) (.str x u) r
theorem pairs_vals {P : Program} {w : World} : ∀ {es : List DictEntry} {kvs : List (Key × Value)}, Pairs (mixKind P w) es kvs → es.map (·.val) = kvs.map (·.2)
  | _, _, .nil => rfl
  | _, _, .cons _ hv t => by rw [List.map_cons, List.map_cons, hv, pairs_vals t]
theorem kv_rel : ∀ {kvs : List (Key × V)} {vs : List (Key × Value)}, KV kvs vs → kvs.map (·.1) = vs.map (·.1) ∧ Vals (kvs.map (·.2)) (vs.map (·.2))
  | _, _, .nil => ⟨rfl, .nil⟩
  | _, _, .cons h t => by
    obtain ⟨a, b⟩ := kv_rel t
    exact ⟨by rw [List.map_cons, List.map_cons, a, h.1], .cons h.2 b⟩
mutual
theorem Sh.reads (I : Inv X pins σ H s) : ∀ (v : V) (d : PyData) (u : Value), Sh H v d → RelV v u → ∃ as, Reads s.heap u d as ∧ sysModules ∉ as
  | _, _, _, .non, r => by cases r; exact ⟨_, .none, List.not_mem_nil⟩
  | _, _, _, .bl b, r => by cases r; exact ⟨_, .bool b, List.not_mem_nil⟩
  | _, _, _, .int i, r => by obtain ⟨t, rfl⟩ := r; exact ⟨_, .int i t, List.not_mem_nil⟩
  | _, _, _, .str x, r => by obtain ⟨t, rfl⟩ := r; exact ⟨_, .str x t, List.not_mem_nil⟩
  | _, _, _, .lst (a := a) (xs := xs) h n t, r => by
    cases r
    obtain ⟨_, its, c, rv, ho⟩ := (show ObjOk X.prog X.w H s.heap a (.lst xs) from I.hok a _ h)
    obtain ⟨as, q, m⟩ := ShAll.reads I _ _ its t rv
    exact ⟨_, .list ho rfl rfl (by simpa using q), fun z => (List.mem_cons.mp z).elim (fun e => n e.symm) m⟩
  | _, _, _, .tup (a := a) (xs := xs) h t, r => by
    cases r
    obtain ⟨_, its, rv, o, ho, hc, c, hd⟩ := (show ObjOk X.prog X.w H s.heap a (.tup xs) from I.hok a _ h)
    obtain ⟨as, q, m⟩ := ShAll.reads I _ _ its t rv
    exact ⟨_, .tuple ho hc hd (by simpa using q), m⟩
  | _, _, _, .dic (a := a) (kvs := kvs) (ds := ds) h t, r => by
    cases r
    obtain ⟨_, low, vs, rel, o, es, ep, ho, hx, hd, _, hp, _⟩ := (show ObjOk X.prog X.w H s.heap a (.dK kvs) from I.hok a _ h)
    obtain ⟨rk, rv⟩ := kv_rel rel
    obtain ⟨as, q, m⟩ := ShAll.reads I _ _ (vs.map (·.2)) t rv
    have k1 : (kvs.map fun kv => kD kv.1) = vs.map fun kv => kD kv.1 := by
      have := congrArg (List.map kD) rk
      rw [List.map_map, List.map_map] at this
      exact this
    have ln : (kvs.map fun kv => kD kv.1).length = ds.length := by
      have := t.length
      rw [List.length_map] at this
      rw [List.length_map, this]
    refine ⟨_, .dict (as := []) (bs := as) ho hx.1 hd ?_ ?_, ?_⟩
    · rw [List.map_fst_zip (Nat.le_of_eq ln), k1]
      exact pairs_keys hp
    · rw [List.map_snd_zip (Nat.le_of_eq ln.symm), pairs_vals hp]
      exact q
    · intro z
      rcases List.mem_cons.mp z with e | e
      · exact absurd low (by rw [← e]; simp)
      · exact m e
theorem ShAll.reads (I : Inv X pins σ H s) : ∀ (vs : List V) (ds : List PyData) (us : List Value), ShAll H vs ds → Vals vs us → ∃ as, ReadsAll s.heap us ds as ∧ sysModules ∉ as
  | _, _, _, .nil, r => by cases r; exact ⟨_, .nil, List.not_mem_nil⟩
  | _, _, _, .cons h t, r => by
    cases r with
    | cons r1 r2 =>
      obtain ⟨as, q1, m1⟩ := Sh.reads I _ _ _ h r1
      obtain ⟨bs, q2, m2⟩ := ShAll.reads I _ _ _ t r2
      exact ⟨_, .cons q1 q2, fun z => (List.mem_append.mp z).elim m1 m2⟩
end
end
def rRepr : List V → Hp → VK → Prop := fun xs H Q => ∃ x d, xs = [x] ∧ Sh H x d ∧ d.showable = true ∧ d.shown.length ≤ sizeLine ∧ d.depth ≤ 50 ∧ Q (.str d.shown) H
theorem call_repr {X : Cx} (nothing : X.A.guards = some []) (hu : X.A.units + 64 < cLine) : CallR X (.builtin "repr") rRepr := by
  intro pins s σ H xs us Q I r h
  obtain ⟨x, d, rfl, sh, able, fits, deep, q⟩ := h
  cases r with
  | @cons _ u _ _ r1 r2 =>
    cases r2
    obtain ⟨as, rd, low⟩ := Sh.reads I _ _ _ sh r1
    have fin : ∀ h' t tk, (∀ b o, s.heap.get? b = some o → h'.get? b = some o) → EP X pins σ Q (.str d.shown t) { s with heap := h', toks := tk } := fun h' t tk kept => ⟨.str d.shown, H, I.kept kept, ⟨t, rfl⟩, q⟩
    cases sh with
    | non => cases r1; exact PySem.P.repr_of_none (fin _ _ _ fun _ _ z => z)
    | bl b => cases r1; exact PySem.P.repr_of_bool (fin _ _ _ fun _ _ z => z)
    | int i => obtain ⟨t, rfl⟩ := r1; exact PySem.P.repr_of_int (of_decide_eq_true able) (fin _ _ _ fun _ _ z => z)
    | str x => obtain ⟨t, rfl⟩ := r1; exact PySem.P.repr_of_str (fin _ _ _ fun _ _ z => z) fits
    | lst _ _ _ => cases r1; exact repr_of_reads' rd able (fun _ => low) nothing (by omega) (fun _ _ z => z) fin fits
    | tup _ _ => cases r1; exact repr_of_reads' rd able (fun _ => low) nothing (by omega) (fun _ _ z => z) fin fits
    | dic _ _ => cases r1; exact repr_of_reads' rd able (fun _ => low) nothing (by omega) (fun _ _ z => z) fin fits
/-- a display's list is none of the interpreter's own -/
def tLstN (t : TA) : TE := fun σ H Q => t σ H fun xs H1 => xs.length ≤ sizeLine ∧ ∀ p, H1 p = none → p ≠ sysModules → Q (.ref p) (upd H1 p (.lst xs))
theorem pe_lstN {X : Cx} {es : List Expr} {t : TA} {pos : Pos} (h : PA X es t) : PE X (.List es pos) (tLstN t) := by
  refine ⟨fun pins s σ H Q I told => wpAny_List_spliced (thn (h.run pos pins s σ H _ I told) ?_)⟩
  rintro us s1 ⟨xs, H1, J, r, small, q⟩
  have free : H1 s1.heap.objs.size = none := J.hok.fresh (Nat.le_refl _)
  refine ⟨by rw [← r.length]; exact small, .ref s1.heap.objs.size, upd H1 s1.heap.objs.size (.lst xs), J.laid (t' := s1.toks) (fun b u z => Heap.get?_push_of_some _ z) (Nat.le_refl _) ⟨small, us, 0, r, Heap.get?_push_size _ rfl⟩, rfl, q _ free (Nat.ne_of_gt J.big)⟩
/-! ### the end of a law whose defs are called where nothing is being shown -/
theorem law_G {P : Program} {w : World} {K : PySem.W.Frag} {mg mb : Str → Option Value} {CX : CXT} {k : Nat} {fa a : Addr} {fd : FuncData} {x : Str} {sp : Sp} {s : Shared} {vs : List Value} {ns : List Int}
    (inK : K.In s.heap) (gl : s.heap.Ns mainGlobals mg) (bl : s.heap.Ns builtinsNs mb) (boot : ∀ y : Str, y ≠ "__name__" → mb y = bootBuiltins y) (lim : s.heap.NoLimit) (ng : s.gens = #[])
    (at_ : s.heap.get? a = some { cls := .type "list", data := .seq vs.toArray }) (are : IntsAre vs ns) (small : ns.length ≤ sizeLine) (room : Room k callerA)
    (F : ∀ bs : Heap, K.In bs → bs.Ns mainGlobals mg → FnG P w K mg bs CX k fa fd [x] sp) (bound : ∀ (s : Shared) (u : Value), BindsTo s fd ⟨[u], []⟩ [(x, u)])
    (told : ∀ H : Hp, Only H → SqL K H a (ns.map V.int) → sp [.ref a] H (fun v _ => v = .bl true) fun _ _ _ => False)
    (noX : ∀ H e s', CX [] H s (fun _ _ _ => False) e s' → False) :
    codeAny (model P w) callerA (.call (.ref fa) ⟨[.ref a], []⟩) (fun r s' => r = .ok (.ret (.bool true)) ∧ OldK s.heap s'.heap ∧ s'.os = s.os ∧ AllBare s'.gens) s := by
  have main : ∀ H : Hp, Only H → SqL K H a (ns.map V.int) → HOk P w H s.heap → (∀ b, H b ≠ none → b = a) → (H a ≠ none → K.lookup a = none) →
      codeAny (model P w) callerA (.call (.ref fa) ⟨[.ref a], []⟩) (fun r s' => r = .ok (.ret (.bool true)) ∧ OldK s.heap s'.heap ∧ s'.os = s.os ∧ AllBare s'.gens) s := by
    intro H only list ok alone out
    have seen : ∀ {b : Addr} {o : Obj}, s.heap.get? b = some o → H b = none → (hidT s.heap H).get? b = some o := fun z n => hidT_get z n
    have dict : ∀ {b : Addr} {o : Obj} {es : Array DictEntry} {ep : Nat}, s.heap.get? b = some o → o.data = .dict es ep → H b = none := by
      intro b o es ep z dz
      refine Classical.byContradiction fun some_ => ?_
      have eb := alone b some_
      rw [eb, at_] at z
      cases z
      cases (show Data.seq vs.toArray _ = Data.dict es ep from dz)
    have names : ∀ {b : Addr} {m : Str → Option Value}, s.heap.Ns b m → (hidT s.heap H).Ns b m := by
      rintro b m ⟨o, es, ep, z, dz, rest⟩
      exact ⟨o, es, ep, seen z (dict z dz), dz, rest⟩
    have inB : K.In (hidT s.heap H) := by
      intro b o z
      refine seen (inK b o z) (Classical.byContradiction fun some_ => ?_)
      have eb := alone b some_
      subst eb
      rw [out some_] at z
      cases z
    obtain ⟨ml, l1, l2⟩ := lim
    have mod : Mod K mg (hidT s.heap H) := ⟨inB, names gl, ⟨mb, names bl, boot⟩, ⟨ml, names l1, l2⟩⟩
    have env : Env0 P w K mg (hidT s.heap H) callerA [] s H := { frames := rfl, mod := mod, bs := fun b o z => of_hidT z, bsz := Nat.le_of_eq (hidT_size _ _), funs := trivial, frf := (fun b hb => by cases (show b ∈ ([] : List Addr) from hb)), hok := ok, bare := .of_eq ng }
    refine codeAny_mono ((F _ inB (names gl)).go callerA rfl room [] s H _ [.ref a] [.ref a] _ _ env (bound s (.ref a)) (.cons rfl .nil) (told H only list)) fun r s2 z => ?_
    match r, z with
    | .error e, z => exact (noX H e s2 z).elim
    | .ok .next, z => exact z.elim
    | .ok .brk, z => exact z.elim
    | .ok .cont, z => exact z.elim
    | .ok (.ret u), ⟨v, H2, os, bare, un, ok2, rel, q⟩ =>
      cases (show v = V.bl true from q)
      cases (show u = Value.bool true from rel)
      refine ⟨rfl, OldK.of_keep fun b o z => ?_, os, bare⟩
      by_cases hb : H b = none
      · exact un.keep b o z hb (fun m => by cases (show b ∈ ([] : List Addr) from m)) (fun m => by cases m)
      · rcases only b with n | ⟨ob, xs, f⟩
        · exact absurd n hb
        · have o1 := (ok b _ f).1
          have o2 := (ok2 b _ (un.frzs b ob _ f)).1
          rw [z] at o1
          rw [Option.some.inj o1]
          exact o2
  have rel := vals_ints are
  cases hk : K.lookup a with
  | some o =>
    have z := inK a o hk
    rw [at_] at z
    cases z
    exact main (fun _ => none) (fun _ => .inl rfl) (.inr ⟨_, vs.toArray, _, hk, rfl, rfl, rfl, by rw [List.size_toArray, are.length]; exact small, by simpa using rel⟩) (fun b u z => by cases z) (fun b z => absurd rfl z) fun z => absurd rfl z
  | none =>
    have on : ∀ b : Addr, b = a → (if b = a then some (HO.frz { cls := .type "list", data := .seq vs.toArray } (.lst (ns.map V.int))) else none) = some (HO.frz { cls := .type "list", data := .seq vs.toArray } (.lst (ns.map V.int))) := fun b e => if_pos e
    refine main (fun b => if b = a then some (.frz { cls := .type "list", data := .seq vs.toArray } (.lst (ns.map V.int))) else none) (fun b => ?_) (.inl (.inr ⟨_, on a rfl⟩)) (fun b u z => ?_) (fun b z => ?_) fun _ => hk
    · rcases Classical.em (b = a) with e | e
      · exact .inr ⟨_, _, on b e⟩
      · exact .inl (if_neg e)
    · rcases Classical.em (b = a) with e | e
      · have := (on b e).symm.trans z
        cases this
        subst e
        exact ⟨at_, by rw [List.length_map]; exact small, vs, _, rel, at_⟩
      · have := (if_neg e).symm.trans z
        cases this
    · exact Classical.byContradiction fun e => z (if_neg e)
theorem walk_G {l : PySem.W.OpenLaw} {n k : Nat} {q : Program} {loose : List Str} {XP : (Str → Option Value) → Heap → Prop} {YP : World → Heap → Prop} {d : DefRec} {K : Params → PySem.W.Frag} {CX : World → CXT} {sp : World → Sp} {x : Str}
    (most : l.most = some n) (small : n ≤ sizeLine) (nodef : d.params.defaults = []) (room : Room k callerA) (inK : ∀ (w : World) (h : Heap), YP w h → (K w.params).In h)
    (F : ∀ (w : World) (mg : Str → Option Value) (fa : Addr) (h : Heap), (K w.params).In h → h.Ns mainGlobals mg → mg d.name = some (.ref fa) →
      ∃ fd : FuncData, (∀ (s : Shared) (u : Value), BindsTo s fd ⟨[u], []⟩ [(x, u)]) ∧ ∀ bs : Heap, (K w.params).In bs → bs.Ns mainGlobals mg → FnG l.prog w (K w.params) mg bs (CX w) k fa fd [x] (sp w))
    (told : ∀ (w : World) (H : Hp) (a : Addr) (ns : List Int), ns.length ≤ n → Only H → SqL (K w.params) H a (ns.map V.int) → sp w [.ref a] H (fun v _ => v = .bl true) fun _ _ _ => False)
    (noX : ∀ (w : World) (H : Hp) (s : Shared) (e : Value) (s' : Shared), CX w [] H s (fun _ _ _ => False) e s' → False) :
    PySem.W.WalkO q loose XP YP l.row.toRowW d [] (fun f vs => PySem.call f vs) := by
  refine Att.attach_call most nodef fun w s₀ s₁ mg mb fa o pm cd doc a vs ns G Y ho hd hcd hmg hobj hints hlen hg => ?_
  obtain ⟨fd, bound, FG⟩ := F w mg fa _ (inK w _ Y) G.T.g hmg
  exact law_G (inK w _ Y) G.T.g G.T.b G.T.builtins G.T.nolimit hg hobj hints (Nat.le_trans hlen small) room FG bound (fun H only list => told w H a ns hlen only list) fun H e s2 => noX w H s₁ e s2

/-! ### the end of a law whose defs are called where nothing is being shown, with tables of code objects -/
def LawAtG (l : PySem.W.OpenLaw) (w : World) (K : PySem.W.Frag) (CX : CXT) (k n : Nat) (x : Str) (mg : Str → Option Value) (f : Addr) (top : Heap) : Prop :=
  ∃ (fd : FuncData) (ts : List (Addr × Addr)) (sp : Sp), (∀ t ∈ ts, top.get? t.2 = some { cls := .none, data := .fields #[] }) ∧ (∀ t ∈ ts, K.lookup t.2 = none) ∧ (∀ t ∈ ts, PySem.W.CodeHd top t.1 t.2) ∧ (∀ (st : Shared) (v : Value), BindsTo st fd ⟨[v], []⟩ [(x, v)]) ∧
    (∀ (H : Hp) (p : Addr) (zs : List Int), zs.length ≤ n → (∀ z ∈ zs, Builtin.Int.intBits z ≤ 1048576) → (∀ t ∈ ts, H t.2 = some (.tbl #[])) → SqL K H p (zs.map V.int) → sp [.ref p] H (fun v _ => v = .bl true) fun _ _ _ => False) ∧
    ∀ under : Heap, K.In under → under.Ns mainGlobals mg → (∀ t ∈ ts, LamX.TabB under mg t.1 t.2) → FnG l.prog w K mg under CX k f fd [x] sp
theorem law_GT {P : Program} {w : World} {K : PySem.W.Frag} {mg mb : Str → Option Value} {CX : CXT} {k : Nat} {f p : Addr} {ts : List (Addr × Addr)} {fd : FuncData} {x : Str} {sp : Sp} {s : Shared} {us : List Value} {zs : List Int}
    (inK : K.In s.heap) (gl : s.heap.Ns mainGlobals mg) (bl : s.heap.Ns builtinsNs mb) (boot : ∀ y : Str, y ≠ "__name__" → mb y = bootBuiltins y) (lim : s.heap.NoLimit) (ng : s.gens = #[])
    (bare : ∀ t ∈ ts, s.heap.get? t.2 = some { cls := .none, data := .fields #[] }) (out : ∀ t ∈ ts, K.lookup t.2 = none) (code : ∀ t ∈ ts, PySem.W.CodeHd s.heap t.1 t.2)
    (bmod : ∃ (m : Addr) (o : Obj), mg "__builtins__" = some (.ref m) ∧ m ≠ builtinsNs ∧ s.heap.get? m = some o ∧ o.cls = .type "module" ∧ o.dict = some builtinsNs ∧ o.data = .plain)
    (script : s.heap.get? p = some { cls := .type "list", data := .seq us.toArray }) (are : IntsAre us zs) (small : zs.length ≤ sizeLine) (room : Room k callerA)
    (F : ∀ under : Heap, K.In under → under.Ns mainGlobals mg → (∀ t ∈ ts, LamX.TabB under mg t.1 t.2) → FnG P w K mg under CX k f fd [x] sp) (bound : ∀ (st : Shared) (v : Value), BindsTo st fd ⟨[v], []⟩ [(x, v)])
    (told : ∀ H : Hp, (∀ t ∈ ts, H t.2 = some (.tbl #[])) → SqL K H p (zs.map V.int) → sp [.ref p] H (fun v _ => v = .bl true) fun _ _ _ => False)
    (noX : ∀ H e st, CX [] H s (fun _ _ _ => False) e st → False) :
    codeAny (model P w) callerA (.call (.ref f) ⟨[.ref p], []⟩) (fun r st => r = .ok (.ret (.bool true)) ∧ OldK s.heap st.heap ∧ st.os = s.os ∧ AllBare st.gens) s := by
  have tabAt : ∀ c ∈ ts.map Prod.snd, s.heap.get? c = some { cls := .none, data := .fields #[] } := by
    intro c hc
    obtain ⟨t, ht, rfl⟩ := List.mem_map.mp hc
    exact bare t ht
  have inTs : ∀ {t : Addr × Addr}, t ∈ ts → t.2 ∈ ts.map Prod.snd := fun ht => List.mem_map_of_mem ht
  have pNo : ¬ p ∈ ts.map Prod.snd := by
    intro hp
    have both := (tabAt p hp).symm.trans script
    have kinds := congrArg (fun o : Option Obj => o.map Obj.cls) both
    simp at kinds
  have main : ∀ H : Hp, (∀ t ∈ ts, H t.2 = some (.tbl #[])) → (∀ c, H c = none ∨ c ∈ ts.map Prod.snd ∨ ∃ o ys, H c = some (.frz o (.lst ys))) → SqL K H p (zs.map V.int) → HOk P w H s.heap → (∀ c, H c ≠ none → c = p ∨ c ∈ ts.map Prod.snd) → (H p ≠ none → K.lookup p = none) →
      codeAny (model P w) callerA (.call (.ref f) ⟨[.ref p], []⟩) (fun r st => r = .ok (.ret (.bool true)) ∧ OldK s.heap st.heap ∧ st.os = s.os ∧ AllBare st.gens) s := by
    intro H tabs kinds list ok alone off
    have free : ∀ {c : Addr} {o : Obj}, s.heap.get? c = some o → (∀ ys m, ¬ o.data = .seq ys m) → ¬ o.data = .fields #[] → H c = none := by
      intro c o ho n1 n2
      refine Classical.byContradiction fun some_ => ?_
      rcases alone c some_ with rfl | hc
      · cases Option.some.inj (ho.symm.trans script)
        exact n1 _ _ rfl
      · cases Option.some.inj (ho.symm.trans (tabAt c hc))
        exact n2 rfl
    have names : ∀ {c : Addr} {m : Str → Option Value}, s.heap.Ns c m → (hidT s.heap H).Ns c m := by
      rintro c m ⟨o, es, ep, ho, dz, more⟩
      refine ⟨o, es, ep, hidT_get ho (free ho (fun ys j z => ?_) fun z => ?_), dz, more⟩ <;> exact Data.noConfusion (dz.symm.trans z)
    have inB : K.In (hidT s.heap H) := by
      intro c o ho
      refine hidT_get (inK c o ho) (Classical.byContradiction fun some_ => ?_)
      rcases alone c some_ with rfl | hc
      · exact absurd (ho.symm.trans (off some_)) (by simp)
      · obtain ⟨t, ht, rfl⟩ := List.mem_map.mp hc
        exact absurd (ho.symm.trans (out t ht)) (by simp)
    obtain ⟨ml, l1, l2⟩ := lim
    have mod : L2.Mod K mg (hidT s.heap H) := ⟨inB, names gl, ⟨mb, names bl, boot⟩, ⟨ml, names l1, l2⟩⟩
    have tables : ∀ t ∈ ts, LamX.TabB (hidT s.heap H) mg t.1 t.2 := by
      intro t ht
      constructor
      · obtain ⟨o, ys, file, tf, flags, tg, inF, text, tt, c1, c2, c3, c4, c5, c6, c7, c8, c9, c10⟩ := code t ht
        refine ⟨o, ys, file, tf, flags, tg, inF, text, tt, hidT_get c1 (free c1 (fun us j z => Data.noConfusion (c3.symm.trans z)) fun z => ?_), c2, c3, c4, c5, c6, c7, c8, c9, c10⟩
        have z2 := c3.symm.trans z
        cases z2
        simp at c4
      · obtain ⟨m, o, b1, b2, b3, b4, b5, b6⟩ := bmod
        refine ⟨m, o, b1, b2, fun z => ?_, fun z => ?_, hidT_get b3 (free b3 (fun us j z => Data.noConfusion (b6.symm.trans z)) fun z => Data.noConfusion (b6.symm.trans z)), b4, b5, b6⟩
        · obtain ⟨o', es, ep, ho, dz, _⟩ := gl
          subst z
          cases Option.some.inj (b3.symm.trans ho)
          exact Data.noConfusion (b6.symm.trans dz)
        · subst z
          cases Option.some.inj (b3.symm.trans (bare t ht))
          exact Data.noConfusion b6
      · intro z
        obtain ⟨o', es, ep, ho, dz, _⟩ := gl
        rw [z] at ho
        cases Option.some.inj (ho.symm.trans (bare t ht))
        exact Data.noConfusion dz
    have env : Env0 P w K mg (hidT s.heap H) callerA [] s H := { frames := rfl, mod := mod, bs := fun c o z => of_hidT z, bsz := Nat.le_of_eq (hidT_size _ _), funs := trivial, frf := (fun c hc => by cases (show c ∈ ([] : List Addr) from hc)), hok := ok, bare := .of_eq ng }
    refine codeAny_mono ((F _ inB (names gl) tables).go callerA rfl room [] s H _ [.ref p] [.ref p] _ _ env (bound s (.ref p)) (.cons rfl .nil) (told H tabs list)) fun r st z => ?_
    match r, z with
    | .error e, z => exact (noX H e st z).elim
    | .ok .next, z => exact z.elim
    | .ok .brk, z => exact z.elim
    | .ok .cont, z => exact z.elim
    | .ok (.ret u), ⟨v, H2, os, bg, un, ok2, rel, q⟩ =>
      cases (show v = V.bl true from q)
      cases (show u = Value.bool true from rel)
      have old : ∀ c o, ¬ c ∈ ts.map Prod.snd → s.heap.get? c = some o → st.heap.get? c = some o := by
        intro c o nc ho
        by_cases hc : H c = none
        · exact un.keep c o ho hc (fun m => by cases (show c ∈ ([] : List Addr) from m)) (fun m => by cases m)
        · rcases kinds c with n | n | ⟨ob, ys, fz⟩
          · exact absurd n hc
          · exact absurd n nc
          · have o1 := (ok c _ fz).1
            have o2 := (ok2 c _ (un.frzs c ob _ fz)).1
            rw [ho] at o1
            rw [Option.some.inj o1]
            exact o2
      have grown : ∀ c ∈ ts.map Prod.snd, ∃ more : Array Value, st.heap.get? c = some { cls := .none, data := .fields more } := by
        intro c hc
        obtain ⟨t, ht, rfl⟩ := List.mem_map.mp hc
        obtain ⟨more, hm⟩ := un.tbls t.2 #[] (tabs t ht)
        exact ⟨_, ok2 t.2 _ hm⟩
      refine ⟨rfl, ⟨fun c o ho => ?_, fun c o ho => ?_⟩, os, bg⟩
      · by_cases hc : c ∈ ts.map Prod.snd
        · obtain ⟨more, hm⟩ := grown c hc
          obtain ⟨t, ht, rfl⟩ := List.mem_map.mp hc
          cases Option.some.inj (ho.symm.trans (bare t ht))
          exact .inr (.inl ⟨((code t ht).tab (bare t ht)).isCodeTable, rfl, #[], more, rfl, by rw [Array.empty_append]; exact hm⟩)
        · exact .inl (old c o hc ho)
      · by_cases hc : c ∈ ts.map Prod.snd
        · obtain ⟨more, hm⟩ := grown c hc
          exact ⟨_, hm⟩
        · exact ⟨o, old c o hc ho⟩
  have rel := vals_ints are
  let base : Hp := fun c => if c ∈ ts.map Prod.snd then some (.tbl #[]) else none
  have onT : ∀ {c : Addr}, c ∈ ts.map Prod.snd → base c = some (.tbl #[]) := fun hc => if_pos hc
  have offT : ∀ {c : Addr}, ¬ c ∈ ts.map Prod.snd → base c = none := fun hc => if_neg hc
  cases hk : K.lookup p with
  | some o =>
    cases Option.some.inj ((inK p o hk).symm.trans script)
    refine main base (fun t ht => onT (inTs ht)) (fun c => ?_) (.inr ⟨_, us.toArray, _, hk, rfl, rfl, rfl, by rw [List.size_toArray, are.length]; exact small, by simpa using rel⟩) (fun c u z => ?_) (fun c z => ?_) fun z => absurd (offT pNo) z
    · rcases Classical.em (c ∈ ts.map Prod.snd) with hc | hc
      · exact .inr (.inl hc)
      · exact .inl (offT hc)
    · rcases Classical.em (c ∈ ts.map Prod.snd) with hc | hc
      · cases Option.some.inj ((onT hc).symm.trans z)
        exact tabAt c hc
      · exact absurd ((offT hc).symm.trans z) (by simp)
    · exact .inr (Classical.byContradiction fun hc => z (offT hc))
  | none =>
    let frz : HO := .frz { cls := .type "list", data := .seq us.toArray } (.lst (zs.map V.int))
    have onP : (fun c => if c = p then some frz else base c) p = some frz := if_pos rfl
    have offP : ∀ {c : Addr}, ¬ c = p → (fun c => if c = p then some frz else base c) c = base c := fun hc => if_neg hc
    refine main (fun c => if c = p then some frz else base c) (fun t ht => ?_) (fun c => ?_) (.inl (.inr ⟨_, onP⟩)) (fun c u z => ?_) (fun c z => ?_) fun _ => hk
    · refine (offP fun e => pNo ?_).trans (onT (inTs ht))
      rw [← e]
      exact inTs ht
    · rcases Classical.em (c = p) with rfl | e
      · exact .inr (.inr ⟨_, _, onP⟩)
      · rcases Classical.em (c ∈ ts.map Prod.snd) with hc | hc
        · exact .inr (.inl hc)
        · exact .inl ((offP e).trans (offT hc))
    · rcases Classical.em (c = p) with rfl | e
      · cases Option.some.inj (onP.symm.trans z)
        exact ⟨script, by rw [List.length_map]; exact small, us, _, rel, script⟩
      · have z := (offP e).symm.trans z
        rcases Classical.em (c ∈ ts.map Prod.snd) with hc | hc
        · cases Option.some.inj ((onT hc).symm.trans z)
          exact tabAt c hc
        · exact absurd ((offT hc).symm.trans z) (by simp)
    · rcases Classical.em (c = p) with e | e
      · exact .inl e
      · exact .inr (Classical.byContradiction fun hc => z ((offP e).trans (offT hc)))
theorem walk_GT {l : PySem.W.OpenLaw} {n k : Nat} {q : Program} {loose : List Str} {XP : (Str → Option Value) → Heap → Prop} {YP : World → Heap → Prop} {d : DefRec} {CX : World → CXT} {x : Str}
    (most : l.most = some n) (small : n ≤ sizeLine) (nodef : d.params.defaults = []) (room : Room k callerA)
    (F : ∀ (w : World) (mg : Str → Option Value) (f : Addr) (top : Heap), YP w top → top.Ns mainGlobals mg → mg d.name = some (.ref f) → ∃ K : PySem.W.Frag, K.In top ∧ LawAtG l w K (CX w) k n x mg f top)
    (noX : ∀ (w : World) (H : Hp) (s : Shared) (e : Value) (st : Shared), CX w [] H s (fun _ _ _ => False) e st → False) :
    PySem.W.WalkO q loose XP YP l.row.toRowW d [] (fun f vs => PySem.call f vs) := by
  refine Att.attach_callB most nodef fun w s0 s mg mb f o pm cd doc p us zs G Y ho hd hcd named script are few bits ng => ?_
  obtain ⟨K, inK, fd, ts, sp, bare, out, code, bound, told, FG⟩ := F w mg f _ Y G.T.g named
  exact law_GT inK G.T.g G.T.b G.T.builtins G.T.nolimit ng bare out code G.T.bmain script are (Nat.le_trans few small) room FG bound (fun H tabs list => told H p zs few bits tabs list) fun H e st => noX w H s e st

/-! ### data made by the law or the program: numbers, truths, texts, lists and tuples of these -/
mutual
inductive Tk (H : Hp) : V → PyData → Prop
  | bl (b : Bool) : Tk H (.bl b) (.bool b)
  | int (i : Int) : Tk H (.int i) (.int i)
  | str (x : Str) : Tk H (.str x) (.str x)
  | lst {a : Addr} {xs : List V} {ds : List PyData} : H a = some (.lst xs) → TkAll H xs ds → Tk H (.ref a) (.list ds)
  | tup {a : Addr} {xs : List V} {ds : List PyData} : H a = some (.tup xs) → TkAll H xs ds → Tk H (.ref a) (.tuple ds)
inductive TkAll (H : Hp) : List V → List PyData → Prop
  | nil : TkAll H [] []
  | cons {v : V} {vs : List V} {d : PyData} {ds : List PyData} : Tk H v d → TkAll H vs ds → TkAll H (v :: vs) (d :: ds)
end
theorem TkAll.length {H : Hp} : ∀ {vs : List V} {ds : List PyData}, TkAll H vs ds → vs.length = ds.length
  | _, _, .nil => rfl
  | _, _, .cons _ t => by rw [List.length_cons, List.length_cons, t.length]
mutual
theorem Tk.same {H H' : Hp} (s : Same H H') : ∀ {v : V} {d : PyData}, Tk H v d → Tk H' v d
  | _, _, .bl b => .bl b
  | _, _, .int i => .int i
  | _, _, .str x => .str x
  | _, _, .lst h t => .lst (s _ _ h) (t.same s)
  | _, _, .tup h t => .tup (s _ _ h) (t.same s)
theorem TkAll.same {H H' : Hp} (s : Same H H') : ∀ {vs : List V} {ds : List PyData}, TkAll H vs ds → TkAll H' vs ds
  | _, _, .nil => .nil
  | _, _, .cons h t => .cons (h.same s) (t.same s)
end
theorem TkAll.get {H : Hp} : ∀ {xs : List V} {ds : List PyData} {j : Nat} {x : V}, TkAll H xs ds → xs[j]? = some x → ∃ d, ds[j]? = some d ∧ Tk H x d
  | _, _, _, _, .nil, h => by simp at h
  | _, _, 0, _, .cons (d := d) a _, h => by
    cases (Option.some.inj h)
    exact ⟨d, rfl, a⟩
  | _, _, j + 1, _, .cons _ t, h => t.get h
theorem TkAll.append {H : Hp} : ∀ {xs ys : List V} {ds es : List PyData}, TkAll H xs ds → TkAll H ys es → TkAll H (xs ++ ys) (ds ++ es)
  | _, _, _, _, .nil, t => t
  | _, _, _, _, .cons a r, t => .cons a (r.append t)
theorem TkAll.ints {H : Hp} : ∀ ns : List Int, TkAll H (ns.map V.int) (ns.map PyData.int)
  | [] => .nil
  | n :: r => .cons (.int n) (TkAll.ints r)
theorem Tk.int_inv {H : Hp} {v : V} {i : Int} (h : Tk H v (.int i)) : v = .int i := by cases h; rfl
theorem Tk.tup_inv {H : Hp} {v : V} {ds : List PyData} (h : Tk H v (.tuple ds)) : ∃ a xs, v = .ref a ∧ H a = some (.tup xs) ∧ TkAll H xs ds := by
  cases h with
  | tup h t => exact ⟨_, _, rfl, h, t⟩
theorem Tk.lst_inv {H : Hp} {v : V} {ds : List PyData} (h : Tk H v (.list ds)) : ∃ a xs, v = .ref a ∧ H a = some (.lst xs) ∧ TkAll H xs ds := by
  cases h with
  | lst h t => exact ⟨_, _, rfl, h, t⟩
theorem TkAll.int_inv {H : Hp} : ∀ {vs : List V} {ns : List Int}, TkAll H vs (ns.map PyData.int) → vs = ns.map V.int
  | _, [], .nil => rfl
  | _, n :: r, .cons h t => by rw [List.map_cons, h.int_inv, t.int_inv]
/-- heaps without one place -/
def hd1 (p : Addr) (H : Hp) : Hp := fun b => if b = p then none else H b
theorem hd1_le {p : Addr} {H : Hp} : Same (hd1 p H) H := fun b o e => by
  unfold hd1 at e
  by_cases h : b = p
  · rw [if_pos h] at e; cases e
  · rw [if_neg h] at e; exact e
theorem hd1_same {p : Addr} {H H' : Hp} (s : Same H H') : Same (hd1 p H) (hd1 p H') := fun b o e => by
  unfold hd1 at e ⊢
  by_cases h : b = p
  · rw [if_pos h] at e; cases e
  · rw [if_neg h] at e ⊢; exact s _ _ e
theorem hd1_upd {p : Addr} {H : Hp} {o : HO} : Same (hd1 p H) (hd1 p (upd H p o)) := fun b x e => by
  unfold hd1 at e ⊢
  by_cases h : b = p
  · rw [if_pos h] at e; cases e
  · rw [if_neg h] at e ⊢; rw [upd_ne h]; exact e
theorem hd1_at {p b : Addr} {H : Hp} (h : b ≠ p) : hd1 p H b = H b := if_neg h
theorem hd1_of {p : Addr} {H H' : Hp} (s : Same H H') (n : H p = none) : Same H (hd1 p H') := fun b o e => by
  rw [hd1_at (ne_of_none e n)]
  exact s _ _ e
theorem same_of_hd1 {p : Addr} {H H' : Hp} {o : HO} (s : Same H (hd1 p H')) : Same H (upd H' p o) := fun b x e => by
  have z := s b x e
  unfold hd1 at z
  by_cases h : b = p
  · rw [if_pos h] at z; cases z
  · rw [if_neg h] at z; rw [upd_ne h]; exact z

/-! ### tables and gates -/
def tabOf (bs : List Bool) : Str := ⟨(bs.map fun b => if b = true then 49 else 48).toArray⟩
def plc (ws : List Int) : Int := ws.foldl (fun p w => 2 * p + w) 0
def gateM (bs : List Bool) (ws : List Int) : Int := if bs.getD (plc ws).toNat false = true then 1 else 0
theorem plc_snoc (ws : List Int) (w : Int) : plc (ws ++ [w]) = 2 * plc ws + w := by
  unfold plc
  rw [List.foldl_append]
  rfl
theorem plc_take {ws : List Int} {i : Nat} {u : Int} (h : ws[i]? = some u) : plc (ws.take (i + 1)) = 2 * plc (ws.take i) + u := by
  rw [List.take_add_one, h]
  exact plc_snoc _ _
theorem plc_bd : ∀ (n : Nat) (ws : List Int), ws.length = n → (∀ w ∈ ws, w = 0 ∨ w = 1) → 0 ≤ plc ws ∧ plc ws < 2 ^ n := by
  intro n
  induction n with
  | zero =>
    intro ws h _
    cases List.eq_nil_of_length_eq_zero h
    decide
  | succ n ih =>
    intro ws h hw
    have hne : ws ≠ [] := fun z => by rw [z] at h; cases h
    obtain ⟨r, x, rfl⟩ : ∃ r x, ws = r ++ [x] := ⟨ws.dropLast, ws.getLast hne, (List.dropLast_concat_getLast hne).symm⟩
    have hr := ih r (by rw [List.length_append] at h; simpa using h) fun w h' => hw w (List.mem_append_left _ h')
    have hx := hw x (by simp)
    rw [plc_snoc, Int.pow_succ]
    omega
theorem gate01 (bs : List Bool) (ws : List Int) : gateM bs ws = 0 ∨ gateM bs ws = 1 := by
  unfold gateM
  split
  · exact .inr rfl
  · exact .inl rfl
theorem int_sign (b : Bool) : PySem.intText? ⟨#[if b = true then 49 else 48]⟩ = some (if b = true then 1 else 0) := by
  cases b <;> decide +kernel
def spGate (K : PySem.W.Frag) : Sp := fun vs H Q _ => ∃ (bs : List Bool) (la : Addr) (ws : List Int), vs = [.str (tabOf bs), .ref la] ∧ SqL K H la (ws.map V.int) ∧ (∀ w ∈ ws, w = 0 ∨ w = 1) ∧ bs.length = 2 ^ ws.length ∧ ws.length ≤ 3 ∧ Q (.int (gateM bs ws)) H
theorem gate_read {bs : List Bool} {ws : List Int} (hw : ∀ w ∈ ws, w = 0 ∨ w = 1) (hb : bs.length = 2 ^ ws.length) (h3 : ws.length ≤ 3) : ∃ b : Bool, 0 ≤ plc ws ∧ plc ws < 2 ^ 63 ∧ plc ws < (tabOf bs).length ∧ (tabOf bs).cps[(plc ws).toNat]? = some (if b = true then 49 else 48) ∧ gateM bs ws = if b = true then 1 else 0 := by
  obtain ⟨p0, p1⟩ := plc_bd _ ws rfl hw
  have p8 : plc ws < 8 := by
    have : (2 : Int) ^ ws.length ≤ 8 := by
      have : ws.length = 0 ∨ ws.length = 1 ∨ ws.length = 2 ∨ ws.length = 3 := by omega
      rcases this with h | h | h | h <;> rw [h] <;> decide
    omega
  have hlt : (plc ws).toNat < bs.length := by
    have : ((2 ^ ws.length : Nat) : Int) = (2 : Int) ^ ws.length := by simp
    omega
  refine ⟨bs[(plc ws).toNat], p0, by omega, ?_, ?_, ?_⟩
  · have : (tabOf bs).length = bs.length := by simp [tabOf, Str.length]
    rw [this]
    omega
  · simp [tabOf, List.getElem?_eq_getElem hlt]
  · unfold gateM
    rw [List.getD_eq_getElem?_getD, List.getElem?_eq_getElem hlt]
    rfl

/-! ### walks -/
theorem gx_tup {α : Type} {K : PySem.W.Frag} {a : Addr} {xs : List V} {g : TG} {tt : TT} {te : TE} {vs : List Nat} {σ0 : L2.St} {End : α → Hp → Prop} {Yd : α → V → Hp → (α → Hp → Prop) → Prop} {a0 : α} {H0 : Hp} (Pv : Nat → α → Hp → Prop) (h0 : Pv 0 a0 H0)
    (hl : ∀ i c H, i ≤ xs.length → Pv i c H → SqT K H a xs)
    (hs : ∀ i x c H, xs[i]? = some x → Pv i c H → g x σ0 H fun σ2 H2 => wipe σ2 vs = σ0 ∧ tt σ2 H2 fun b H3 => if b = true then te σ2 H3 fun y H4 => Yd c y H4 (Pv (i + 1)) else Pv (i + 1) c H3) (hd : ∀ c H, Pv xs.length c H → End c H) :
    ∃ W : Nat → Nat → α → Hp → Prop, (∃ m, W 0 m a0 H0) ∧ tGx (Itt K a) g tt te σ0 vs End Yd W := by
  refine ⟨fun i m c H => m = xs.length - i ∧ i ≤ xs.length ∧ Pv i c H, ⟨xs.length, rfl, Nat.zero_le _, h0⟩, ?_⟩
  rintro i m c H ⟨rfl, hi, p⟩
  by_cases hlt : i < xs.length
  · have hx : xs[i]? = some xs[i] := List.getElem?_eq_getElem hlt
    refine .inr ⟨⟨xs, xs[i], hl i c H hi p, hx⟩, Pv (i + 1), fun c' H' p' => ⟨xs.length - (i + 1), by omega, rfl, hlt, p'⟩, fun x H' y => ?_⟩
    obtain ⟨rfl, y⟩ := y
    exact hs i x c _ (y xs (hl i c _ hi p)) p
  · have e : i = xs.length := by omega
    subst e
    exact .inl ⟨⟨xs, hl _ c H hi p, Nat.le_refl _⟩, hd c H p⟩
theorem lc_zipT {K : PySem.W.Frag} {a b : Addr} {xs ys : List V} {g : TG} {tt : TT} {te : TE} {vs : List Nat} {σ : L2.St} {H1 : Hp} {D : Addr} {Qd : Hp → Prop} (el : xs.length = ys.length) (Pv : Nat → Hp → Prop) (h0 : Pv 0 (upd H1 D (.lst []))) (hl : ∀ i H, i ≤ xs.length → Pv i H → SqT K H a xs ∧ SqT K H b ys)
    (hs : ∀ i x y T H, xs[i]? = some x → ys[i]? = some y → H T = none → Pv i H → g (.ref T) (wipe σ vs) (upd H T (.tup [x, y])) fun σ2 H2 => wipe σ2 vs = wipe σ vs ∧ tt σ2 H2 fun b H3 =>
      if b = true then te σ2 H3 fun y H4 => ∃ acc, H4 D = some (.lst acc) ∧ acc.length < sizeLine ∧ Pv (i + 1) (upd H4 D (.lst (acc ++ [y]))) else Pv (i + 1) H3) (hd : ∀ H, Pv xs.length H → Qd H) :
    ∃ W : Nat → Nat → Hp → Prop, (∃ m, W 0 m (upd H1 D (.lst []))) ∧ ∀ i m H, W i m H →
      ((RZ.ItzT K a b).stop i H ∧ Qd H) ∨ ((RZ.ItzT K a b).go i H ∧ ∃ Nx : Hp → Prop, (∀ H', Nx H' → ∃ m', m' < m ∧ W (i + 1) m' H') ∧ ∀ x H', (RZ.ItzT K a b).yld i H x H' → g x (wipe σ vs) H' fun σ2 H2 => wipe σ2 vs = wipe σ vs ∧ tt σ2 H2 fun b H3 =>
        if b = true then te σ2 H3 fun y H4 => ∃ acc, H4 D = some (.lst acc) ∧ acc.length < sizeLine ∧ Nx (upd H4 D (.lst (acc ++ [y]))) else Nx H3) := by
  refine ⟨fun i m H => m = xs.length - i ∧ i ≤ xs.length ∧ Pv i H, ⟨xs.length, by simp, Nat.zero_le _, h0⟩, ?_⟩
  rintro i m H ⟨rfl, hi, p⟩
  obtain ⟨qx, qy⟩ := hl i H hi p
  by_cases hlt : i < xs.length
  · have hx : xs[i]? = some xs[i] := List.getElem?_eq_getElem hlt
    have hy : ys[i]? = some (ys[i]'(by omega)) := List.getElem?_eq_getElem _
    refine .inr ⟨⟨xs, ys, _, _, qx, qy, hx, hy⟩, Pv (i + 1), fun H' p' => ⟨xs.length - (i + 1), by omega, rfl, hlt, p'⟩, fun x H' y => ?_⟩
    obtain ⟨T, x1, y1, rfl, nT, rfl, e1, e2⟩ := y
    exact hs i x1 y1 T H (e1 xs qx) (e2 ys qy) nT p
  · have e : i = xs.length := by omega
    subst e
    exact .inl ⟨⟨xs, ys, qx, qy, .inl (Nat.le_refl _)⟩, hd H p⟩

/-! ### enumerate(tuple) -/
theorem draws_tuple {P : Program} {w : World} {A : Around} (hA : A.handled = none) (it a : Addr) (items : Array Value) (hne : a ≠ it) : Draws P w A it [it, a] items.size (fun i v => items[i]? = some v) (fun i h => h.IsTupleIter it a i ∧ h.IsTuple a items) where
  live := fun _ _ st => let ⟨o, ho, _⟩ := st.1; ⟨o, ho⟩
  frame := fun _ _ _ st hk => ⟨st.1.at fun o e => hk it (by simp) o e, by
    obtain ⟨o, ho, r⟩ := st.2
    exact ⟨o, hk a (by simp) o ho, r⟩⟩
  item := fun i s Q E hi st hQ => by
    refine RZ.nextOf_tuple_item st.1 st.2 (x := items[i]) (by simp [hi]) fun h' hit' hs' => ?_
    refine hQ _ h' s.toks (by simp [hi]) ⟨hit', ?_⟩ hs'
    obtain ⟨o, ho, r⟩ := st.2
    exact ⟨o, hs'.extBut a o hne ho, r⟩
  done := fun s Q E st hE => RZ.nextOf_tuple_end hA st.1 st.2 (by simp) hE
open PySem.AutoSeq1 in
set_option maxHeartbeats 1000000 in
theorem meets_enumerate_newT (l : Addr) (items : Array Value) (o : Obj) (hc : o.cls = .type "tuple") (n : Nat) (hd : o.data = .seq items n) :
    Meets (Builtin.«enumerate.__new__» ⟨[.type "enumerate", .ref l], []⟩) (fun _ R s => s.heap.get? l = some o ∧
      R (.ok (.ret (.ref (s.heap.push { cls := .type "tuple_iterator", data := .fields #[.ref l, .int 0 0] }).objs.size)))
        { s with heap := (s.heap.push { cls := .type "tuple_iterator", data := .fields #[.ref l, .int 0 0] }).push { cls := .type "enumerate", data := .fields #[.none, .bool false, .ref s.heap.objs.size, rawInt 0, .none, .none] } }) :=
  .of_wp fun prog w A R s h => by
    obtain ⟨hp, g, d, tk, os⟩ := s; obtain ⟨hl, h⟩ := h
    have hsub := sub_enumerate
    have hL : Heap.IsTuple (Shared.heap ⟨hp, g, d, tk, os⟩) l items := ⟨_, hl, hc, n, hd⟩
    wp_walk using wpAny_loadPart' hl
    refine wpAny_stack_any fun st => wpAny_pure ?_
    split
    · rename_i c _ _ _ _ _
      cases (c == Value.type "enumerate")
      · wp_walk using wpAny_loadPart' hl, wpAny_pyIter_tuple hL
        exact ⟨_, rfl, h⟩
      · wp_walk using wpAny_loadPart' hl, wpAny_pyIter_tuple hL
        exact ⟨_, rfl, h⟩
    · wp_walk using wpAny_loadPart' hl, wpAny_pyIter_tuple hL
      exact ⟨_, rfl, h⟩
theorem call_enumerate_tuple {prog : Program} {w : World} {A : Around} {E : Value → Shared → Prop} {s : Shared} {l : Addr} {items : Array Value} {Q : Value → Shared → Prop} (hL : s.heap.IsTuple l items)
    (h : ∀ h', IsEnum h' (s.heap.objs.size + 1) s.heap.objs.size 0 .none → h'.IsTupleIter s.heap.objs.size l 0 → h'.objs.size = s.heap.objs.size + 2 →
      (∀ b o, s.heap.get? b = some o → h'.get? b = some o) → Q (.ref (s.heap.objs.size + 1)) { s with heap := h' }) :
    wpAny (model prog w) A (call (.type "enumerate") [.ref l]) Q E s := by
  obtain ⟨o, hl, hc, n, hd⟩ := hL
  refine callType_new F.called_enumerate (by decide) (F.typeCall_enumerate_1 _) (F.newCall_enumerate_1 _) (fun obj => F.args_object_init_2 obj _) F.entry_enumerate_new
    (meets_enumerate_newT l items o hc n hd) ⟨hl, ?_⟩
  have hz : (s.heap.push { cls := .type "tuple_iterator", data := .fields #[.ref l, .int 0 0] }).objs.size = s.heap.objs.size + 1 := Heap.size_push ..
  show _ ∧ _
  rw [hz]
  have he : IsEnum ((s.heap.push { cls := .type "tuple_iterator", data := .fields #[.ref l, .int 0 0] }).push
      { cls := .type "enumerate", data := .fields #[.none, .bool false, .ref s.heap.objs.size, rawInt 0, .none, .none] }) (s.heap.objs.size + 1) s.heap.objs.size 0 .none := by
    have := Heap.get?_push_size (s.heap.push { cls := .type "tuple_iterator", data := .fields #[.ref l, .int 0 0] })
      (o := { cls := .type "enumerate", data := .fields #[.none, .bool false, .ref s.heap.objs.size, rawInt 0, .none, .none] }) rfl
    rw [hz] at this; exact this
  refine ⟨⟨_, he, rfl⟩, h _ he ⟨_, Heap.get?_push_of_some _ (Heap.get?_push_size _ rfl), rfl, rfl⟩ (by rw [Heap.size_push, hz]) fun b o x => Heap.get?_push_of_some _ (Heap.get?_push_of_some _ x)⟩
/-- the tuple at a, each item in a new pair -/
def IteT (K : PySem.W.Frag) (a : Addr) : It :=
  ⟨fun i H => ∃ (xs : List V) (x : V), SqT K H a xs ∧ xs[i]? = some x, fun i H v H' => ∃ T x, v = .ref T ∧ H T = none ∧ H' = upd H T (.tup [.int (i : Nat), x]) ∧ ∀ xs, SqT K H a xs → xs[i]? = some x, fun i H => ∃ xs : List V, SqT K H a xs ∧ xs.length = i⟩
theorem turn_enumT {P : Program} {w : World} {K : PySem.W.Frag} {elts : List Expr} {kk : Nat} {tpos : Pos} (a e it : Addr) :
    Turn P w K (.Tuple elts kk tpos) (IteT K a) [e, it] e (fun i h => (∃ old, IsEnum h e it ((i : Nat) : Int) old) ∧ h.IsTupleIter it a i ∧ e ≠ it) where
  mem := by simp
  obj := fun i h st b hb => by
    obtain ⟨⟨old, he⟩, ⟨o, ho, hc, hd⟩, _⟩ := st
    have e' : b = e ∨ b = it := by simpa using hb
    rcases e' with z | z
    · rw [z]; exact ⟨_, he, fun v q => nomatch q⟩
    · rw [z]; exact ⟨o, ho, fun v q => by rw [hd] at q; cases q⟩
  keep := fun i h h' st k => let ⟨⟨old, he⟩, hi, hne⟩ := st; ⟨⟨old, k e (by simp) _ he⟩, hi.at fun o q => k it (by simp) o q, hne⟩
  item := by
    intro X hP hw hK hc i pins s σ H E I hf st hg
    subst hP hw hK
    obtain ⟨⟨old, he⟩, hit, hne⟩ := st
    obtain ⟨xs, x, hq, hx⟩ := hg
    obtain ⟨its, rv, p, hz⟩ := I.tuple hq
    obtain ⟨u, hu, ru⟩ := rv.get hx
    have hel : e < s.heap.objs.size := Heap.lt_size he
    have hil : it < s.heap.objs.size := by obtain ⟨_, q, _⟩ := hit; exact Heap.lt_size q
    have hpt : s.heap.IsTuple a its.toArray := p
    have hai : a ≠ it := fun z => by
      obtain ⟨o1, h1, c1, _⟩ := hpt
      obtain ⟨o2, h2, c2, _⟩ := hit
      rw [z, h2] at h1
      cases h1
      rw [c2] at c1
      exact absurd (Value.type.inj c1) (by decide)
    have hae : e ≠ a := fun z => by
      obtain ⟨o1, h1, c1, _⟩ := hpt
      rw [← z, he] at h1
      cases h1
      exact absurd (Value.type.inj c1) (by decide)
    have hil2 : i < its.toArray.size := by
      rw [List.size_toArray]
      exact (List.getElem?_eq_some_iff.mp hu).1
    refine wpAny_pyNext_enum_itemD (draws_tuple (A := X.A.in1) (I.ok.hd hc) it a its.toArray hai) he ⟨hit, hpt⟩ hil2 hne (by simp only [List.mem_cons, List.not_mem_nil, or_false, not_or]; exact ⟨hne, hae⟩) fun y h' tk hy ho hst hT hsz hk => ?_
    have hyu : y = u := by
      have : its[i]? = some y := by simpa using hy
      rw [hu] at this
      exact (Option.some.inj this).symm
    subst hyu
    have hit' := hst.1
    refine ⟨_, rfl, wpAny_letOwnedTupleGo_enum (s := { s with heap := h', toks := tk + 1 }) ho fun h'' he' sb => ?_⟩
    have hT2 : h''.get? s.heap.objs.size = some { cls := .type "tuple", data := .seq #[.int i tk, y] } := (sb.2 _ (Nat.ne_of_gt hel)).trans hT
    have new : ObjOk X.prog X.w (upd H s.heap.objs.size (.tup [.int (i : Nat), x])) h'' s.heap.objs.size (.tup [.int (i : Nat), x]) :=
      ⟨by show 2 ≤ sizeLine; decide, [.int i tk, y], .cons ⟨_, rfl⟩ (.cons ru .nil), ⟨_, hT2, rfl, _, rfl⟩⟩
    have I1 : Inv X pins σ (upd H s.heap.objs.size (.tup [.int (i : Nat), x])) { s with heap := h'', toks := tk + 1 } :=
      I.turnedNew (ch := [e, it]) (fun b ob hb q => (sb.2 b (fun z => hb (by simp [z]))).trans (hk b ob (fun z => hb (by simp [z])) (fun z => hb (by simp [z])) q)) hf (Nat.le_refl _) new
    refine ⟨.ref s.heap.objs.size, _, I1, rfl, ⟨_, x, rfl, I.hok.fresh (Nat.le_refl _), rfl, fun ys hy => by rw [I.tuple_inj hy hq]; exact hx⟩, ⟨⟨y, ?_⟩, hit'.at fun o q => (sb.2 it (Ne.symm hne)).trans q, hne⟩, fun b hb => ?_⟩
    · have e1 : ((i + 1 : Nat) : Int) = (i : Int) + 1 := by omega
      rw [e1]; exact he'
    · have hb' : b < s.heap.objs.size := by
        have e' : b = e ∨ b = it := by simpa using hb
        rcases e' with z | z
        · rw [z]; exact hel
        · rw [z]; exact hil
      rw [upd_ne (Nat.ne_of_lt hb')]
      exact (hf b hb).1
  done := by
    intro X hP hw hK hc i pins s σ H E I hf st hg
    subst hP hw hK
    obtain ⟨⟨old, he⟩, hit, hne⟩ := st
    obtain ⟨xs, hq, hx⟩ := hg
    obtain ⟨its, rv, p, hz⟩ := I.tuple hq
    obtain ⟨f0, f1, f2, f3, f4, f5⟩ := hf it (by simp)
    have hl := rv.length
    have hpt : s.heap.IsTuple a its.toArray := p
    have hai : a ≠ it := fun z => by
      obtain ⟨o1, h1, c1, _⟩ := hpt
      obtain ⟨o2, h2, c2, _⟩ := hit
      rw [z, h2] at h1
      cases h1
      rw [c2] at c1
      exact absurd (Value.type.inj c1) (by decide)
    have hn : i = its.toArray.size := by rw [List.size_toArray]; omega
    exact wpAny_pyNext_enum_endD (draws_tuple (A := X.A.in1) (I.ok.hd hc) it a its.toArray hai) he (by rw [← hn]; exact ⟨hit, hpt⟩) fun h' eb => ⟨rfl, I.turned (t' := s.toks) (fun b o hb q => eb b o hb q) f0 f1 f3 f4 f5⟩
  self := fun A i s Q E st h => let ⟨⟨_, he⟩, _⟩ := st; wpAny_pyIter_enum he h
def iEnumT (K : PySem.W.Frag) (ta : TA) : TI := fun σ H R => ta σ H fun vs H1 => ∃ a xs, vs = [.ref a] ∧ SqT K H1 a xs ∧ R (IteT K a) H1
theorem pi_enumT {X : Cx} {e : Expr} {ta : TA} {p pos tpos : Pos} {elts : List Expr} {kk : Nat} (hg : Gl X "enumerate") (hm : X.mg "enumerate" = none) (ha : PA X [e] ta) (hs : starEach [e] X.env = [(false, eval e X.env)] := by rfl) :
    PI X (.Tuple elts kk tpos) (.Call (.Name "enumerate" p) [e] [] pos) (iEnumT X.K ta) := by
  refine ⟨fun pins s σ H R I h => ?_⟩
  refine Call_ (ld_blt I hg hm boot_enumerate (PyProof.Rows.callWith_type1 (thn (ha.run pos pins s σ H _ I h) fun us s1 ⟨vs, H1, I1, r1, q1⟩ => ?_) hs rfl))
  obtain ⟨a, xs, ex, hq, q⟩ := q1
  subst ex
  cases r1 with
  | cons r rr =>
    cases rr
    cases r
    obtain ⟨its, rv, p', hz⟩ := I1.tuple hq
    refine call_enumerate_tuple p' fun h' he hit hsz hk => wpAny_pyIter_enum he ?_
    have I2 : Inv X pins σ H1 { s1 with heap := h' } := I1.kept (t' := s1.toks) hk
    refine ⟨s1.heap.objs.size + 1, [s1.heap.objs.size + 1, s1.heap.objs.size], _, _, H1, rfl, I2, turn_enumT a (s1.heap.objs.size + 1) s1.heap.objs.size, ⟨⟨.none, he⟩, hit, Nat.succ_ne_self _⟩, fun b hb => ?_, q⟩
    have e' : b = s1.heap.objs.size + 1 ∨ b = s1.heap.objs.size := by simpa using hb
    have hle : s1.heap.objs.size ≤ b := by
      rcases e' with z | z
      · rw [z]; exact Nat.le_add_right _ _
      · rw [z]; exact Nat.le_refl _
    exact I1.fpOk hle (I1.hok.fresh hle)
theorem gx_enum {α : Type} {K : PySem.W.Frag} {a : Addr} {xs : List V} {g : TG} {tt : TT} {te : TE} {vs : List Nat} {σ0 : L2.St} {End : α → Hp → Prop} {Yd : α → V → Hp → (α → Hp → Prop) → Prop} {a0 : α} {H0 : Hp} (Pv : Nat → α → Hp → Prop) (h0 : Pv 0 a0 H0)
    (hl : ∀ i c H, i ≤ xs.length → Pv i c H → SqT K H a xs)
    (hs : ∀ i x T c H, xs[i]? = some x → H T = none → Pv i c H → g (.ref T) σ0 (upd H T (.tup [.int (i : Nat), x])) fun σ2 H2 => wipe σ2 vs = σ0 ∧ tt σ2 H2 fun b H3 => if b = true then te σ2 H3 fun y H4 => Yd c y H4 (Pv (i + 1)) else Pv (i + 1) c H3) (hd : ∀ c H, Pv xs.length c H → End c H) :
    ∃ W : Nat → Nat → α → Hp → Prop, (∃ m, W 0 m a0 H0) ∧ tGx (IteT K a) g tt te σ0 vs End Yd W := by
  refine ⟨fun i m c H => m = xs.length - i ∧ i ≤ xs.length ∧ Pv i c H, ⟨xs.length, rfl, Nat.zero_le _, h0⟩, ?_⟩
  rintro i m c H ⟨rfl, hi, p⟩
  by_cases hlt : i < xs.length
  · have hx : xs[i]? = some xs[i] := List.getElem?_eq_getElem hlt
    refine .inr ⟨⟨xs, xs[i], hl i c H hi p, hx⟩, Pv (i + 1), fun c' H' p' => ⟨xs.length - (i + 1), by omega, rfl, hlt, p'⟩, fun x H' y => ?_⟩
    obtain ⟨T, x1, rfl, nT, rfl, e1⟩ := y
    exact hs i x1 T c H (e1 xs (hl i c _ hi p)) nT p
  · have e : i = xs.length := by omega
    subst e
    exact .inl ⟨⟨xs, hl _ c H hi p, rfl⟩, hd c H p⟩
theorem gx_str {α : Type} {z : Str} {g : TG} {tt : TT} {te : TE} {vs : List Nat} {σ0 : L2.St} {End : α → Hp → Prop} {Yd : α → V → Hp → (α → Hp → Prop) → Prop} {a0 : α} {H0 : Hp} (Pv : Nat → α → Hp → Prop) (h0 : Pv 0 a0 H0)
    (hs : ∀ i x c H, z.cps[i]? = some x → Pv i c H → g (.str ⟨#[x]⟩) σ0 H fun σ2 H2 => wipe σ2 vs = σ0 ∧ tt σ2 H2 fun b H3 => if b = true then te σ2 H3 fun y H4 => Yd c y H4 (Pv (i + 1)) else Pv (i + 1) c H3) (hd : ∀ c H, Pv z.cps.size c H → End c H) :
    ∃ W : Nat → Nat → α → Hp → Prop, (∃ m, W 0 m a0 H0) ∧ tGx (Its z) g tt te σ0 vs End Yd W := by
  refine ⟨fun i m c H => m = z.cps.size - i ∧ i ≤ z.cps.size ∧ Pv i c H, ⟨z.cps.size, rfl, Nat.zero_le _, h0⟩, ?_⟩
  rintro i m c H ⟨rfl, hi, p⟩
  by_cases hlt : i < z.cps.size
  · refine .inr ⟨hlt, Pv (i + 1), fun c' H' p' => ⟨z.cps.size - (i + 1), by omega, rfl, hlt, p'⟩, fun x H' y => ?_⟩
    obtain ⟨rfl, ch, hc, rfl⟩ := y
    exact hs i ch c _ hc p
  · have e : i = z.cps.size := by omega
    subst e
    exact .inl ⟨Nat.le_refl _, hd c H p⟩

/-! ### nets, and the words of nets -/
abbrev Gt := List Bool × List Nat
def gD (g : Gt) : PyData := .tuple [.str (tabOf g.1), .tuple ((g.2.map Int.ofNat).map PyData.int)]
def netD (many : Int) (gs : List Gt) : PyData := .tuple [.int many, .tuple (gs.map gD)]
def rowD (r : List Int) : PyData := .tuple (r.map PyData.int)
def chD (a b : List Int) : PyData := .tuple [rowD a, rowD b]
def GtOk (n : Nat) (g : Gt) : Prop := g.1.length = 2 ^ g.2.length ∧ 1 ≤ g.2.length ∧ g.2.length ≤ 3 ∧ ∀ i ∈ g.2, i < n
def NetOk (n : Nat) (gs : List Gt) : Prop := ∀ k g, gs[k]? = some g → GtOk (n + k) g
def Row01 (r : List Int) : Prop := ∀ x ∈ r, x = 0 ∨ x = 1
mutual
theorem Tk.gr {H H' : Hp} (s : Gr H H') : ∀ {v : V} {d : PyData}, Tk H v d → Tk H' v d
  | _, _, .bl b => .bl b
  | _, _, .int i => .int i
  | _, _, .str x => .str x
  | _, _, .lst h t => .lst (s.lst h) (t.gr s)
  | _, _, .tup h t => .tup (s.tup h) (t.gr s)
theorem TkAll.gr {H H' : Hp} (s : Gr H H') : ∀ {vs : List V} {ds : List PyData}, TkAll H vs ds → TkAll H' vs ds
  | _, _, .nil => .nil
  | _, _, .cons h t => .cons (h.gr s) (t.gr s)
end
theorem Tk.row_inv {H : Hp} {v : V} {r : List Int} (h : Tk H v (rowD r)) : ∃ a, v = .ref a ∧ H a = some (.tup (r.map V.int)) := by
  obtain ⟨a, xs, rfl, ha, t⟩ := h.tup_inv
  rw [t.int_inv] at ha
  exact ⟨a, rfl, ha⟩
theorem Tk.ch_inv {H : Hp} {v : V} {a b : List Int} (h : Tk H v (chD a b)) : ∃ c ra rb, v = .ref c ∧ H c = some (.tup [.ref ra, .ref rb]) ∧ H ra = some (.tup (a.map V.int)) ∧ H rb = some (.tup (b.map V.int)) := by
  obtain ⟨c, xs, rfl, hc, t⟩ := h.tup_inv
  cases t with
  | cons h1 t => cases t with
    | cons h2 t =>
      cases t
      obtain ⟨ra, rfl, ha⟩ := h1.row_inv
      obtain ⟨rb, rfl, hb⟩ := h2.row_inv
      exact ⟨c, ra, rb, rfl, hc, ha, hb⟩
theorem Tk.net_inv {H : Hp} {v : V} {m : Int} {gs : List Gt} (h : Tk H v (netD m gs)) : ∃ n g xs, v = .ref n ∧ H n = some (.tup [.int m, .ref g]) ∧ H g = some (.tup xs) ∧ TkAll H xs (gs.map gD) := by
  obtain ⟨n, xs, rfl, hn, t⟩ := h.tup_inv
  cases t with
  | cons h1 t => cases t with
    | cons h2 t =>
      cases t
      cases h1
      obtain ⟨g, ys, rfl, hg, t2⟩ := h2.tup_inv
      exact ⟨n, g, ys, rfl, hn, hg, t2⟩
theorem Tk.gt_inv {H : Hp} {v : V} {g : Gt} (h : Tk H v (gD g)) : ∃ a i, v = .ref a ∧ H a = some (.tup [.str (tabOf g.1), .ref i]) ∧ H i = some (.tup ((g.2.map Int.ofNat).map V.int)) := by
  obtain ⟨a, xs, rfl, ha, t⟩ := h.tup_inv
  cases t with
  | cons h1 t => cases t with
    | cons h2 t =>
      cases t
      cases h1
      obtain ⟨i, rfl, hi⟩ := (show Tk H _ (rowD (g.2.map Int.ofNat)) from h2).row_inv
      exact ⟨a, i, rfl, ha, hi⟩
theorem TkAll.at {H : Hp} {α : Type} {f : α → PyData} {xs : List V} {ds : List α} (t : TkAll H xs (ds.map f)) {j : Nat} {v : V} (h : xs[j]? = some v) : ∃ x, ds[j]? = some x ∧ Tk H v (f x) := by
  obtain ⟨dx, hdx, tx⟩ := t.get h
  rw [List.getElem?_map] at hdx
  cases hz : ds[j]? with
  | none => rw [hz] at hdx; cases hdx
  | some x =>
    rw [hz] at hdx
    cases Option.some.inj hdx
    exact ⟨x, rfl, tx⟩
theorem TkAll.at' {H : Hp} {α : Type} {f : α → PyData} {xs : List V} {ds : List α} (t : TkAll H xs (ds.map f)) {j : Nat} {x : α} (h : ds[j]? = some x) : ∃ v, xs[j]? = some v ∧ Tk H v (f x) := by
  have hl := t.length
  rw [List.length_map] at hl
  have hj := (List.getElem?_eq_some_iff.mp h).1
  obtain ⟨y, hy, ty⟩ := t.at (List.getElem?_eq_getElem (l := xs) (i := j) (by omega))
  cases Option.some.inj (h.symm.trans hy)
  exact ⟨_, List.getElem?_eq_getElem _, ty⟩
theorem grow_upd {H H' : Hp} {p : Addr} {o : HO} (g : Gr H H') (n : H' p = none) : Gr H (upd H' p o) := g.trans (Gr.none n)
/-- no table, no older list: only the list at D is written -/
def GrD (D : Addr) (H H' : Hp) : Prop := Gr H (hd1 D H')
theorem GrD.gr {D : Addr} {H H' : Hp} (g : GrD D H H') : Gr H H' := g.trans (Gr.of hd1_le)
theorem TabG_hd1 {D P : Addr} {H : Hp} (h : GxR.TabG H P) (n : D ≠ P) : GxR.TabG (hd1 D H) P := by
  obtain ⟨ps, e, t⟩ := h
  exact ⟨ps, by rw [hd1_at (Ne.symm n)]; exact e, t⟩
theorem GrD.new {D : Addr} {H : Hp} {o : HO} (n : H D = none) : GrD D H (upd H D o) := Gr.of (hd1_of (same_upd n) n)
theorem hd1_gr {D : Addr} {H H' : Hp} (g : Gr H H') (hD : ∀ P, GxR.TabG H P → D ≠ P) : Gr (hd1 D H) (hd1 D H') := by
  refine ⟨fun b o n e => ?_, fun b t => ?_⟩
  · have hb : b ≠ D := fun z => by
      unfold hd1 at e
      rw [if_pos z] at e; cases e
    rw [hd1_at hb] at e ⊢
    exact g.1 b o n e
  · obtain ⟨ps, e, t⟩ := t
    have e' := hd1_le _ _ e
    exact TabG_hd1 (g.2 b ⟨ps, e', t⟩) (hD b ⟨ps, e', t⟩)
theorem GrD.then {D : Addr} {H H1 H2 : Hp} {xs : List V} (a : GrD D H H1) (hD : H1 D = some (.lst xs)) (b : Gr H1 H2) : GrD D H H2 := a.trans (hd1_gr b fun P ⟨ps, e, _⟩ z => by
  rw [← z, hD] at e
  cases e)
theorem GrD.set {D : Addr} {H H1 : Hp} {o : HO} (a : GrD D H H1) : GrD D H (upd H1 D o) := a.trans (Gr.of hd1_upd)

end Gk

set_option Elab.async false
set_option linter.all false
set_option maxRecDepth 100000
set_option maxHeartbeats 1000000
namespace Gk
open PySem PySem.Spec PyProof.Rows L2
/-! ### data of tuples alone: no list that is written can harm it -/
mutual
def noL : PyData → Bool
  | .list _ => false
  | .tuple ds => noLs ds
  | _ => true
def noLs : List PyData → Bool
  | [] => true
  | d :: r => noL d && noLs r
end
def Ts (H H' : Hp) : Prop := ∀ b xs, H b = some (HO.tup xs) → H' b = some (.tup xs)
theorem Ts.refl {H : Hp} : Ts H H := fun _ _ e => e
theorem Ts.trans {H H1 H2 : Hp} (a : Ts H H1) (b : Ts H1 H2) : Ts H H2 := fun c xs e => b c xs (a c xs e)
theorem Ts.same {H H' : Hp} (s : Same H H') : Ts H H' := fun b xs e => s _ _ e
theorem Ts.gr {H H' : Hp} (s : Gr H H') : Ts H H' := fun b xs e => s.tup e
theorem Ts.new {H : Hp} {p : Addr} {o : HO} (h : H p = none) : Ts H (upd H p o) := Ts.same (same_upd h)
theorem Ts.set {H : Hp} {p : Addr} {xs ys : List V} (h : H p = some (.lst xs)) : Ts H (upd H p (.lst ys)) := fun b zs e => by
  rw [upd_ne (ne_of e h (by intro z; cases z))]
  exact e
mutual
theorem Tk.ts {H H' : Hp} (s : Ts H H') : ∀ {v : V} {d : PyData}, Tk H v d → noL d = true → Tk H' v d
  | _, _, .bl b, _ => .bl b
  | _, _, .int i, _ => .int i
  | _, _, .str x, _ => .str x
  | _, _, .lst h t, n => by cases n
  | _, _, .tup h t, n => .tup (s _ _ h) (t.ts s n)
theorem TkAll.ts {H H' : Hp} (s : Ts H H') : ∀ {vs : List V} {ds : List PyData}, TkAll H vs ds → noLs ds = true → TkAll H' vs ds
  | _, _, .nil, _ => .nil
  | _, _, .cons (d := d) (ds := ds) h t, n => by
    have n' : noL d = true ∧ noLs ds = true := Bool.and_eq_true_iff.mp n
    exact .cons (h.ts s n'.1) (t.ts s n'.2)
end
theorem noLs_map {α : Type} {f : α → PyData} (h : ∀ x, noL (f x) = true) : ∀ l : List α, noLs (l.map f) = true
  | [] => rfl
  | x :: r => by
    show (noL (f x) && noLs (r.map f)) = true
    rw [h x, noLs_map h r]
    rfl
theorem noL_row (r : List Int) : noL (rowD r) = true := noLs_map (fun _ => rfl) r
theorem noL_gate (g : Gt) : noL (gD g) = true := by
  show (true && (noLs ((g.2.map Int.ofNat).map PyData.int) && true)) = true
  rw [noLs_map (fun _ => rfl)]
  rfl
theorem noL_gates (gs : List Gt) : noLs (gs.map gD) = true := noLs_map noL_gate gs
theorem noL_net (m : Int) (gs : List Gt) : noL (netD m gs) = true := by
  show (true && (noLs (gs.map gD) && true)) = true
  rw [noL_gates]
  rfl
theorem noL_ch (a b : List Int) : noL (chD a b) = true := by
  show (noL (rowD a) && (noL (rowD b) && true)) = true
  rw [noL_row, noL_row]
  rfl

section
variable {P : Program} {w : World} {K : PySem.W.Frag} {mg : Str → Option Value} {base : Heap}
/-! ### the deck whose cells are taken from behind -/
def DeckC (H : Hp) (d l : Addr) (n : Int) : Prop := d ≠ l ∧ ∃ (cs : List Int) (y z : Int), H d = some (.lst [.ref l, .int y, .int z]) ∧ H l = some (.lst (cs.map V.int)) ∧ cs.length ≤ 63 ∧ 0 ≤ z ∧ z ≤ n
theorem DeckC.mono {H : Hp} {d l : Addr} {n m : Int} (D : DeckC H d l n) (h : n ≤ m) : DeckC H d l m := by
  obtain ⟨ne, cs, z, y, h1, h2, h3, h4, h5⟩ := D
  exact ⟨ne, cs, z, y, h1, h2, h3, h4, Int.le_trans h5 h⟩
theorem DeckC.same {H H' : Hp} {d l : Addr} {n : Int} (D : DeckC H d l n) (s : Same H H') : DeckC H' d l n := by
  obtain ⟨ne, cs, z, y, hd, hl, r⟩ := D
  exact ⟨ne, cs, z, y, s _ _ hd, s _ _ hl, r⟩
theorem DeckC.gr {H H' : Hp} {d l : Addr} {n : Int} (D : DeckC H d l n) (s : Gr H H') : DeckC H' d l n := by
  obtain ⟨ne, cs, z, y, hd, hl, r⟩ := D
  exact ⟨ne, cs, z, y, s.lst hd, s.lst hl, r⟩
theorem DeckC.upd {H : Hp} {d l p : Addr} {n : Int} {o : HO} (D : DeckC H d l n) (h1 : p ≠ d) (h2 : p ≠ l) : DeckC (upd H p o) d l n := by
  obtain ⟨ne, cs, z, y, hd, hl, r⟩ := D
  exact ⟨ne, cs, z, y, by rw [upd_ne h1.symm]; exact hd, by rw [upd_ne h2.symm]; exact hl, r⟩
theorem DeckC.off {H : Hp} {d l p : Addr} {n : Int} (D : DeckC H d l n) (h : H p = none) : p ≠ d ∧ p ≠ l := by
  obtain ⟨ne, cs, z, y, hd, hl, r⟩ := D
  exact ⟨(ne_of_none hd h).symm, (ne_of_none hl h).symm⟩
theorem Ts.frC {H H' : Hp} {d l : Addr} {n : Int} (D : DeckC H d l n) (f : Fr d l H H') : Ts H H' := fun b xs e => by
  obtain ⟨ne, cs, z, y, hd, hl, r⟩ := D
  exact f b _ (ne_of e hd (by intro z; cases z)) (ne_of e hl (by intro z; cases z)) e
theorem Fr.upd {d l p : Addr} {H H' : Hp} {o : HO} (f : Fr d l H H') (h : H p = none) : Fr d l H (upd H' p o) := fun b u h1 h2 e => by
  rw [upd_ne (ne_of_none e h)]
  exact f b u h1 h2 e
theorem tab_frC {H H' : Hp} {d l P : Addr} {n : Int} (D : DeckC H d l n) (f : Fr d l H H') (t : GxR.TabG H P) : GxR.TabG H' P := by
  obtain ⟨ps, e, tr⟩ := t
  obtain ⟨ne, cs, z, y, hd, hl, r⟩ := D
  exact ⟨ps, f _ _ (ne_of e hd (by intro z; cases z)) (ne_of e hl (by intro z; cases z)) e, tr⟩
theorem none_of_frC {d l p : Addr} {H H' : Hp} {n : Int} (f : Fr d l H H') (D : DeckC H' d l n) (h : H' p = none) : H p = none := by
  have o := D.off h
  cases z : H p with
  | none => rfl
  | some u => rw [f _ _ o.1 o.2 z] at h; cases h
theorem cut63 {ns : List Int} (h : ns.length ≤ 63) : cutV (ns.map V.int) none (some 63) = ns.map V.int := by
  unfold cutV
  have e : HT.sIx (ns.map V.int).length (ns.map V.int).length (some 63) = min 63 (ns.map V.int).length := HT.sIx_nat _ _ 63
  rw [HT.sIx_none, e, List.length_map, List.drop_zero]
  apply List.take_of_length_le
  rw [List.length_map]
  omega
theorem sq_same {K : PySem.W.Frag} {H H' : Hp} {a : Addr} {xs : List V} (s : Same H H') (h : SqL K H a xs) : SqL K H' a xs := h.imp (fun r => r.imp (fun e => s _ _ e) (fun ⟨ob, e⟩ => ⟨ob, s _ _ e⟩)) id
def sp_deck (K : PySem.W.Frag) : Sp := fun vs H Q _ => ∃ (a : Addr) (ns : List Int), vs = [.ref a] ∧ SqL K H a (ns.map V.int) ∧ ns.length ≤ 63 ∧ ∀ H' d l, Same H H' → DeckC H' d l 0 → Q (.ref d) H'
theorem ok_deck (T : Tx K mg) : FnOk P w K mg base CX0 1 T.f_deck T.fd_deck ["_law_script"] (sp_deck K) := by
  refine T.F_deck.ok sc_deck (fun vs H Q E h => ?_) (fun cdv A outer s H vs Q E hr h => ?_)
  · obtain ⟨a, ns, rfl, _⟩ := h
    rfl
  · obtain ⟨a, ns, rfl, hS, hlen, q⟩ := h
    refine ⟨_, (pss_one (ps_ret (pe_lst (pa_cons (RevL.pe_lstRev rfl (by rfl) T.m_list (by rfl) T.m_reversed (pe_slice sl_list (pv 0) po_none (po_some pe_int))) (pa_cons (pe_op op_add (pe_callB (cr_sum rfl) (by rfl) T.m_sum (by decide +kernel) (pa_cons (pe_slice sl_list (pv 0) po_none (po_some pe_int)) pa_nil)) (pe_callB call_len_seq (by rfl) T.m_len PySem.boot_len (pa_cons (pe_slice sl_list (pv 0) po_none (po_some pe_int)) pa_nil))) (pa_cons pe_int pa_nil)))))), ?_⟩
    refine ⟨.ref a, rfl, 63, rfl, a, _, rfl, hS, fun c1 n1 => ?_⟩
    rw [cut63 hlen]
    have s1 := same_upd (o := HO.lst (ns.map V.int)) n1
    refine ⟨c1, _, rfl, SqL.of upd_same, fun l nl => ?_⟩
    have s2 := same_upd (o := HO.lst (ns.map V.int).reverse) nl
    refine ⟨.ref a, rfl, 63, rfl, a, _, rfl, sq_same (s1.trans s2) hS, fun c3 n3 => ?_⟩
    rw [cut63 hlen]
    have s3 := same_upd (o := HO.lst (ns.map V.int)) n3
    refine ⟨c3, ns, rfl, SqL.of upd_same, .ref a, rfl, 63, rfl, a, _, rfl, sq_same ((s1.trans s2).trans s3) hS, fun c4 n4 => ?_⟩
    rw [cut63 hlen]
    have s4 := same_upd (o := HO.lst (ns.map V.int)) n4
    refine ⟨c4, _, rfl, .inl (SqL.of upd_same), _, _, rfl, rfl, sl3, fun d nd => ?_⟩
    have s5 := same_upd (o := HO.lst [V.ref l, V.int (ns.sum + ((ns.map V.int).length : Nat)), V.int 0]) nd
    have hl4 := s4 _ _ (s3 _ _ (show (upd (upd H c1 (.lst (ns.map V.int))) l (.lst (ns.map V.int).reverse)) l = _ from upd_same))
    refine q _ d l ((((s1.trans s2).trans s3).trans s4).trans s5) ⟨(ne_of_none hl4 nd).symm, ns.reverse, _, 0, upd_same, ?_, by rw [List.length_reverse]; exact hlen, Int.le_refl _, Int.le_refl _⟩
    rw [List.map_reverse]
    exact s5 _ _ hl4
def sp_mixed (K : PySem.W.Frag) : Sp := fun vs H Q _ => ∃ c k : Int, vs = [.int c, .int k] ∧ 0 ≤ k ∧ k < 2000000000 ∧ ∀ v, 0 ≤ v → Q (.int v) H
theorem ok_mixed (T : Tx K mg) : FnOk P w K mg base CX0 1 T.f_mixed T.fd_mixed ["_law_cell", "_law_k"] (sp_mixed K) := by
  refine T.F_mixed.ok sc_mixed (fun vs H Q E h => ?_) (fun cdv A outer s H vs Q E hr h => ?_)
  · obtain ⟨c, k, rfl, _⟩ := h
    rfl
  · obtain ⟨c, k, rfl, k0, k1, q⟩ := h
    refine ⟨_, (pss_cons (ps_set (i := 2) sc_mixed.nd rfl (by first | exact .inl rfl | exact .inr rfl) (pe_op op_mod (pe_op op_mul (pe_op op_add (pe_op op_add (pe_op op_mod (pv 0) pe_int) (pe_op op_mul pe_int (pv 1))) pe_int) pe_int) pe_int)) (pss_cons (ps_set (i := 2) sc_mixed.nd rfl (by first | exact .inl rfl | exact .inr rfl) (pe_op op_mod (pe_op op_add (pe_op op_add (pe_op op_mul (pv 2) (pv 2)) (pe_op op_mul pe_int (pv 1))) pe_int) pe_int)) (pss_one (ps_ret (pe_op op_add (pe_op op_mul (pv 2) pe_int) (pe_op op_mod (pe_op op_add (pe_op op_add (pe_op op_mul (pv 2) (pv 2)) (pe_op op_mul pe_int (pv 2))) (pv 1)) pe_int)))))), ?_⟩
    refine ⟨.int c, rfl, _, _, rfl, rfl, p29, .int k, rfl, 7919, k, rfl, rfl, .inl ⟨by decide, by decide⟩, _, _, rfl, rfl, _, _, rfl, rfl, _, 48271, rfl, rfl, .inr ⟨by decide, by decide⟩, _, _, rfl, rfl, p47, ?_⟩
    dsimp only
    have v0 := Int.emod_nonneg ((c % 2147483629 + 7919 * k + 1) * 48271) (show (2147483647 : Int) ≠ 0 by decide)
    have v1 := Int.emod_lt_of_pos ((c % 2147483629 + 7919 * k + 1) * 48271) (show (0 : Int) < 2147483647 by decide)
    revert v0 v1
    generalize ((c % 2147483629 + 7919 * k + 1) * 48271) % 2147483647 = v
    intro v0 v1
    refine ⟨.int v, rfl, .int v, rfl, v, v, rfl, rfl, .inl ⟨by omega, by omega⟩, .int k, rfl, 69621, k, rfl, rfl, .inl ⟨by decide, by decide⟩, _, _, rfl, rfl, _, _, rfl, rfl, _, _, rfl, rfl, p87, ?_⟩
    dsimp only
    have u0 := Int.emod_nonneg (v * v + 69621 * k + 7) (show (2147483587 : Int) ≠ 0 by decide)
    have u1 := Int.emod_lt_of_pos (v * v + 69621 * k + 7) (show (0 : Int) < 2147483587 by decide)
    revert u0 u1
    generalize (v * v + 69621 * k + 7) % 2147483587 = u
    intro u0 u1
    refine ⟨.int u, rfl, u, 2147483563, rfl, rfl, .inl ⟨by omega, by omega⟩, .int u, rfl, .int u, rfl, u, u, rfl, rfl, .inl ⟨by omega, by omega⟩, .int u, rfl, 16807, u, rfl, rfl, .inl ⟨by decide, by decide⟩, _, _, rfl, rfl, .int k, rfl, _, _, rfl, rfl, _, _, rfl, rfl, (show (0 : Int) < 2147483563 by decide), _, _, rfl, rfl, ?_⟩
    refine q _ ?_
    have a := Int.emod_nonneg (u * u + 16807 * u + k) (show (2147483563 : Int) ≠ 0 by decide)
    have b : 0 ≤ u * 2147483563 := by omega
    omega
def sp_take (K : PySem.W.Frag) : Sp := fun vs H Q _ => ∃ (d l : Addr) (m n : Int), vs = [.ref d, .int m] ∧ DeckC H d l n ∧ n < 1000000000 ∧ 0 < m ∧ m < 1073741824 ∧ ∀ H' v, DeckC H' d l (n + 1) → Fr d l H H' → 0 ≤ v → v < m → Q (.int v) H'
theorem ok_take (T : Tx K mg) : FnOk P w K mg base CX0 2 T.f_take T.fd_take ["_law_deck_here", "_law_most"] (sp_take K) := by
  refine T.F_take.ok sc_take (fun vs H Q E h => ?_) (fun cdv A outer s H vs Q E hr h => ?_)
  · obtain ⟨d, l, m, n, rfl, _⟩ := h
    rfl
  · obtain ⟨d, l, m, n, rfl, D, hn, hm0, hm1, q⟩ := h
    obtain ⟨ne, cs, y, z, hd, hl, hcs, hz0, hz1⟩ := D
    refine ⟨_, (pss_cons (ps_set (i := 2) sc_take.nd rfl (by first | exact .inl rfl | exact .inr rfl) (pe_ix ix_list (pv 0) pe_int (fun _ _ => rfl))) (pss_cons (ps_asg (pe_op op_add (pe_ix ix_list (pv 0) pe_int (fun _ _ => rfl)) pe_int) (pg_sub (pv 0) pe_int set_list)) (pss_cons (ps_if (pt_cmpR (op_eqD hr.units) (pv 2) (pe_lst pa_nil) (nomark _)) (pss_one (ps_ret (pe_op op_mod (pe_call (ok_mixed T) (hr.mono (by decide)) (by rfl) T.g_mixed T.F_mixed.kp T.b_mixed .nil pass0 (pa_cons (pe_ix ix_list (pv 0) pe_int (fun _ _ => rfl)) (pa_cons (pe_ix ix_list (pv 0) pe_int (fun _ _ => rfl)) pa_nil))) (pv 1)))) pss_nil) (pss_cons (ps_set (i := 3) sc_take.nd rfl (by first | exact .inl rfl | exact .inr rfl) (pe_bm0 PySem.F.plainAttrs_list PySem.F.slot_list_pop PySem.F.type_list_pop mt_pop (pv 2))) (pss_cons (ps_if (pt_cmpR op_lt (pv 3) (pe_op op_pow pe_int pe_int) (nomark _)) (pss_one (ps_ret (pe_op op_mod (pe_call (ok_mixed T) (hr.mono (by decide)) (by rfl) T.g_mixed T.F_mixed.kp T.b_mixed .nil pass0 (pa_cons (pv 3) (pa_cons (pe_ix ix_list (pv 0) pe_int (fun _ _ => rfl)) pa_nil))) (pv 1)))) pss_nil) (C8.pss_cut (ps_if (pt_cmpR op_gt (pe_op op_fdiv (pv 3) (pv 1)) pe_int (nomark _)) (pss_one (ps_expr (pe_bm PySem.F.plainAttrs_list PySem.F.slot_list_append PySem.F.type_list_append mt_append (pv 2) (pa_cons (pe_op op_fdiv (pv 3) (pv 1)) pa_nil)))) pss_nil) (pss_one (ps_ret (pe_op op_mod (pv 3) (pv 1)))))))))), ?_⟩
    refine ⟨.ref d, rfl, d, _, 0, .ref l, rfl, rfl, SqL.of hd, rfl, ?_⟩
    refine ⟨.ref d, rfl, d, _, 2, .int z, rfl, rfl, SqL.of hd, rfl, z, 1, rfl, rfl, .ref d, rfl, d, _, 2, 2, rfl, rfl, hd, rfl, ?_⟩
    have hd1 : (upd H d (.lst [.ref l, .int y, .int (z + 1)])) d = some (.lst [.ref l, .int y, .int (z + 1)]) := upd_same
    have hl1 : (upd H d (.lst [.ref l, .int y, .int (z + 1)])) l = some (.lst (cs.map V.int)) := by rw [upd_ne ne.symm]; exact hl
    have fr1 : Fr d l H (upd H d (.lst [.ref l, .int y, .int (z + 1)])) := Fr.d
    have hz2 : 0 ≤ z + 1 := by omega
    have hz3 : z + 1 ≤ n + 1 := by omega
    have hz4 : z + 1 < 2000000000 := by omega
    show tSeq _ _ _ _ (upd H d (.lst [.ref l, .int y, .int (z + 1)]))
    revert hd1 hl1 fr1 hz2 hz3 hz4
    generalize upd H d (.lst [.ref l, .int y, .int (z + 1)]) = H1
    generalize z + 1 = z'
    intro hd1 hl1 fr1 hz2 hz3 hz4
    refine ⟨.ref l, rfl, Nat.zero_le _, fun p np => ?_⟩
    have fr2 : Fr d l H (upd H1 p (.lst [])) := fr1.trans (Fr.new np)
    have hd2 : (upd H1 p (.lst [])) d = some (.lst [.ref l, .int y, .int z']) := same_upd np _ _ hd1
    have hl2 : (upd H1 p (.lst [])) l = some (.lst (cs.map V.int)) := same_upd np _ _ hl1
    refine ⟨.list (cs.map .int), .list [], .lst (SqL.of hl2) (dpInts cs), .lst (SqL.of upd_same) .nil, shInts cs, rfl, _, rfl, ?_⟩
    revert fr2 hd2 hl2
    generalize upd H1 p (.lst []) = H2
    intro fr2 hd2 hl2
    by_cases hc : cs = []
    · subst hc
      refine iteT ?_
      refine ⟨.ref d, rfl, d, _, 1, .int y, rfl, rfl, SqL.of hd2, rfl, .ref d, rfl, d, _, 2, .int z', rfl, rfl, SqL.of hd2, rfl, y, z', rfl, hz2, hz4, fun v v0 => ⟨.int m, rfl, _, _, rfl, rfl, hm0, ?_⟩⟩
      exact q _ _ ⟨ne, [], y, z', hd2, hl2, hcs, hz2, hz3⟩ fr2 (Int.emod_nonneg _ (by omega)) (Int.emod_lt_of_pos _ hm0)
    · obtain ⟨r, c, rfl⟩ : ∃ r c, cs = r ++ [c] := ⟨cs.dropLast, cs.getLast hc, (List.dropLast_concat_getLast hc).symm⟩
      have en : PyData.eqv (.list ((r ++ [c]).map PyData.int)) (.list []) = false := by
        cases r <;> rfl
      rw [en]
      refine iteF ?_
      have la : ((r ++ [c]).map V.int)[((r ++ [c]).map V.int).length - 1]? = some (.int c) := by simp
      refine ⟨.ref l, rfl, .inl ⟨rfl, _, SqL.of hl2⟩, l, _, .int c, rfl, rfl, hl2, la, ?_⟩
      have dl : ((r ++ [c]).map V.int).dropLast = r.map V.int := by rw [List.map_append]; exact List.dropLast_concat
      rw [dl]
      have hd3 : (upd H2 l (.lst (r.map V.int))) d = some (.lst [.ref l, .int y, .int z']) := by rw [upd_ne ne]; exact hd2
      have hl3 : (upd H2 l (.lst (r.map V.int))) l = some (.lst (r.map V.int)) := upd_same
      have fr3 : Fr d l H (upd H2 l (.lst (r.map V.int))) := fr2.trans Fr.l
      have hr63 : r.length + 1 ≤ 63 := by rw [List.length_append] at hcs; exact hcs
      revert hd3 hl3 fr3
      generalize upd H2 l (.lst (r.map V.int)) = H3
      intro hd3 hl3 fr3
      refine ⟨.int c, rfl, _, _, rfl, rfl, ⟨by decide, by decide, by decide⟩, _, _, rfl, rfl, _, rfl, ite2 (fun _ => ?_) (fun _ => ?_)⟩
      · refine ⟨.int c, rfl, .ref d, rfl, d, _, 2, .int z', rfl, rfl, SqL.of hd3, rfl, c, z', rfl, hz2, hz4, fun v v0 => ⟨.int m, rfl, _, _, rfl, rfl, hm0, ?_⟩⟩
        exact q _ _ ⟨ne, r, y, z', hd3, hl3, by omega, hz2, hz3⟩ fr3 (Int.emod_nonneg _ (by omega)) (Int.emod_lt_of_pos _ hm0)
      · refine ⟨fun σ H' => σ = [some (.ref d), some (.int m), some (.ref l), some (.int c)] ∧ ∃ cs : List Int, cs.length ≤ 63 ∧ H' d = some (.lst [.ref l, .int y, .int z']) ∧ H' l = some (.lst (cs.map V.int)) ∧ Fr d l H H', ?_, ?_⟩
        · refine ⟨.int c, rfl, .int m, rfl, _, _, rfl, rfl, ⟨hm0, hm1⟩, _, _, rfl, rfl, _, rfl, ite2 (fun _ => ?_) (fun _ => ?_)⟩
          · refine ⟨.ref l, rfl, .inl ⟨rfl, _, SqL.of hl3⟩, .int c, rfl, .int m, rfl, _, _, rfl, rfl, ⟨hm0, hm1⟩, l, _, _, rfl, rfl, hl3, ?_, ?_⟩
            · rw [List.length_map]
              exact Nat.lt_of_lt_of_le (show r.length < 64 by omega) (by decide)
            · refine ⟨rfl, r ++ [c / m], by rw [List.length_append]; exact hr63, by rw [upd_ne ne]; exact hd3, ?_, fr3.trans Fr.l⟩
              rw [upd_same, List.map_append]
              rfl
          · exact ⟨rfl, r, by omega, hd3, hl3, fr3⟩
        · rintro σ H4 ⟨rfl, cs4, l4, hd4, hl4, fr4⟩
          refine ⟨.int c, rfl, .int m, rfl, _, _, rfl, rfl, hm0, ?_⟩
          exact q _ _ ⟨ne, cs4, y, z', hd4, hl4, l4, hz2, hz3⟩ fr4 (Int.emod_nonneg _ (by omega)) (Int.emod_lt_of_pos _ hm0)

end
section
variable {P : Program} {w : World} {K : PySem.W.Frag} {mg : Str → Option Value} {base : Heap}
/-- the six classes -/
def six (T : Tx K mg) : List Addr := [T.C_NoText, T.C_TooMany, T.C_NotFormula, T.C_NoTurn, T.C_NoForms, T.C_NoRow]
def one6 (i : Nat) : List Bool := [i == 0, i == 1, i == 2, i == 3, i == 4, i == 5]
/-- the exception in hand, of the i-th class -/
def Xc (T : Tx K mg) (base : Heap) (H : Hp) (a : Addr) (i : Nat) : Prop := ∃ (D : Addr) (oe : Obj), (six T)[i]? = some D ∧ GxE.Seen base H a oe ∧ Zc (.ref D) none oe ∧ ∃ us, oe.data = .fields us
theorem Xc.same {T : Tx K mg} {base : Heap} {H H' : Hp} {a : Addr} {i : Nat} (h : Xc T base H a i) (s : Same H H') : Xc T base H' a i := by
  obtain ⟨D, oe, h1, h2, h3⟩ := h
  exact ⟨D, oe, h1, h2.same s, h3⟩
theorem kit6 (T : Tx K mg) {D : Addr} {i : Nat} (hi : i < 6) (h : (six T)[i]? = some D) : ExcC K D ∧ PySem.W.kitOne K (.ref D) (.ref T.C_NoText) = some (i == 0) ∧ PySem.W.kitOne K (.ref D) (.ref T.C_TooMany) = some (i == 1) ∧ PySem.W.kitOne K (.ref D) (.ref T.C_NotFormula) = some (i == 2) ∧ PySem.W.kitOne K (.ref D) (.ref T.C_NoTurn) = some (i == 3) ∧ PySem.W.kitOne K (.ref D) (.ref T.C_NoForms) = some (i == 4) ∧ PySem.W.kitOne K (.ref D) (.ref T.C_NoRow) = some (i == 5) ∧ PySem.W.kitOne K (.ref D) (.type "ValueError") = some true ∧ PySem.W.kitOne K (.ref D) (.ref T.C_NetError) = some true ∧ PySem.W.exmOne K (.ref D) (.ref T.C_NetError) = some true := by
  have : i = 0 ∨ i = 1 ∨ i = 2 ∨ i = 3 ∨ i = 4 ∨ i = 5 := by omega
  rcases this with rfl | rfl | rfl | rfl | rfl | rfl
  · cases Option.some.inj h; exact ⟨T.X_NoText, T.t_NoText_NoText, T.t_NoText_TooMany, T.t_NoText_NotFormula, T.t_NoText_NoTurn, T.t_NoText_NoForms, T.t_NoText_NoRow, T.v_NoText, T.t_NoText_NetError, T.x_NoText_NetError⟩
  · cases Option.some.inj h; exact ⟨T.X_TooMany, T.t_TooMany_NoText, T.t_TooMany_TooMany, T.t_TooMany_NotFormula, T.t_TooMany_NoTurn, T.t_TooMany_NoForms, T.t_TooMany_NoRow, T.v_TooMany, T.t_TooMany_NetError, T.x_TooMany_NetError⟩
  · cases Option.some.inj h; exact ⟨T.X_NotFormula, T.t_NotFormula_NoText, T.t_NotFormula_TooMany, T.t_NotFormula_NotFormula, T.t_NotFormula_NoTurn, T.t_NotFormula_NoForms, T.t_NotFormula_NoRow, T.v_NotFormula, T.t_NotFormula_NetError, T.x_NotFormula_NetError⟩
  · cases Option.some.inj h; exact ⟨T.X_NoTurn, T.t_NoTurn_NoText, T.t_NoTurn_TooMany, T.t_NoTurn_NotFormula, T.t_NoTurn_NoTurn, T.t_NoTurn_NoForms, T.t_NoTurn_NoRow, T.v_NoTurn, T.t_NoTurn_NetError, T.x_NoTurn_NetError⟩
  · cases Option.some.inj h; exact ⟨T.X_NoForms, T.t_NoForms_NoText, T.t_NoForms_TooMany, T.t_NoForms_NotFormula, T.t_NoForms_NoTurn, T.t_NoForms_NoForms, T.t_NoForms_NoRow, T.v_NoForms, T.t_NoForms_NetError, T.x_NoForms_NetError⟩
  · cases Option.some.inj h; exact ⟨T.X_NoRow, T.t_NoRow_NoText, T.t_NoRow_TooMany, T.t_NoRow_NotFormula, T.t_NoRow_NoTurn, T.t_NoRow_NoForms, T.t_NoRow_NoRow, T.v_NoRow, T.t_NoRow_NetError, T.x_NoRow_NetError⟩
def sp_kinds (T : Tx K mg) (base : Heap) : Sp := fun vs H Q _ => ∃ (a : Addr) (i : Nat), vs = [.ref a] ∧ i < 6 ∧ Xc T base H a i ∧ ∀ H' p, Same H H' → H' p = some (.lst ((one6 i).map V.bl)) → Q (.ref p) H'
theorem ok_kinds (T : Tx K mg) : GxE.FnR P w K mg base 1 T.f_kinds T.fd_kinds ["_law_error"] (sp_kinds T base) := by
  refine GxE.okR T.F_kinds sc_kinds (fun vs H Q E h => ?_) (fun cdv A outer s H vs Q p hr h => ?_)
  · obtain ⟨a, i, rfl, _⟩ := h
    rfl
  · obtain ⟨a, i, rfl, hi, xc, q⟩ := h
    refine ⟨_, (pss_cons (ps_set (i := 1) sc_kinds.nd rfl (by first | exact .inl rfl | exact .inr rfl) (pe_lst (pa_cons (pe_callB GxE.call_isX (by rfl) T.m_isinstance (by decide +kernel) (pa_cons (pv 0) (pa_cons (pe_glob (v := .ref T.C_NoText) (by rfl) T.gC_NoText rfl) pa_nil))) (pa_cons (pe_callB GxE.call_isX (by rfl) T.m_isinstance (by decide +kernel) (pa_cons (pv 0) (pa_cons (pe_glob (v := .ref T.C_TooMany) (by rfl) T.gC_TooMany rfl) pa_nil))) (pa_cons (pe_callB GxE.call_isX (by rfl) T.m_isinstance (by decide +kernel) (pa_cons (pv 0) (pa_cons (pe_glob (v := .ref T.C_NotFormula) (by rfl) T.gC_NotFormula rfl) pa_nil))) pa_nil))))) (pss_one (ps_ret (pe_op op_cat (pv 1) (pe_lst (pa_cons (pe_callB GxE.call_isX (by rfl) T.m_isinstance (by decide +kernel) (pa_cons (pv 0) (pa_cons (pe_glob (v := .ref T.C_NoTurn) (by rfl) T.gC_NoTurn rfl) pa_nil))) (pa_cons (pe_callB GxE.call_isX (by rfl) T.m_isinstance (by decide +kernel) (pa_cons (pv 0) (pa_cons (pe_glob (v := .ref T.C_NoForms) (by rfl) T.gC_NoForms rfl) pa_nil))) (pa_cons (pe_callB GxE.call_isX (by rfl) T.m_isinstance (by decide +kernel) (pa_cons (pv 0) (pa_cons (pe_glob (v := .ref T.C_NoRow) (by rfl) T.gC_NoRow rfl) pa_nil))) pa_nil)))))))), ?_⟩
    obtain ⟨D, oe, hD, seen, hz, hf⟩ := xc
    obtain ⟨X, k0, k1, k2, k3, k4, k5, kv, kn, _⟩ := kit6 T hi hD
    refine ⟨.ref a, rfl, a, D, oe, _, _, _, rfl, seen, hz, hf, X, .own _, k0, .ref a, rfl, a, D, oe, _, _, _, rfl, seen, hz, hf, X, .own _, k1, .ref a, rfl, a, D, oe, _, _, _, rfl, seen, hz, hf, X, .own _, k2, sl3, fun p1 n1 => ?_⟩
    have s1 := same_upd (o := .lst [.bl (i == 0), .bl (i == 1), .bl (i == 2)]) n1
    have h1 := upd_same (H := H) (a := p1) (o := .lst [.bl (i == 0), .bl (i == 1), .bl (i == 2)])
    generalize upd H p1 (.lst [.bl (i == 0), .bl (i == 1), .bl (i == 2)]) = H1 at s1 h1 ⊢
    have seen1 := seen.same s1
    refine ⟨.ref p1, rfl, .ref a, rfl, a, D, oe, _, _, _, rfl, seen1, hz, hf, X, .own _, k3, .ref a, rfl, a, D, oe, _, _, _, rfl, seen1, hz, hf, X, .own _, k4, .ref a, rfl, a, D, oe, _, _, _, rfl, seen1, hz, hf, X, .own _, k5, sl3, fun p2 n2 => ?_⟩
    have s2 := same_upd (o := .lst [.bl (i == 3), .bl (i == 4), .bl (i == 5)]) n2
    refine ⟨p1, p2, _, _, rfl, rfl, s2 _ _ h1, upd_same, by show 6 ≤ sizeLine; decide, fun p3 n3 => ?_⟩
    exact q _ p3 ((s1.trans s2).trans (same_upd n3)) upd_same
def sp_refused (T : Tx K mg) (base : Heap) : Sp := fun vs H Q _ => ∃ (a : Addr) (i : Nat), vs = [.ref a] ∧ i < 6 ∧ Xc T base H a i ∧ ∀ H', Same H H' → Q (.bl (i == 0)) H'
theorem ok_refused (T : Tx K mg) : GxE.FnR P w K mg base 2 T.f_refused T.fd_refused ["_law_error"] (sp_refused T base) := by
  refine GxE.okR T.F_refused sc_refused (fun vs H Q E h => ?_) (fun cdv A outer s H vs Q p hr h => ?_)
  · obtain ⟨a, i, rfl, _⟩ := h
    rfl
  · obtain ⟨a, i, rfl, hi, xc, q⟩ := h
    refine ⟨_, (pss_cons (ps_if (pw_or (pt_not (pt_val (pe_callB GxE.call_isX (by rfl) T.m_isinstance (by decide +kernel) (pa_cons (pv 0) (pa_cons (pe_glob (v := .ref T.C_NetError) (by rfl) T.gC_NetError rfl) pa_nil))))) (pw_or1 (pt_not (pt_val (pe_callB GxE.call_isX (by rfl) T.m_isinstance (by decide +kernel) (pa_cons (pv 0) (pa_cons (pe_bltn (v := .ty "ValueError") (u := .type "ValueError") (by rfl) T.m_ValueError (by decide +kernel) rfl) pa_nil))))))).pt (pss_one (ps_ret pe_bl)) pss_nil) (pss_one (ps_ret (pe_cmpR (op_eqD (GxE.unH hr)) (GxE.pe_callR (ok_kinds T) (hr.mono (by decide)) (by rfl) T.g_kinds T.F_kinds.kp T.b_kinds (pa_cons (pv 0) pa_nil)) (pe_op op_cat (pe_lst (pa_cons pe_bl pa_nil)) (pe_op op_rep (pe_lst (pa_cons pe_bl pa_nil)) pe_int)) (nomark _))))), ?_⟩
    have xc0 := xc
    obtain ⟨D, oe, hD, seen, hz, hf⟩ := xc
    obtain ⟨X, k0, k1, k2, k3, k4, k5, kv, kn, _⟩ := kit6 T hi hD
    refine ⟨.ref a, rfl, a, D, oe, _, _, true, rfl, seen, hz, hf, X, .own _, kn, true, rfl, iteF ?_⟩
    refine ⟨.ref a, rfl, a, D, oe, _, _, true, rfl, seen, hz, hf, X, .ty _, kv, true, rfl, iteF ?_⟩
    refine ⟨.ref a, rfl, a, i, rfl, hi, xc0, fun H1 p1 s1 h1 => ?_⟩
    refine ⟨sl1, fun p2 n2 => ⟨sl1, fun p3 n3 => ?_⟩⟩
    have s2 := same_upd (o := .lst [.bl true]) n2
    have s3 := same_upd (o := .lst [.bl false]) n3
    refine ⟨p3, 5, _, rfl, rfl, upd_same, by decide, by decide, by show 1 * 5 ≤ sizeLine; decide, fun p4 n4 => ?_⟩
    have s4 := same_upd (o := .lst (List.replicate (5 : Int).toNat [V.bl false]).flatten) n4
    refine ⟨p2, p4, _, _, rfl, rfl, s4 _ _ (s3 _ _ upd_same), upd_same, by show 1 + 5 ≤ sizeLine; decide, fun p5 n5 => ?_⟩
    have s5 := same_upd (o := .lst ([V.bl true] ++ (List.replicate (5 : Int).toNat [V.bl false]).flatten)) n5
    have h15 := s5 _ _ (s4 _ _ (s3 _ _ (s2 _ _ h1)))
    refine ⟨.list ((one6 i).map .bool), .list [.bool true, .bool false, .bool false, .bool false, .bool false, .bool false], .lst (SqL.of h15) (.cons (.bl _) (.cons (.bl _) (.cons (.bl _) (.cons (.bl _) (.cons (.bl _) (.cons (.bl _) .nil)))))), .lst (SqL.of upd_same) (.cons (.bl _) (.cons (.bl _) (.cons (.bl _) (.cons (.bl _) (.cons (.bl _) (.cons (.bl _) .nil)))))), rfl, rfl, ?_⟩
    have q := q _ ((((s1.trans s2).trans s3).trans s4).trans s5)
    have : i = 0 ∨ i = 1 ∨ i = 2 ∨ i = 3 ∨ i = 4 ∨ i = 5 := by omega
    rcases this with rfl | rfl | rfl | rfl | rfl | rfl <;> exact q
end
end Gk

set_option Elab.async false
set_option linter.all false
set_option maxRecDepth 100000
set_option maxHeartbeats 1000000
set_option pp.maxSteps 1500
set_option pp.deepTerms false
namespace Gk
open PySem PySem.Spec PyProof.Rows L2
/-! ### slices and sums of tuples: what is told stands in a heap that has grown -/
theorem cut_all {xs : List V} {lo hi : Option Int} (h : HT.sIx xs.length 0 lo = 0 ∧ HT.sIx xs.length xs.length hi = xs.length) : cutV xs lo hi = xs := by
  unfold cutV
  rw [h.1, h.2, List.drop_zero, Nat.sub_zero, List.take_length]
theorem same_refl {H : Hp} : Same H H := fun _ _ e => e
theorem slA {K : PySem.W.Frag} {a : Addr} {xs : List V} {lo hi : Option Int} {H : Hp} {Q : VK} (h : H a = some (.tup xs)) (q : ∀ p H', Same H H' → H' p = some (.tup (cutV xs lo hi)) → Q (.ref p) H') : rSlA K (.ref a) lo hi H Q :=
  ⟨a, xs, rfl, SqT.of h, fun w => q a H same_refl (by rw [cut_all w]; exact h), fun _ p np => q p _ (same_upd np) upd_same⟩
theorem slAn {K : PySem.W.Frag} {a : Addr} {xs : List V} {lo : Option Int} {H : Hp} {Q : VK} {σ : L2.St} (h : H a = some (.tup xs)) (q : ∀ p H', Same H H' → H' p = some (.tup (cutV xs lo none)) → Q (.ref p) H') : tNoPart σ H (fun u H3 => rSlA K (.ref a) lo u H3 Q) := slA h q
theorem catA {K : PySem.W.Frag} {a b : Addr} {xs ys : List V} {H : Hp} {Q : VK} (ha : H a = some (.tup xs)) (hb : H b = some (.tup ys)) (hl : xs.length + ys.length ≤ sizeLine) (q : ∀ p H', Same H H' → H' p = some (.tup (xs ++ ys)) → Q (.ref p) H') : rCatA K (.ref a) (.ref b) H Q :=
  ⟨a, b, xs, ys, rfl, rfl, SqT.of ha, SqT.of hb, hl, fun e => q b H same_refl (by rw [e]; exact hb), fun _ e => q a H same_refl (by rw [e, List.append_nil]; exact ha), fun _ _ p np => q p _ (same_upd np) upd_same⟩
theorem cut_to {xs : List V} {k : Nat} : cutV xs none (some (k : Int)) = xs.take k := by
  unfold cutV
  rw [HT.sIx_none, HT.sIx_nat, List.drop_zero, Nat.sub_zero]
  apply List.ext_getElem?
  intro i
  rw [List.getElem?_take, List.getElem?_take]
  by_cases h : i < k
  · rw [if_pos h]
    by_cases h2 : i < xs.length
    · rw [if_pos (by omega)]
    · rw [List.getElem?_eq_none (by omega)]
      split <;> rfl
  · rw [if_neg h, if_neg (by omega)]
theorem cut_from {xs : List V} {k : Nat} : cutV xs (some (k : Int)) none = xs.drop k := by
  unfold cutV
  rw [HT.sIx_none, HT.sIx_nat]
  by_cases h : k ≤ xs.length
  · rw [Nat.min_eq_left h]
    exact List.take_of_length_le (by rw [List.length_drop]; exact Nat.le_refl _)
  · rw [Nat.min_eq_right (by omega), Nat.sub_self, List.take_zero, List.drop_eq_nil_of_le (by omega)]
theorem TkAll.take {H : Hp} : ∀ {xs : List V} {ds : List PyData} (k : Nat), TkAll H xs ds → TkAll H (xs.take k) (ds.take k)
  | _, _, 0, _ => by rw [List.take_zero, List.take_zero]; exact .nil
  | _, _, _ + 1, .nil => .nil
  | _, _, k + 1, .cons a t => .cons a (t.take k)
theorem TkAll.drop {H : Hp} : ∀ {xs : List V} {ds : List PyData} (k : Nat), TkAll H xs ds → TkAll H (xs.drop k) (ds.drop k)
  | _, _, 0, t => t
  | _, _, _ + 1, .nil => .nil
  | _, _, k + 1, .cons _ t => t.drop k
theorem set_put {α : Type} {l : List α} {i : Nat} {x : α} (h : i < l.length) : (l.take i ++ [x]) ++ l.drop (i + 1) = l.set i x := by
  rw [List.set_eq_take_append_cons_drop, if_pos h, List.append_assoc]
  rfl
def rJoinK (K : PySem.W.Frag) : V → List V → Hp → VK → Prop := fun x xs H Q => ∃ a p, ∃ ys : List Str, x = .str a ∧ xs = [.ref p] ∧ (SqL K H p (ys.map V.str) ∨ SqT K H p (ys.map V.str)) ∧ (ys.map (·.length)).sum + ys.length * a.length ≤ 16777216 ∧ Q (.str (Txt.join a ys)) H

/-! ### sizes of what is shown -/
def fineB (n m : Nat) (d : PyData) : Bool := d.showable && (d.leavesShort 200 && (decide (d.weight ≤ n) && decide (d.depth ≤ m)))
theorem fine_iff {n m : Nat} {d : PyData} : fineB n m d = true ↔ d.showable = true ∧ d.leavesShort 200 = true ∧ d.weight ≤ n ∧ d.depth ≤ m := by
  unfold fineB
  rw [Bool.and_eq_true, Bool.and_eq_true, Bool.and_eq_true, decide_eq_true_eq, decide_eq_true_eq]
theorem fine_mono {n m n' m' : Nat} {d : PyData} (h : fineB n m d = true) (a : n ≤ n') (b : m ≤ m') : fineB n' m' d = true := by
  obtain ⟨h1, h2, h3, h4⟩ := fine_iff.mp h
  exact fine_iff.mpr ⟨h1, h2, Nat.le_trans h3 a, Nat.le_trans h4 b⟩
theorem fine_fits {n m : Nat} {d : PyData} (h : fineB n m d = true) (hn : n ≤ 50000) : d.shown.length ≤ sizeLine := by
  obtain ⟨_, h2, h3, _⟩ := fine_iff.mp h
  have := PyData.shown_le 200 (by decide) d h2
  have e : sizeLine = 16777216 := by decide
  rw [e]
  omega
theorem fine_all {n m : Nat} : ∀ {ds : List PyData}, (∀ d ∈ ds, fineB n m d = true) → PyData.showableAll ds = true ∧ PyData.leavesShortAll 200 ds = true ∧ PyData.weightAll ds ≤ ds.length * (n + 1) ∧ PyData.depthAll ds ≤ m
  | [], _ => ⟨rfl, rfl, Nat.zero_le _, Nat.zero_le _⟩
  | d :: r, h => by
    obtain ⟨a1, a2, a3, a4⟩ := fine_iff.mp (h d (List.mem_cons_self ..))
    obtain ⟨b1, b2, b3, b4⟩ := fine_all (ds := r) fun x hx => h x (List.mem_cons_of_mem _ hx)
    refine ⟨?_, ?_, ?_, ?_⟩
    · unfold PyData.showableAll
      rw [a1, b1]
      rfl
    · unfold PyData.leavesShortAll
      rw [a2, b2]
      rfl
    · unfold PyData.weightAll
      rw [List.length_cons, Nat.succ_mul]
      omega
    · unfold PyData.depthAll
      omega
theorem fine_tup {n m k : Nat} {ds : List PyData} (h : ∀ d ∈ ds, fineB n m d = true) (hk : ds.length ≤ k) : fineB (k * (n + 1)) (m + 1) (.tuple ds) = true := by
  obtain ⟨b1, b2, b3, b4⟩ := fine_all h
  refine fine_iff.mpr ⟨b1, b2, ?_, ?_⟩
  · show PyData.weightAll ds ≤ _
    exact Nat.le_trans b3 (Nat.mul_le_mul_right _ hk)
  · show PyData.depthAll ds + 1 ≤ _
    omega
theorem fine_lst {n m k : Nat} {ds : List PyData} (h : ∀ d ∈ ds, fineB n m d = true) (hk : ds.length ≤ k) : fineB (k * (n + 1)) (m + 1) (.list ds) = true := by
  obtain ⟨b1, b2, b3, b4⟩ := fine_all h
  refine fine_iff.mpr ⟨b1, b2, ?_, ?_⟩
  · show PyData.weightAll ds ≤ _
    exact Nat.le_trans b3 (Nat.mul_le_mul_right _ hk)
  · show PyData.depthAll ds + 1 ≤ _
    omega

mutual
theorem Sh.gr {H H' : Hp} (s : Gr H H') : ∀ {v : V} {d : PyData}, Sh H v d → Sh H' v d
  | _, _, .non => .non
  | _, _, .bl b => .bl b
  | _, _, .int i => .int i
  | _, _, .str x => .str x
  | _, _, .lst h n t => .lst (s.lst h) n (t.gr s)
  | _, _, .tup h t => .tup (s.tup h) (t.gr s)
  | _, _, .dic h t => .dic (s.1 _ _ (fun _ z => by cases z) h) (t.gr s)
theorem ShAll.gr {H H' : Hp} (s : Gr H H') : ∀ {vs : List V} {ds : List PyData}, ShAll H vs ds → ShAll H' vs ds
  | _, _, .nil => .nil
  | _, _, .cons h t => .cons (h.gr s) (t.gr s)
end
theorem ShAll.get {H : Hp} : ∀ {xs : List V} {ds : List PyData} {j : Nat} {x : V}, ShAll H xs ds → xs[j]? = some x → ∃ d, ds[j]? = some d ∧ Sh H x d
  | _, _, _, _, .nil, h => by simp at h
  | _, _, 0, _, .cons (d := d) a _, h => by
    cases (Option.some.inj h)
    exact ⟨d, rfl, a⟩
  | _, _, j + 1, _, .cons _ t, h => t.get h
theorem ShAll.append {H : Hp} : ∀ {xs ys : List V} {ds es : List PyData}, ShAll H xs ds → ShAll H ys es → ShAll H (xs ++ ys) (ds ++ es)
  | _, _, _, _, .nil, t => t
  | _, _, _, _, .cons a r, t => .cons a (r.append t)
theorem ShAll.take {H : Hp} : ∀ {xs : List V} {ds : List PyData} (n : Nat), ShAll H xs ds → ShAll H (xs.take n) (ds.take n)
  | _, _, 0, _ => by rw [List.take_zero, List.take_zero]; exact .nil
  | _, _, n + 1, .nil => .nil
  | _, _, n + 1, .cons a r => .cons a (r.take n)
theorem ShAll.drop {H : Hp} : ∀ {xs : List V} {ds : List PyData} (n : Nat), ShAll H xs ds → ShAll H (xs.drop n) (ds.drop n)
  | _, _, 0, h => h
  | _, _, n + 1, .nil => .nil
  | _, _, n + 1, .cons _ r => r.drop n
theorem notT {b : Bool} (h : (!b) = true) : ¬ b = true := by cases b <;> simp_all
theorem notF {b : Bool} (h : ¬ (!b) = true) : b = true := by cases b <;> simp_all

section
variable {P : Program} {w : World} {K : PySem.W.Frag} {mg : Str → Option Value} {base : Heap}
/-! ### kinds of data -/
def isIntD : PyData → Bool
  | .int _ => true
  | .bool _ => true
  | _ => false
def isBoolD : PyData → Bool
  | .bool _ => true
  | _ => false
def isTupD : PyData → Bool
  | .tuple _ => true
  | _ => false
def isStrD : PyData → Bool
  | .str _ => true
  | _ => false
theorem kitInt : ∀ d : PyData, kitB (tyD d) "int" = some (isIntD d)
  | .none => (by decide +kernel : kitB "NoneType" "int" = some false)
  | .bool _ => (by decide +kernel : kitB "bool" "int" = some true)
  | .int _ => (by decide +kernel : kitB "int" "int" = some true)
  | .str _ => (by decide +kernel : kitB "str" "int" = some false)
  | .list _ => (by decide +kernel : kitB "list" "int" = some false)
  | .tuple _ => (by decide +kernel : kitB "tuple" "int" = some false)
  | .dict _ => (by decide +kernel : kitB "dict" "int" = some false)
theorem kitBool : ∀ d : PyData, kitB (tyD d) "bool" = some (isBoolD d)
  | .none => (by decide +kernel : kitB "NoneType" "bool" = some false)
  | .bool _ => (by decide +kernel : kitB "bool" "bool" = some true)
  | .int _ => (by decide +kernel : kitB "int" "bool" = some false)
  | .str _ => (by decide +kernel : kitB "str" "bool" = some false)
  | .list _ => (by decide +kernel : kitB "list" "bool" = some false)
  | .tuple _ => (by decide +kernel : kitB "tuple" "bool" = some false)
  | .dict _ => (by decide +kernel : kitB "dict" "bool" = some false)
theorem kitTup : ∀ d : PyData, kitB (tyD d) "tuple" = some (isTupD d)
  | .none => (by decide +kernel : kitB "NoneType" "tuple" = some false)
  | .bool _ => (by decide +kernel : kitB "bool" "tuple" = some false)
  | .int _ => (by decide +kernel : kitB "int" "tuple" = some false)
  | .str _ => (by decide +kernel : kitB "str" "tuple" = some false)
  | .list _ => (by decide +kernel : kitB "list" "tuple" = some false)
  | .tuple _ => (by decide +kernel : kitB "tuple" "tuple" = some true)
  | .dict _ => (by decide +kernel : kitB "dict" "tuple" = some false)
theorem kitStr : ∀ d : PyData, kitB (tyD d) "str" = some (isStrD d)
  | .none => (by decide +kernel : kitB "NoneType" "str" = some false)
  | .bool _ => (by decide +kernel : kitB "bool" "str" = some false)
  | .int _ => (by decide +kernel : kitB "int" "str" = some false)
  | .str _ => (by decide +kernel : kitB "str" "str" = some true)
  | .list _ => (by decide +kernel : kitB "list" "str" = some false)
  | .tuple _ => (by decide +kernel : kitB "tuple" "str" = some false)
  | .dict _ => (by decide +kernel : kitB "dict" "str" = some false)
def wholeD : PyData → Bool
  | .int _ => true
  | _ => false
def worthD : PyData → Bool
  | .int i => decide (0 ≤ i) && decide (i ≤ 1)
  | _ => false
theorem whole_of : ∀ {d : PyData}, isIntD d = true → wholeD d = !isBoolD d
  | .int _, _ => rfl
  | .bool _, _ => rfl
  | .none, h => by cases h
  | .str _, h => by cases h
  | .list _, h => by cases h
  | .tuple _, h => by cases h
  | .dict _, h => by cases h
theorem whole_not : ∀ {d : PyData}, ¬ isIntD d = true → wholeD d = false
  | .int _, h => absurd rfl h
  | .bool _, h => absurd rfl h
  | .none, _ => rfl
  | .str _, _ => rfl
  | .list _, _ => rfl
  | .tuple _, _ => rfl
  | .dict _, _ => rfl
theorem whole_int : ∀ {d : PyData}, wholeD d = true → ∃ i, d = .int i
  | .int i, _ => ⟨i, rfl⟩
  | .bool _, h => by cases h
  | .none, h => by cases h
  | .str _, h => by cases h
  | .list _, h => by cases h
  | .tuple _, h => by cases h
  | .dict _, h => by cases h
theorem worth_not : ∀ {d : PyData}, ¬ wholeD d = true → worthD d = false
  | .int _, h => absurd rfl h
  | .bool _, _ => rfl
  | .none, _ => rfl
  | .str _, _ => rfl
  | .list _, _ => rfl
  | .tuple _, _ => rfl
  | .dict _, _ => rfl
theorem tup_of : ∀ {d : PyData}, isTupD d = true → ∃ ds, d = .tuple ds
  | .tuple ds, _ => ⟨ds, rfl⟩
  | .bool _, h => by cases h
  | .none, h => by cases h
  | .str _, h => by cases h
  | .list _, h => by cases h
  | .int _, h => by cases h
  | .dict _, h => by cases h
def sp_is_whole (K : PySem.W.Frag) : Sp := fun vs H Q _ => ∃ (v : V) (d : PyData), vs = [v] ∧ Sh H v d ∧ Q (.bl (wholeD d)) H
theorem ok_is_whole (T : Tx K mg) : FnOk P w K mg base CX0 1 T.f_is_whole T.fd_is_whole ["thing"] (sp_is_whole K) := by
  refine T.F_is_whole.ok sc_is_whole (fun vs H Q E h => ?_) (fun cdv A outer s H vs Q E hr h => ?_)
  · obtain ⟨v, d, rfl, _⟩ := h
    rfl
  · obtain ⟨v, d, rfl, sh, q⟩ := h
    refine ⟨_, (pss_one (ps_ret (pe_and (pe_callB call_isi (by rfl) T.m_isinstance (by decide +kernel) (pa_cons (pv 0) (pa_cons (pe_bltn (v := .ty "int") (u := .type "int") (by rfl) T.m_int (by decide +kernel) rfl) pa_nil))) (pe_one (pe_not (pe_callB call_isi (by rfl) T.m_isinstance (by decide +kernel) (pa_cons (pv 0) (pa_cons (pe_bltn (v := .ty "bool") (u := .type "bool") (by rfl) T.m_bool (by decide +kernel) rfl) pa_nil)))))))), ?_⟩
    refine ⟨v, rfl, _, _, _, _, _, rfl, .ty _, sh.ty, kit_ty (kitInt d), _, rfl, ite2 (fun e => ?_) (fun e => ?_)⟩
    · refine ⟨v, rfl, _, _, _, _, _, rfl, .ty _, sh.ty, kit_ty (kitBool d), _, rfl, ?_⟩
      rw [← whole_of e]
      exact q
    · rw [whole_not e] at q
      exact q

/-! ### gates and nets, of anything -/
def sgB (c : Nat) : Bool := decide (c ∈ (Str.ofString "01").cps.toList)
def isSignsD (m : Int) : PyData → Bool
  | .str x => decide ((x.length : Int) = m) && x.cps.toList.all sgB
  | _ => false
def wireD (w : Int) : PyData → Bool
  | .int i => decide (0 ≤ i) && decide (i < w)
  | _ => false
def gateParts (w : Int) (a b : PyData) : Bool :=
  match b with
  | .tuple ins => (decide (1 ≤ ins.length) && decide (ins.length ≤ 3)) && (isSignsD (2 ^ ins.length) a && ins.all (wireD w))
  | _ => false
def isGateD (w : Int) : PyData → Bool
  | .tuple ds => (match ds with
    | [a, b] => gateParts w a b
    | _ => false)
  | _ => false
def gatesD (m : Int) (gs : List PyData) : Bool := (List.range gs.length).all fun k => isGateD (m + (k : Nat)) (gs.getD k .none)
def netParts (a b : PyData) : Bool :=
  match a with
  | .int m => (match b with
    | .tuple gs => (decide (1 ≤ m) && decide (m ≤ 6)) && (decide (gs.length ≠ 0) && gatesD m gs)
    | _ => false)
  | _ => false
def isNetD : PyData → Bool
  | .tuple ds => (match ds with
    | [a, b] => netParts a b
    | _ => false)
  | _ => false
theorem signs_not {m : Int} : ∀ {d : PyData}, ¬ isStrD d = true → isSignsD m d = false
  | .str _, h => absurd rfl h
  | .bool _, _ => rfl
  | .none, _ => rfl
  | .tuple _, _ => rfl
  | .list _, _ => rfl
  | .int _, _ => rfl
  | .dict _, _ => rfl
theorem gate_not {w : Int} : ∀ {d : PyData}, ¬ isTupD d = true → isGateD w d = false
  | .tuple _, h => absurd rfl h
  | .bool _, _ => rfl
  | .none, _ => rfl
  | .str _, _ => rfl
  | .list _, _ => rfl
  | .int _, _ => rfl
  | .dict _, _ => rfl
theorem gate_len {w : Int} : ∀ {ds : List PyData}, ¬ ds.length = 2 → isGateD w (.tuple ds) = false
  | [], _ => rfl
  | [_], _ => rfl
  | [_, _], h => absurd rfl h
  | _ :: _ :: _ :: _, _ => rfl
theorem gate_tup {w : Int} (a : PyData) : ∀ {b : PyData}, ¬ isTupD b = true → gateParts w a b = false
  | .tuple _, h => absurd rfl h
  | .bool _, _ => rfl
  | .none, _ => rfl
  | .str _, _ => rfl
  | .list _, _ => rfl
  | .int _, _ => rfl
  | .dict _, _ => rfl
theorem net_not : ∀ {d : PyData}, ¬ isTupD d = true → isNetD d = false
  | .tuple _, h => absurd rfl h
  | .bool _, _ => rfl
  | .none, _ => rfl
  | .str _, _ => rfl
  | .list _, _ => rfl
  | .int _, _ => rfl
  | .dict _, _ => rfl
theorem net_len : ∀ {ds : List PyData}, ¬ ds.length = 2 → isNetD (.tuple ds) = false
  | [], _ => rfl
  | [_], _ => rfl
  | [_, _], h => absurd rfl h
  | _ :: _ :: _ :: _, _ => rfl
theorem net_int : ∀ {a : PyData} (b : PyData), ¬ wholeD a = true → netParts a b = false
  | .int _, _, h => absurd rfl h
  | .bool _, _, _ => rfl
  | .none, _, _ => rfl
  | .str _, _, _ => rfl
  | .list _, _, _ => rfl
  | .tuple _, _, _ => rfl
  | .dict _, _, _ => rfl
theorem net_tup (m : Int) : ∀ {b : PyData}, ¬ isTupD b = true → netParts (.int m) b = false
  | .tuple _, h => absurd rfl h
  | .bool _, _ => rfl
  | .none, _ => rfl
  | .str _, _ => rfl
  | .list _, _ => rfl
  | .int _, _ => rfl
  | .dict _, _ => rfl
theorem wire_not {w : Int} : ∀ {d : PyData}, ¬ wholeD d = true → wireD w d = false
  | .int _, h => absurd rfl h
  | .bool _, _ => rfl
  | .none, _ => rfl
  | .str _, _ => rfl
  | .list _, _ => rfl
  | .tuple _, _ => rfl
  | .dict _, _ => rfl
theorem strD_of : ∀ {d : PyData}, isStrD d = true → ∃ z, d = .str z
  | .str z, _ => ⟨z, rfl⟩
  | .bool _, h => by cases h
  | .none, h => by cases h
  | .tuple _, h => by cases h
  | .list _, h => by cases h
  | .int _, h => by cases h
  | .dict _, h => by cases h
theorem w_line {x : Str} (h : (PyData.str x).weight ≤ 50000) : x.length ≤ sizeLine := Nat.le_trans (show x.length ≤ 50000 from h) (by decide)
theorem len_eqI {n : Nat} {m : Int} : decide (V.int (n : Int) = V.int m) = decide ((n : Int) = m) := by
  by_cases h : (n : Int) = m
  · rw [decide_eq_true h, decide_eq_true (by rw [h])]
  · rw [decide_eq_false h, decide_eq_false fun z => h (V.int.inj z)]
theorem cps_at {x : Str} {j c : Nat} (h : x.cps[j]? = some c) : x.cps.toList[j]? = some c := by rw [Array.getElem?_toList]; exact h
theorem all_stop {α : Type} {f : α → Bool} {l : List α} {j : Nat} {x : α} (h : l[j]? = some x) (n : ¬ f x = true) : l.all f = false := by
  cases e : l.all f with
  | false => rfl
  | true => exact absurd (List.all_eq_true.mp e x (List.mem_of_getElem? h)) n
theorem all_take {α : Type} {f : α → Bool} {l : List α} {j : Nat} {x : α} (h : l[j]? = some x) (p : (l.take j).all f = true) (hx : f x = true) : (l.take (j + 1)).all f = true := by
  rw [List.take_add_one, h, List.all_append, p, Bool.true_and]
  show (f x && true) = true
  rw [hx]
  rfl
theorem weight_get {ds : List PyData} {j : Nat} {d : PyData} (h : ds[j]? = some d) : d.weight ≤ PyData.weightAll ds := by
  induction ds generalizing j with
  | nil => simp at h
  | cons x r ih =>
    cases j with
    | zero =>
      cases Option.some.inj h
      show d.weight ≤ d.weight + 1 + PyData.weightAll r
      omega
    | succ j =>
      have := ih (j := j) h
      show d.weight ≤ x.weight + 1 + PyData.weightAll r
      omega
theorem two_of {ds : List PyData} (h : ds.length = 2) : ∃ a b, ds = [a, b] := by
  match ds, h with
  | [a, b], _ => exact ⟨a, b, rfl⟩
theorem getD_at {gs : List PyData} {k : Nat} {g : PyData} (h : gs[k]? = some g) : gs.getD k .none = g := by
  rw [List.getD_eq_getElem?_getD, h]
  rfl
theorem gates_no {m : Int} {gs : List PyData} {k : Nat} {g : PyData} (h : gs[k]? = some g) (n : ¬ isGateD (m + (k : Nat)) g = true) : gatesD m gs = false := by
  refine all_stop (j := k) (x := k) ?_ ?_
  · rw [List.getElem?_range (List.getElem?_eq_some_iff.mp h).1]
  · rw [getD_at h]
    exact n
theorem gates_all {m : Int} {gs : List PyData} (h : ∀ k g, gs[k]? = some g → isGateD (m + (k : Nat)) g = true) : gatesD m gs = true := by
  refine List.all_eq_true.mpr fun k hk => ?_
  have hk' := List.mem_range.mp hk
  have e := List.getElem?_eq_getElem hk'
  rw [getD_at e]
  exact h k _ e
theorem ite2' {p : Prop} {b : Bool} {A B : p → Prop} : True := trivial
def sp_is_signs (T : Tx K mg) : Sp := fun vs H Q _ => ∃ (m : Int) (v : V) (d : PyData), vs = [.int m, v] ∧ Sh H v d ∧ d.weight ≤ 50000 ∧ GxR.TabG H T.P_is_signs ∧ ∀ H', Gr H H' → Q (.bl (isSignsD m d)) H'
theorem ok_is_signs (T : Tx K mg) (B : Tb base T) : FnOk P w K mg base CX0 2 T.f_is_signs T.fd_is_signs ["many", "thing"] (sp_is_signs T) := by
  refine okC T.F_is_signs sc_is_signs (fun vs H Q E h => ?_) (fun A outer s H vs Q E hr h => ?_)
  · obtain ⟨m, v, d, rfl, _⟩ := h
    rfl
  · obtain ⟨m, v, d, rfl, sh, wt, tab, q⟩ := h
    refine ⟨_, (pss_one (ps_ret (pe_and (pe_callB call_isi (by rfl) T.m_isinstance (by decide +kernel) (pa_cons (pv 1) (pa_cons (pe_bltn (v := .ty "str") (u := .type "str") (by rfl) T.m_str (by decide +kernel) rfl) pa_nil))) (pe_and (pe_cmpR op_eq (pe_callB call_len_str (by rfl) T.m_len PySem.boot_len (pa_cons (pv 1) pa_nil)) (pv 0) (nomark _)) (pe_one (pe_allX (own := [("sign", 2)]) (k := 0) (hr.mono (by decide)) rfl sc_is_signs.nd (by rfl) T.m_all (by decide +kernel) B.TB_is_signs T.cd_is_signs rfl rfl (by decide +kernel) (blkOk_by (own := [("sign", 2)]) (N := ["many", "thing", "sign"]) (sc := defScope s_is_signs) (by decide +kernel)) (pi_str (pv 1)) (fun _ _ _ _ _ _ _ hr gd => (pg_name (i := 2) sc_is_signs.nd rfl (by first | exact .inl rfl | exact .inr rfl))) (fun _ _ _ _ _ _ _ hr gd => pts_nil) (fun _ _ _ _ _ _ _ hr gd => (pe_cmpR op_in_sign (pv 2) pe_str rfl)) (fun _ => rfl))))))), ?_⟩
    refine ⟨v, rfl, _, _, _, _, _, rfl, .ty _, sh.ty, kit_ty (kitStr d), _, rfl, ite2 (fun e => ?_) (fun e => ?_)⟩
    · obtain ⟨x, rfl⟩ := strD_of e
      cases sh
      refine ⟨.str x, rfl, x, rfl, w_line wt, .int m, rfl, rfl, _, rfl, ?_⟩
      rw [len_eqI]
      refine ite2 (fun e1 => ?_) (fun e1 => ?_)
      · refine ⟨.str x, rfl, x, rfl, tab, fun H2 tb => ?_⟩
        have g2 := Gr.tab tab tb
        refine gx_str (z := x) (fun j _ H' => H' = H2 ∧ (x.cps.toList.take j).all sgB = true) ⟨rfl, rfl⟩ ?_ ?_
        · rintro j c _ H' hx ⟨rfl, ih⟩
          have hc := cps_at hx
          refine ⟨rfl, .str ⟨#[c]⟩, rfl, c, _, rfl, rfl, _, rfl, ite2 (fun z => ⟨rfl, all_take hc ih z⟩) (fun z => ?_)⟩
          have q' := q H' g2
          have : isSignsD m (.str x) = false := by
            show (decide ((x.length : Int) = m) && x.cps.toList.all sgB) = false
            rw [all_stop hc z, Bool.and_false]
          rw [this] at q'
          exact q'
        · rintro _ H' ⟨rfl, ih⟩
          have : x.cps.size = x.cps.toList.length := Array.length_toList.symm
          rw [this, List.take_length] at ih
          have q' := q H' g2
          have : isSignsD m (.str x) = true := by
            show (decide ((x.length : Int) = m) && x.cps.toList.all sgB) = true
            rw [ih, e1]
            rfl
          rw [this] at q'
          exact q'
      · have q' := q H Gr.refl
        have : isSignsD m (.str x) = false := by
          show (decide ((x.length : Int) = m) && x.cps.toList.all sgB) = false
          rw [Bool.eq_false_iff.mpr e1, Bool.false_and]
        rw [this] at q'
        exact q'
    · have q' := q H Gr.refl
      rw [signs_not e] at q'
      exact q'
theorem len2 {n : Nat} : decide (V.int (n : Int) = V.int 2) = decide (n = 2) := by
  rw [len_eqI]
  by_cases z : n = 2
  · rw [decide_eq_true z, decide_eq_true (by omega)]
  · rw [decide_eq_false z, decide_eq_false (by omega)]
theorem wt2 {a b : PyData} (h : (PyData.tuple [a, b]).weight ≤ 50000) : a.weight ≤ 50000 ∧ b.weight ≤ 50000 := by
  have : a.weight + 1 + (b.weight + 1 + 0) ≤ 50000 := h
  omega
theorem wtT {ds : List PyData} (h : (PyData.tuple ds).weight ≤ 50000) : PyData.weightAll ds ≤ 50000 := h
def sp_is_gate (T : Tx K mg) : Sp := fun vs H Q _ => ∃ (w : Int) (v : V) (d : PyData), vs = [.int w, v] ∧ Sh H v d ∧ d.weight ≤ 50000 ∧ GxR.TabG H T.P_is_signs ∧ GxR.TabG H T.P_is_gate ∧ ∀ H', Gr H H' → Q (.bl (isGateD w d)) H'
theorem ok_is_gate (T : Tx K mg) (B : Tb base T) : FnOk P w K mg base CX0 3 T.f_is_gate T.fd_is_gate ["wires", "thing"] (sp_is_gate T) := by
  refine okC T.F_is_gate sc_is_gate (fun vs H Q E h => ?_) (fun A outer s H vs Q E hr h => ?_)
  · obtain ⟨w, v, d, rfl, _⟩ := h
    rfl
  · obtain ⟨wi, v, d, rfl, sh, wt, tab0, tab, q⟩ := h
    refine ⟨_, (pss_cons (ps_if (pw_or (pt_not (pt_val (pe_callB call_isi (by rfl) T.m_isinstance (by decide +kernel) (pa_cons (pv 1) (pa_cons (pe_bltn (v := .ty "tuple") (u := .type "tuple") (by rfl) T.m_tuple (by decide +kernel) rfl) pa_nil))))) (pw_or1 (pt_cmpR op_ne (pe_callB call_len_seq (by rfl) T.m_len PySem.boot_len (pa_cons (pv 1) pa_nil)) pe_int (nomark _)))).pt (pss_one (ps_ret pe_bl)) pss_nil) (pss_cons (ps_asg (pv 1) (pg_tup rfl (pgs_cons (pg_name (i := 2) sc_is_gate.nd rfl (by first | exact .inl rfl | exact .inr rfl)) (pgs_cons (pg_name (i := 3) sc_is_gate.nd rfl (by first | exact .inl rfl | exact .inr rfl)) pgs_nil)))) (pss_cons (ps_if (pw_or (pt_not (pt_val (pe_callB call_isi (by rfl) T.m_isinstance (by decide +kernel) (pa_cons (pv 3) (pa_cons (pe_bltn (v := .ty "tuple") (u := .type "tuple") (by rfl) T.m_tuple (by decide +kernel) rfl) pa_nil))))) (pw_or1 (pt_not (pt_chain op_le op_le pe_int (pe_callB call_len_seq (by rfl) T.m_len PySem.boot_len (pa_cons (pv 3) pa_nil)) (pe_glob (v := .int 3) (by rfl) T.k_MOST_INS.choose_spec ⟨_, rfl⟩))))).pt (pss_one (ps_ret pe_bl)) pss_nil) (pss_one (ps_ret (pe_and (pe_call (ok_is_signs T B) (hr.mono (by decide)) (by rfl) T.g_is_signs T.F_is_signs.kp T.b_is_signs .nil pass0 (pa_cons (pe_op op_shl pe_int (pe_callB call_len_seq (by rfl) T.m_len PySem.boot_len (pa_cons (pv 3) pa_nil))) (pa_cons (pv 2) pa_nil))) (pe_one (pe_allX (own := [("wire", 4)]) (k := 1) (hr.mono (by decide)) rfl sc_is_gate.nd (by rfl) T.m_all (by decide +kernel) B.TB_is_gate T.cd_is_gate rfl rfl (by decide +kernel) (blkOk_by (own := [("wire", 4)]) (N := ["wires", "thing", "table", "ins", "wire"]) (sc := defScope s_is_gate) (by decide +kernel)) (pi_tup (pv 3)) (fun _ _ _ _ _ _ _ hr gd => (pg_name (i := 4) sc_is_gate.nd rfl (by first | exact .inl rfl | exact .inr rfl))) (fun _ _ _ _ _ _ _ hr gd => pts_nil) (fun _ _ _ _ _ _ _ hr gd => (pe_and (pe_call (ok_is_whole T) (hr.mono (by decide)) (by rfl) T.g_is_whole T.F_is_whole.kp T.b_is_whole .nil pass0 (pa_cons (pv 4) pa_nil)) (pe_one (pe_chain op_le op_lt pe_int (pv 4) (pv 0))))) (fun _ => rfl))))))))), ?_⟩
    refine ⟨v, rfl, _, _, _, _, _, rfl, .ty _, sh.ty, kit_ty (kitTup d), _, rfl, ite2 (fun e => ?_) (fun e => ?_)⟩
    · have q' := q H Gr.refl
      rw [gate_not (notT e)] at q'
      exact q'
    obtain ⟨ds, rfl⟩ := tup_of (notF e)
    cases sh with
    | @tup a xs _ h t =>
      have lx := t.length
      refine ⟨.ref a, rfl, a, xs, rfl, .inr (SqT.of h), rfl, _, rfl, ?_⟩
      rw [lx, len2]
      refine ite2 (fun e1 => ?_) (fun e1 => ?_)
      · have q' := q H Gr.refl
        rw [gate_len (fun z => by rw [z] at e1; cases e1)] at q'
        exact q'
      obtain ⟨d0, d1, rfl⟩ := two_of (ds := ds) (of_decide_eq_true (notF e1))
      cases t with
      | @cons v0 _ _ _ t0 t1 =>
        cases t1 with
        | @cons v1 _ _ _ t1 t2 =>
          cases t2
          refine ⟨.ref a, rfl, a, _, rfl, SqT.of h, rfl, _, _, rfl, _, _, rfl, rfl, ?_⟩
          refine ⟨v1, rfl, _, _, _, _, _, rfl, .ty _, t1.ty, kit_ty (kitTup d1), _, rfl, ite2 (fun e2 => ?_) (fun e2 => ?_)⟩
          · have q' := q H Gr.refl
            rw [show isGateD wi (.tuple [d0, d1]) = false from gate_tup d0 (notT e2)] at q'
            exact q'
          obtain ⟨ins, rfl⟩ := tup_of (notF e2)
          cases t1 with
          | @tup b ys _ hb tb =>
            have ly := tb.length
            refine ⟨.ref b, rfl, b, ys, rfl, .inr (SqT.of hb), ?_⟩
            rw [ly]
            have val : isGateD wi (.tuple [d0, .tuple ins]) = ((decide (1 ≤ ins.length) && decide (ins.length ≤ 3)) && (isSignsD (2 ^ ins.length) d0 && ins.all (wireD wi))) := rfl
            rw [val] at q
            have c1 : decide ((1 : Int) ≤ (ins.length : Int)) = decide (1 ≤ ins.length) := decide_eq_decide.mpr (by omega)
            have c3 : decide ((ins.length : Int) ≤ 3) = decide (ins.length ≤ 3) := decide_eq_decide.mpr (by omega)
            refine ⟨1, _, rfl, rfl, _, rfl, ?_⟩
            rw [c1]
            refine ite2 (fun e4 => ?_) (fun e4 => ?_)
            · refine ⟨_, 3, rfl, rfl, _, rfl, ?_⟩
              rw [c3]
              refine ite2 (fun e5 => ?_) (fun e5 => ?_)
              · have q' := q H Gr.refl
                have e5 : decide (ins.length ≤ 3) = false := by simpa using e5
                rw [e5, Bool.and_false, Bool.false_and] at q'
                exact q'
              have e5 : decide (ins.length ≤ 3) = true := by simpa using e5
              rw [e4, e5] at q
              have l3 : ins.length ≤ 3 := of_decide_eq_true e5
              refine ⟨.ref b, rfl, b, ys, rfl, .inr (SqT.of hb), ?_⟩
              rw [ly]
              refine ⟨1, _, rfl, rfl, ⟨by omega, by omega, by decide⟩, v0, rfl, (2 : Int) ^ ins.length, v0, d0, ?_, t0, (wt2 wt).1, tab0, fun H2 g2 => ⟨_, rfl, ite2 (fun e6 => ?_) (fun e6 => ?_)⟩⟩
              · show [V.int ((1 : Int) * 2 ^ ((ins.length : Int)).toNat), v0] = _
                rw [Int.one_mul]
                rfl
              · rw [e6] at q
                have hb2 := g2.tup hb
                have tb2 := tb.gr g2
                have tab2 := g2.2 _ tab
                refine ⟨.ref b, rfl, b, rfl, ⟨_, SqT.of hb2⟩, tab2, fun H3 t3 => ?_⟩
                have g3 := Gr.tab tab2 t3
                have g23 := g2.trans g3
                refine gx_tup (K := K) (a := b) (xs := ys) (fun j _ H' => H' = H3 ∧ (ins.take j).all (wireD wi) = true) ⟨rfl, rfl⟩ (fun j _ H' _ e => by rw [e.1]; exact SqT.of (g3.tup hb2)) ?_ ?_
                · rintro j x _ H' hx ⟨rfl, ih⟩
                  obtain ⟨e0, he0, sh0⟩ := tb2.get hx
                  have stop : ¬ wireD wi e0 = true → Q (.bl false) H' := fun z => by
                    have q' := q H' g23
                    rw [all_stop he0 z] at q'
                    exact q'
                  refine ⟨rfl, x, rfl, x, e0, rfl, sh0.gr g3, _, rfl, ite2 (fun z => ?_) (fun z => ?_)⟩
                  · obtain ⟨u, rfl⟩ := whole_int z
                    cases sh0
                    refine ⟨.int u, rfl, 0, _, rfl, rfl, _, rfl, ite2 (fun z1 => ?_) (fun z1 => ?_)⟩
                    · refine ⟨.int wi, rfl, _, _, rfl, rfl, _, rfl, ite2 (fun z2 => ⟨rfl, all_take he0 ih ?_⟩) (fun z2 => stop ?_)⟩
                      · show (decide (0 ≤ u) && decide (u < wi)) = true
                        rw [z1, z2]
                        rfl
                      · show ¬ (decide (0 ≤ u) && decide (u < wi)) = true
                        rw [Bool.and_eq_true]
                        exact fun k => z2 k.2
                    · refine ⟨false, rfl, iteF (stop ?_)⟩
                      show ¬ (decide (0 ≤ u) && decide (u < wi)) = true
                      rw [Bool.and_eq_true]
                      exact fun k => z1 k.1
                  · exact ⟨false, rfl, iteF (stop fun k => by rw [wire_not z] at k; cases k)⟩
                · rintro _ H' ⟨rfl, ih⟩
                  rw [ly, List.take_length] at ih
                  have q' := q H' g23
                  rw [ih] at q'
                  exact q'
              · have q' := q H2 g2
                rw [Bool.eq_false_iff.mpr e6] at q'
                exact q'
            · have q' := q H Gr.refl
              rw [Bool.eq_false_iff.mpr e4] at q'
              exact ⟨_, rfl, iteT q'⟩
def sp_is_net (T : Tx K mg) : Sp := fun vs H Q _ => ∃ (v : V) (d : PyData), vs = [v] ∧ Sh H v d ∧ d.weight ≤ 50000 ∧ GxR.TabG H T.P_is_signs ∧ GxR.TabG H T.P_is_gate ∧ GxR.TabG H T.P_is_net ∧ ∀ H', Gr H H' → Q (.bl (isNetD d)) H'
theorem ok_is_net (T : Tx K mg) (B : Tb base T) : FnOk P w K mg base CX0 5 T.f_is_net T.fd_is_net ["thing"] (sp_is_net T) := by
  refine okC T.F_is_net sc_is_net (fun vs H Q E h => ?_) (fun A outer s H vs Q E hr h => ?_)
  · obtain ⟨v, d, rfl, _⟩ := h
    rfl
  · obtain ⟨v, d, rfl, sh, wt, tab0, tab1, tab, q⟩ := h
    refine ⟨_, (pss_cons (ps_if (pw_or (pt_not (pt_val (pe_callB call_isi (by rfl) T.m_isinstance (by decide +kernel) (pa_cons (pv 0) (pa_cons (pe_bltn (v := .ty "tuple") (u := .type "tuple") (by rfl) T.m_tuple (by decide +kernel) rfl) pa_nil))))) (pw_or1 (pt_cmpR op_ne (pe_callB call_len_seq (by rfl) T.m_len PySem.boot_len (pa_cons (pv 0) pa_nil)) pe_int (nomark _)))).pt (pss_one (ps_ret pe_bl)) pss_nil) (pss_cons (ps_asg (pv 0) (pg_tup rfl (pgs_cons (pg_name (i := 1) sc_is_net.nd rfl (by first | exact .inl rfl | exact .inr rfl)) (pgs_cons (pg_name (i := 2) sc_is_net.nd rfl (by first | exact .inl rfl | exact .inr rfl)) pgs_nil)))) (pss_cons (ps_if (pw_or (pt_not (pt_val (pe_call (ok_is_whole T) (hr.mono (by decide)) (by rfl) T.g_is_whole T.F_is_whole.kp T.b_is_whole .nil pass0 (pa_cons (pv 1) pa_nil)))) (pw_or1 (pt_not (pt_chain op_le op_le pe_int (pv 1) (pe_glob (v := .int 6) (by rfl) T.k_MOST_INPUTS.choose_spec ⟨_, rfl⟩))))).pt (pss_one (ps_ret pe_bl)) pss_nil) (pss_cons (ps_if (pw_or (pt_not (pt_val (pe_callB call_isi (by rfl) T.m_isinstance (by decide +kernel) (pa_cons (pv 2) (pa_cons (pe_bltn (v := .ty "tuple") (u := .type "tuple") (by rfl) T.m_tuple (by decide +kernel) rfl) pa_nil))))) (pw_or1 (pt_cmpR op_eq (pe_callB call_len_seq (by rfl) T.m_len PySem.boot_len (pa_cons (pv 2) pa_nil)) pe_int (nomark _)))).pt (pss_one (ps_ret pe_bl)) pss_nil) (pss_one (ps_ret (pe_allX (own := [("number", 3), ("gate", 4)]) (k := 3) (hr.mono (by decide)) rfl sc_is_net.nd (by rfl) T.m_all (by decide +kernel) B.TB_is_net T.cd_is_net rfl rfl (by decide +kernel) (blkOk_by (own := [("number", 3), ("gate", 4)]) (N := ["thing", "many", "gates", "number", "gate"]) (sc := defScope s_is_net) (by decide +kernel)) (pi_enumT (by rfl) T.m_enumerate (pa_cons (pv 2) pa_nil)) (fun _ _ _ _ _ _ _ hr gd => (show PG _ _ (gTup K 2 _) from pg_tup rfl (pgs_cons (pg_name (i := 3) sc_is_net.nd rfl (by first | exact .inl rfl | exact .inr rfl)) (pgs_cons (pg_name (i := 4) sc_is_net.nd rfl (by first | exact .inl rfl | exact .inr rfl)) pgs_nil)))) (fun _ _ _ _ _ _ _ hr gd => pts_nil) (fun _ _ _ _ _ _ _ hr gd => (pe_call (ok_is_gate T B) (hr.mono (by decide)) (by rfl) T.g_is_gate T.F_is_gate.kp T.b_is_gate .nil pass0 (pa_cons (pe_op op_add (pv 1) (pv 3)) (pa_cons (pv 4) pa_nil)))) (fun _ => rfl)))))))), ?_⟩
    refine ⟨v, rfl, _, _, _, _, _, rfl, .ty _, sh.ty, kit_ty (kitTup d), _, rfl, ite2 (fun e => ?_) (fun e => ?_)⟩
    · have q' := q H Gr.refl
      rw [net_not (notT e)] at q'
      exact q'
    obtain ⟨ds, rfl⟩ := tup_of (notF e)
    cases sh with
    | @tup a xs _ h t =>
      have lx := t.length
      refine ⟨.ref a, rfl, a, xs, rfl, .inr (SqT.of h), rfl, _, rfl, ?_⟩
      rw [lx, len2]
      refine ite2 (fun e1 => ?_) (fun e1 => ?_)
      · have q' := q H Gr.refl
        rw [net_len (fun z => by rw [z] at e1; cases e1)] at q'
        exact q'
      obtain ⟨d0, d1, rfl⟩ := two_of (ds := ds) (of_decide_eq_true (notF e1))
      cases t with
      | @cons v0 _ _ _ t0 t1 =>
        cases t1 with
        | @cons v1 _ _ _ t1 t2 =>
          cases t2
          refine ⟨.ref a, rfl, a, _, rfl, SqT.of h, rfl, _, _, rfl, _, _, rfl, rfl, ?_⟩
          refine ⟨v0, rfl, v0, d0, rfl, t0, _, rfl, ite2 (fun e3 => ?_) (fun e3 => ?_)⟩
          · have q' := q H Gr.refl
            rw [show isNetD (.tuple [d0, d1]) = false from net_int d1 (notT e3)] at q'
            exact q'
          obtain ⟨m, rfl⟩ := whole_int (notF e3)
          cases t0
          have no : (decide (1 ≤ m) && decide (m ≤ 6)) = false → isNetD (.tuple [.int m, d1]) = false := fun z => by
            show netParts (.int m) d1 = false
            by_cases hb : isTupD d1 = true
            · obtain ⟨ds, rfl⟩ := tup_of hb
              show ((decide (1 ≤ m) && decide (m ≤ 6)) && (decide (ds.length ≠ 0) && gatesD m ds)) = false
              rw [z, Bool.false_and]
            · exact net_tup m hb
          refine ⟨.int m, rfl, 1, _, rfl, rfl, _, rfl, ite2 (fun e4 => ?_) (fun e4 => ?_)⟩
          · refine ⟨_, 6, rfl, rfl, _, rfl, ite2 (fun e5 => ?_) (fun e5 => ?_)⟩
            · have q' := q H Gr.refl
              have e5 : decide (m ≤ 6) = false := by simpa using e5
              rw [no (by rw [e5, Bool.and_false])] at q'
              exact q'
            have e5 : decide (m ≤ 6) = true := by simpa using e5
            refine ⟨v1, rfl, _, _, _, _, _, rfl, .ty _, t1.ty, kit_ty (kitTup d1), _, rfl, ite2 (fun e6 => ?_) (fun e6 => ?_)⟩
            · have q' := q H Gr.refl
              rw [show isNetD (.tuple [.int m, d1]) = false from net_tup m (notT e6)] at q'
              exact q'
            obtain ⟨gs, rfl⟩ := tup_of (notF e6)
            cases t1 with
            | @tup b ys _ hb tb =>
              have ly := tb.length
              have val : isNetD (.tuple [.int m, .tuple gs]) = (decide (gs.length ≠ 0) && gatesD m gs) := by
                show ((decide (1 ≤ m) && decide (m ≤ 6)) && (decide (gs.length ≠ 0) && gatesD m gs)) = _
                rw [e4, e5]
                rfl
              rw [val] at q
              refine ⟨.ref b, rfl, b, ys, rfl, .inr (SqT.of hb), rfl, _, rfl, ?_⟩
              rw [ly, len_eqI]
              refine ite2 (fun e7 => ?_) (fun e7 => ?_)
              · have z : gs.length = 0 := by
                  have := of_decide_eq_true e7
                  omega
                have q' := q H Gr.refl
                rw [z] at q'
                exact q'
              have nz : gs.length ≠ 0 := fun z => e7 (decide_eq_true (by omega))
              rw [decide_eq_true nz, Bool.true_and] at q
              have wg : PyData.weightAll gs ≤ 50000 := wtT (wt2 wt).2
              refine ⟨.ref b, rfl, b, _, rfl, SqT.of hb, tab, fun H2 t2 => ?_⟩
              have g2 := Gr.tab tab t2
              refine gx_enum (K := K) (a := b) (xs := ys) (fun j _ H' => Gr H H' ∧ ∀ k g, k < j → gs[k]? = some g → isGateD (m + (k : Nat)) g = true) ⟨g2, fun k g z => by omega⟩ (fun j _ H' _ e => SqT.of (e.1.tup hb)) ?_ ?_
              · rintro j x Tq _ H' hx nT ⟨gr, ih⟩
                obtain ⟨g, hg, shg⟩ := tb.get hx
                have g3 : Gr H (upd H' Tq (.tup [.int (j : Nat), x])) := gr.trans (Gr.none nT)
                refine ⟨Tq, _, rfl, SqT.of upd_same, rfl, _, _, rfl, _, _, rfl, rfl, rfl, ?_⟩
                refine ⟨.int m, rfl, .int (j : Nat), rfl, _, _, rfl, rfl, x, rfl, m + (j : Nat), x, g, rfl, shg.gr g3, Nat.le_trans (weight_get hg) wg, g3.2 _ tab0, g3.2 _ tab1, fun H4 g4 => ?_⟩
                refine ⟨_, rfl, ite2 (fun z => ⟨g3.trans g4, fun k g' hk hg' => ?_⟩) (fun z => ?_)⟩
                · by_cases e : k = j
                  · rw [e, hg] at hg'
                    obtain rfl := Option.some.inj hg'
                    rw [e]
                    exact z
                  · exact ih k g' (by omega) hg'
                · have q' := q H4 (g3.trans g4)
                  rw [gates_no hg z] at q'
                  exact q'
              · rintro _ H' ⟨gr, ih⟩
                have q' := q H' gr
                rw [gates_all fun k g hk => ih k g (by rw [ly]; exact (List.getElem?_eq_some_iff.mp hk).1) hk] at q'
                exact q'
          · have q' := q H Gr.refl
            rw [no (by rw [Bool.eq_false_iff.mpr e4, Bool.false_and])] at q'
            exact ⟨_, rfl, iteT q'⟩

end
end Gk

set_option Elab.async false
set_option linter.all false
set_option maxRecDepth 100000
set_option maxHeartbeats 1000000
set_option pp.maxSteps 1500
set_option pp.deepTerms false
namespace Gk
open PySem PySem.Spec PyProof.Rows L2
/-! ### walks over texts -/
theorem lc_str {z : Str} {g : TG} {tt : TT} {te : TE} {vs : List Nat} {σ : L2.St} {H1 : Hp} {D : Addr} {Qd : Hp → Prop} (Pv : Nat → Hp → Prop) (h0 : Pv 0 (upd H1 D (.lst [])))
    (hs : ∀ i x H, z.cps[i]? = some x → Pv i H → g (.str ⟨#[x]⟩) (wipe σ vs) H fun σ2 H2 => wipe σ2 vs = wipe σ vs ∧ tt σ2 H2 fun b H3 =>
      if b = true then te σ2 H3 fun y H4 => ∃ acc, H4 D = some (.lst acc) ∧ acc.length < sizeLine ∧ Pv (i + 1) (upd H4 D (.lst (acc ++ [y]))) else Pv (i + 1) H3) (hd : ∀ H, Pv z.cps.size H → Qd H) :
    ∃ W : Nat → Nat → Hp → Prop, (∃ m, W 0 m (upd H1 D (.lst []))) ∧ ∀ i m H, W i m H →
      ((Its z).stop i H ∧ Qd H) ∨ ((Its z).go i H ∧ ∃ Nx : Hp → Prop, (∀ H', Nx H' → ∃ m', m' < m ∧ W (i + 1) m' H') ∧ ∀ x H', (Its z).yld i H x H' → g x (wipe σ vs) H' fun σ2 H2 => wipe σ2 vs = wipe σ vs ∧ tt σ2 H2 fun b H3 =>
        if b = true then te σ2 H3 fun y H4 => ∃ acc, H4 D = some (.lst acc) ∧ acc.length < sizeLine ∧ Nx (upd H4 D (.lst (acc ++ [y]))) else Nx H3) := by
  refine ⟨fun i m H => m = z.cps.size - i ∧ i ≤ z.cps.size ∧ Pv i H, ⟨z.cps.size, by simp, Nat.zero_le _, h0⟩, ?_⟩
  rintro i m H ⟨rfl, hi, p⟩
  by_cases hlt : i < z.cps.size
  · refine .inr ⟨hlt, Pv (i + 1), fun H' p' => ⟨z.cps.size - (i + 1), by omega, rfl, hlt, p'⟩, fun x H' y => ?_⟩
    obtain ⟨rfl, ch, hc, rfl⟩ := y
    exact hs i ch _ hc p
  · have e : i = z.cps.size := by omega
    subst e
    exact .inl ⟨Nat.le_refl _, hd H p⟩
theorem for_str {z : Str} {g : TG} {tb : TS} {D : Ends} {σ : L2.St} {H : Hp} (Pv : Nat → L2.St → Hp → Prop) (h0 : Pv 0 σ H)
    (hs : ∀ i x σ H, z.cps[i]? = some x → Pv i σ H → g (.str ⟨#[x]⟩) σ H fun σ2 H2 => tb { D with nx := Pv (i + 1), ct := Pv (i + 1), bk := D.nx } σ2 H2) (hd : ∀ σ H, Pv z.cps.size σ H → D.nx σ H) :
    ∃ W : Nat → Nat → L2.St → Hp → Prop, (∃ m, W 0 m σ H) ∧ ∀ i m σ H, W i m σ H →
      ((Its z).stop i H ∧ D.nx σ H) ∨ ((Its z).go i H ∧ ∃ N : L2.St → Hp → Prop, (∀ σ' H', N σ' H' → ∃ m', m' < m ∧ W (i + 1) m' σ' H') ∧ ∀ x H', (Its z).yld i H x H' → g x σ H' fun σ2 H2 => tb { D with nx := N, ct := N, bk := D.nx } σ2 H2) := by
  refine ⟨fun i m σ H => m = z.cps.size - i ∧ i ≤ z.cps.size ∧ Pv i σ H, ⟨z.cps.size, by simp, Nat.zero_le _, h0⟩, ?_⟩
  rintro i m σ H ⟨rfl, hi, p⟩
  by_cases hlt : i < z.cps.size
  · refine .inr ⟨hlt, Pv (i + 1), fun σ' H' p' => ⟨z.cps.size - (i + 1), by omega, rfl, hlt, p'⟩, fun x H' y => ?_⟩
    obtain ⟨rfl, ch, hc, rfl⟩ := y
    exact hs i ch σ _ hc p
  · have e : i = z.cps.size := by omega
    subst e
    exact .inl ⟨Nat.le_refl _, hd σ H p⟩
theorem S_at {p : List Nat} {i x : Nat} (h : (SX.S p).cps[i]? = some x) : p[i]? = some x := by
  have : (SX.S p).cps = p.toArray := rfl
  rw [this, List.getElem?_toArray] at h
  exact h
theorem S_size (p : List Nat) : (SX.S p).cps.size = p.length := by
  show p.toArray.size = _
  simp

/-! ### text.count of one sign -/
theorem spl_count (c : Nat) : ∀ (L acc : List Nat), (TL.spl [c] 0 acc L).length = L.count c + 1
  | [], acc => by rw [TL.spl_nil]; rfl
  | d :: r, acc => by
    by_cases h : d = c
    · subst h
      rw [TL.spl_hit (show TL.pre [d] (d :: r) = true from TL.pre_self [d] r), List.count_cons_self]
      show (TL.spl [d] 0 [] r).length + 1 = _
      rw [spl_count d r []]
    · rw [TL.spl_miss (TL.pre_of_head [] r h), spl_count c r _, List.count_cons_of_ne h]
theorem parts_len (x : Str) (n : Nat) : ∀ (cuts : List Nat) (a : Nat), (StrLaws.partsFrom x n a cuts).length = cuts.length + 1
  | [], _ => rfl
  | c :: r, a => by
    show (StrLaws.partsFrom x n (c + n) r).length + 1 = _
    rw [parts_len x n r]
    rfl
theorem count_sign (x : Str) (c : Nat) : Txt.count x ⟨#[c]⟩ = ((x.cps.toList.count c : Nat) : Int) := by
  have hy : TL.tl (⟨#[c]⟩ : Str) ≠ [] := by
    show [c] ≠ []
    simp
  obtain ⟨f, g, hn⟩ := StrLaws.occ_tight x ⟨#[c]⟩ (TL.len1 hy)
  have key := TL.parts_spl hy _ 0 f (Nat.zero_le _) g hn
  have e := congrArg List.length key
  rw [List.length_map, parts_len, List.drop_zero] at e
  have e2 : (TL.spl (TL.tl (⟨#[c]⟩ : Str)) 0 [] (TL.tl x)).length = (TL.tl x).count c + 1 := spl_count c _ _
  rw [e2] at e
  show (((Builtin.Str.occurrences x ⟨#[c]⟩ 0 x.length (x.length + 1)).length : Nat) : Int) = _
  have : (Builtin.Str.occurrences x ⟨#[c]⟩ 0 x.length (x.length + 1)).length = x.cps.toList.count c := by
    have e3 : (TL.tl x).count c = x.cps.toList.count c := rfl
    omega
  rw [this]

theorem int_weight {i : Int} {k : Nat} (h : i.natAbs < 2 ^ k) : (PyData.int i).weight ≤ k := by
  show (if i == 0 then 0 else i.natAbs.log2 + 1) ≤ k
  by_cases z : i = 0
  · rw [if_pos (by rw [z]; rfl)]
    exact Nat.zero_le _
  · rw [if_neg (by simpa using z)]
    exact (Nat.log2_lt (by omega)).mpr h

/-! ### texts of any hand, read as nets -/
def lns (L : List Nat) : List (List Nat) := TL.spl [10] 0 [] L
def wds (L : List Nat) : List (List Nat) := TL.spl [32] 0 [] L
theorem split_lns (L : List Nat) : Txt.split (SX.S L) (SX.S [10]) = (lns L).map SX.S := by
  refine TL.map_tl_inj ?_
  rw [TL.split_spl _ (SX.S [10]) (by show [10] ≠ []; decide) (TL.kind_ok (by decide +kernel)), List.map_map]
  show TL.spl [10] 0 [] L = _
  exact (List.map_id _).symm
theorem split_wds (L : List Nat) : Txt.split (SX.S L) (SX.S [32]) = (wds L).map SX.S := by
  refine TL.map_tl_inj ?_
  rw [TL.split_spl _ (SX.S [32]) (by show [32] ≠ []; decide) (TL.kind_ok (by decide +kernel)), List.map_map]
  show TL.spl [32] 0 [] L = _
  exact (List.map_id _).symm
theorem pre_one (s d : Nat) (r : List Nat) : TL.pre [s] (d :: r) = (d == s) := by
  show ([d] == [s]) = (d == s)
  by_cases h : d = s
  · rw [h]; simp
  · simp [h]
theorem spl1_ne (s : Nat) : ∀ (L acc : List Nat), TL.spl [s] 0 acc L ≠ []
  | [], acc => by rw [TL.spl_nil]; simp
  | d :: r, acc => by
    by_cases h : d = s
    · rw [TL.spl_hit (by rw [pre_one, h]; simp)]; simp
    · rw [TL.spl_miss (by rw [pre_one]; simp [h])]
      exact spl1_ne s r _
theorem spl1_free (s : Nat) : ∀ (L acc : List Nat), s ∉ acc → ∀ p ∈ TL.spl [s] 0 acc L, s ∉ p
  | [], acc, h, p, hp => by
    rw [TL.spl_nil] at hp
    rw [List.mem_singleton.mp hp]
    exact h
  | d :: r, acc, h, p, hp => by
    by_cases e : d = s
    · rw [TL.spl_hit (by rw [pre_one, e]; simp)] at hp
      rcases List.mem_cons.mp hp with z | z
      · rw [z]; exact h
      · exact spl1_free s r [] (by simp) p z
    · rw [TL.spl_miss (by rw [pre_one]; simp [e])] at hp
      refine spl1_free s r _ (fun z => ?_) p hp
      rcases List.mem_append.mp z with z | z
      · exact h z
      · exact e (List.mem_singleton.mp z).symm
theorem spl1_len (s : Nat) : ∀ (L acc : List Nat), ((TL.spl [s] 0 acc L).map List.length).sum + (TL.spl [s] 0 acc L).length = acc.length + L.length + 1
  | [], acc => by
    rw [TL.spl_nil]
    show acc.length + 0 + 1 = acc.length + 0 + 1
    rfl
  | d :: r, acc => by
    by_cases e : d = s
    · have e1 : TL.spl [s] 0 acc (d :: r) = acc :: TL.spl [s] 0 [] r := TL.spl_hit (by rw [pre_one, e]; simp)
      rw [e1]
      simp only [List.map_cons, List.sum_cons, List.length_cons]
      have := spl1_len s r []
      have h0 : ([] : List Nat).length = 0 := rfl
      omega
    · rw [TL.spl_miss (by rw [pre_one]; simp [e])]
      have := spl1_len s r (acc ++ [d])
      rw [List.length_append] at this
      have h1 : [d].length = 1 := rfl
      rw [List.length_cons]
      omega
theorem spl1_join (s : Nat) : ∀ (L acc : List Nat), TL.joinL [s] (TL.spl [s] 0 acc L) = acc ++ L
  | [], acc => by rw [TL.spl_nil, List.append_nil]; rfl
  | d :: r, acc => by
    by_cases e : d = s
    · rw [TL.spl_hit (by rw [pre_one, e]; simp)]
      obtain ⟨q, t, ht⟩ := List.exists_cons_of_ne_nil (spl1_ne s r [])
      have ih := spl1_join s r []
      show TL.joinL [s] (acc :: TL.spl [s] 0 [] r) = _
      rw [ht] at ih ⊢
      show acc ++ ([s] ++ TL.joinL [s] (q :: t)) = _
      rw [ih, e]
      rfl
    · rw [TL.spl_miss (by rw [pre_one]; simp [e]), spl1_join s r, List.append_assoc]
      rfl
theorem spl1_single {s : Nat} {p : List Nat} (h : s ∉ p) : TL.spl [s] 0 [] p = [p] := by
  rw [TL.spl_last1 h]
  rfl
/-- figures, and the number that a word writes -/
def figB (c : Nat) : Bool := decide (48 ≤ c) && decide (c ≤ 57)
def valN (w : List Nat) : Nat := NumText.digitsVal w
def numK (k : Nat) (w : List Nat) : Option Int := if (1 ≤ w.length ∧ w.length ≤ k ∧ w.all figB = true) ∧ ¬ (w.head? = some 48 ∧ w ≠ [48]) then some (valN w : Int) else none
theorem val_fold : ∀ (w : List Nat) (a : Nat), w.foldl (fun acc c => acc * 10 + (c - 48)) a = a * 10 ^ w.length + valN w
  | [], a => by
    show a = a * 1 + 0
    omega
  | c :: r, a => by
    rw [List.foldl_cons, val_fold r]
    have e : valN (c :: r) = (c - 48) * 10 ^ r.length + valN r := by
      show (c :: r).foldl (fun acc c => acc * 10 + (c - 48)) 0 = _
      rw [List.foldl_cons, val_fold r]
      simp
    rw [e, List.length_cons, Nat.pow_succ, Nat.add_mul]
    rw [Nat.mul_comm (10 ^ r.length) 10, ← Nat.mul_assoc]
    omega
theorem val_cons (c : Nat) (r : List Nat) : valN (c :: r) = (c - 48) * 10 ^ r.length + valN r := by
  show (c :: r).foldl (fun acc c => acc * 10 + (c - 48)) 0 = _
  rw [List.foldl_cons, val_fold r]
  simp
theorem val_lt : ∀ (w : List Nat), w.all figB = true → valN w < 10 ^ w.length
  | [], _ => by decide
  | c :: r, h => by
    rw [List.all_cons, Bool.and_eq_true] at h
    have hc := h.1
    unfold figB at hc
    rw [Bool.and_eq_true] at hc
    have c2 := of_decide_eq_true hc.2
    have ih := val_lt r h.2
    rw [val_cons, List.length_cons, Nat.pow_succ]
    have : (c - 48) * 10 ^ r.length ≤ 9 * 10 ^ r.length := Nat.mul_le_mul_right _ (by omega)
    omega
theorem val_ge {c : Nat} {r : List Nat} (h : (c :: r).all figB = true) (n : c ≠ 48) : 10 ^ r.length ≤ valN (c :: r) := by
  rw [List.all_cons, Bool.and_eq_true] at h
  have hc := h.1
  unfold figB at hc
  rw [Bool.and_eq_true] at hc
  have c1 := of_decide_eq_true hc.1
  rw [val_cons]
  have : 1 * 10 ^ r.length ≤ (c - 48) * 10 ^ r.length := Nat.mul_le_mul_right _ (by omega)
  omega
theorem numK_some {k : Nat} {w : List Nat} {i : Int} (h : numK k w = some i) : 1 ≤ w.length ∧ w.length ≤ k ∧ w.all figB = true ∧ ¬ (w.head? = some 48 ∧ w ≠ [48]) ∧ i = (valN w : Int) := by
  unfold numK at h
  split at h
  · rename_i c
    exact ⟨c.1.1, c.1.2.1, c.1.2.2, c.2, (Option.some.inj h).symm⟩
  · cases h
theorem numK_nn {k : Nat} {w : List Nat} {i : Int} (h : numK k w = some i) : 0 ≤ i := by
  rw [(numK_some h).2.2.2.2]
  omega
/-- short words alike; long ones are great -/
theorem num_short {w : List Nat} (h : w.length ≤ 12) : numK 12 w = numK 40 w := by
  unfold numK
  by_cases c : (1 ≤ w.length ∧ w.length ≤ 12 ∧ w.all figB = true) ∧ ¬ (w.head? = some 48 ∧ w ≠ [48])
  · rw [if_pos c, if_pos ⟨⟨c.1.1, by omega, c.1.2.2⟩, c.2⟩]
  · rw [if_neg c, if_neg fun z => c ⟨⟨z.1.1, h, z.1.2.2⟩, z.2⟩]
theorem num_long {w : List Nat} {i : Int} (h : ¬ w.length ≤ 12) (e : numK 40 w = some i) : 1000000000000 ≤ i := by
  obtain ⟨h1, h2, h3, h4, rfl⟩ := numK_some e
  obtain ⟨c, r, rfl⟩ := List.exists_cons_of_ne_nil (show w ≠ [] from fun z => by rw [z] at h1; cases h1)
  have nc : c ≠ 48 := fun z => h4 ⟨by rw [z]; rfl, fun y => h (by rw [y]; decide)⟩
  have g := val_ge h3 nc
  rw [List.length_cons] at h
  have : (10 : Nat) ^ 12 ≤ 10 ^ r.length := Nat.pow_le_pow_right (by decide) (by omega)
  have e12 : (10 : Nat) ^ 12 = 1000000000000 := by decide
  omega
theorem num_no {w : List Nat} (h : ¬ w.length ≤ 12) : numK 12 w = none := by
  unfold numK
  rw [if_neg fun z => h z.1.2.1]
theorem num_both {w : List Nat} {i : Int} (h : numK 12 w = some i) : numK 40 w = some i := by
  rw [← num_short (numK_some h).2.1]
  exact h
theorem num_small {w : List Nat} {i : Int} (h : numK 40 w = some i) (lt : i < 1000000000000) : numK 12 w = some i := by
  by_cases z : w.length ≤ 12
  · rw [num_short z]; exact h
  · have := num_long z h
    omega
def optD : Option Int → PyData
  | some i => .int i
  | none => .none
def optV : Option Int → V
  | some i => .int i
  | none => .non
theorem sh_opt {H : Hp} : ∀ o : Option Int, Sh H (optV o) (optD o)
  | some i => .int i
  | none => .non
theorem opt_weight {w : List Nat} : (optD (numK 40 w)).weight ≤ 4 * w.length := by
  cases e : numK 40 w with
  | none => exact Nat.zero_le _
  | some i =>
    obtain ⟨h1, h2, h3, h4, rfl⟩ := numK_some e
    refine int_weight ?_
    have l := val_lt w h3
    have p : (10 : Nat) ^ w.length ≤ 2 ^ (4 * w.length) := by
      rw [Nat.pow_mul]
      exact Nat.pow_le_pow_left (by decide) _
    show valN w < 2 ^ (4 * w.length)
    omega
/-- what the program makes of a line, of a text -/
def inW : List Nat := [105, 110, 112, 117, 116, 115]
def headP (h : List Nat) : Option Int :=
  match wds h with
  | [a, b] => if a = inW then numK 40 b else none
  | _ => none
def gateP (l : List Nat) : PyData :=
  match wds l with
  | t :: ws => .tuple [.str (SX.S t), .tuple (ws.map fun w => optD (numK 40 w))]
  | [] => .none
def netPD (L : List Nat) : PyData :=
  match lns L with
  | h :: ls => .tuple [optD (headP h), .tuple (ls.map gateP)]
  | [] => .none
theorem wsum (ws : List (List Nat)) : PyData.weightAll (ws.map fun w => optD (numK 40 w)) ≤ 4 * (ws.map List.length).sum + ws.length := by
  induction ws with
  | nil => exact Nat.zero_le _
  | cons w r ih =>
    rw [List.map_cons, List.map_cons, List.sum_cons, List.length_cons]
    show (optD (numK 40 w)).weight + 1 + PyData.weightAll _ ≤ _
    have := opt_weight (w := w)
    omega
theorem gate_weight (l : List Nat) : (gateP l).weight ≤ 4 * l.length + 2 := by
  have hl := spl1_len 32 l []
  have ne := spl1_ne 32 l []
  unfold gateP wds
  cases e : TL.spl [32] 0 [] l with
  | nil => exact absurd e ne
  | cons t ws =>
    rw [e, List.map_cons, List.sum_cons, List.length_cons] at hl
    show (SX.S t).length + 1 + (PyData.weightAll (ws.map fun w => optD (numK 40 w)) + 1 + 0) ≤ _
    have := wsum ws
    rw [SX.S_len]
    have h0 : ([] : List Nat).length = 0 := rfl
    omega
theorem gates_weight (ls : List (List Nat)) : PyData.weightAll (ls.map gateP) ≤ 4 * (ls.map List.length).sum + 3 * ls.length := by
  induction ls with
  | nil => exact Nat.zero_le _
  | cons l r ih =>
    rw [List.map_cons, List.map_cons, List.sum_cons, List.length_cons]
    show (gateP l).weight + 1 + PyData.weightAll _ ≤ _
    have := gate_weight l
    omega
theorem head_weight (h : List Nat) : (optD (headP h)).weight ≤ 160 := by
  unfold headP
  split
  · split
    · rename_i a b _ _
      cases e : numK 40 b with
      | none => exact Nat.zero_le _
      | some i =>
        have := (numK_some e).2.1
        have z := opt_weight (w := b)
        rw [e] at z
        omega
    · exact Nat.zero_le _
  · exact Nat.zero_le _
theorem net_weight (L : List Nat) : (netPD L).weight ≤ 4 * L.length + 170 := by
  have hl := spl1_len 10 L []
  have ne := spl1_ne 10 L []
  unfold netPD lns
  cases e : TL.spl [10] 0 [] L with
  | nil => exact absurd e ne
  | cons h ls =>
    rw [e, List.map_cons, List.sum_cons, List.length_cons] at hl
    show (optD (headP h)).weight + 1 + (PyData.weightAll (ls.map gateP) + 1 + 0) ≤ _
    have := gates_weight ls
    have := head_weight h
    have h0 : ([] : List Nat).length = 0 := rfl
    omega

end Gk

set_option Elab.async false
set_option linter.all false
set_option maxRecDepth 100000
set_option maxHeartbeats 1000000
set_option pp.maxSteps 1500
set_option pp.deepTerms false
namespace Gk
open PySem PySem.Spec PyProof.Rows L2
section
variable {P : Program} {w : World} {K : PySem.W.Frag} {mg : Str → Option Value} {base : Heap}
/-! ### numbers, heads, gates, nets read of any text -/
theorem m10 (c : Nat) : decide (c ∈ (Str.ofString "0123456789").cps.toList) = figB c := by
  have e : (Str.ofString "0123456789").cps.toList = [48, 49, 50, 51, 52, 53, 54, 55, 56, 57] := by decide +kernel
  rw [e]
  unfold figB
  rw [← Bool.decide_and]
  refine decide_eq_decide.mpr ?_
  simp only [List.mem_cons, List.not_mem_nil, or_false]
  omega
theorem z0_S : Str.ofString "0" = SX.S [48] := by decide +kernel
theorem fit_line {n : Nat} (h : n ≤ 100000) : n ≤ sizeLine := Nat.le_trans h (by decide)
theorem numK_of {k : Nat} {w : List Nat} (h1 : 1 ≤ w.length) (hk : w.length ≤ k) (hf : w.all figB = true) (hz : ¬ (w.head? = some 48 ∧ w ≠ [48])) : numK k w = some (valN w : Int) := by
  unfold numK
  rw [if_pos ⟨⟨h1, hk, hf⟩, hz⟩]
theorem int_w {w : List Nat} (h1 : 1 ≤ w.length) (hk : w.length ≤ 640) (hf : w.all figB = true) : PySem.intText? (SX.S w) = some ((valN w : Nat) : Int) ∧ (SX.S w).length ≤ 640 :=
  ⟨SX.int_S hf (fun z => by rw [z] at h1; cases h1) (by omega), by rw [SX.S_len]; exact hk⟩
def sp_read_number (T : Tx K mg) : Sp := fun vs H Q _ => ∃ w : List Nat, vs = [.str (SX.S w)] ∧ w.length ≤ 100000 ∧ GxR.TabG H T.P_read_number ∧ ∀ H', Gr H H' → Q (optV (numK 40 w)) H'
theorem ok_read_number (T : Tx K mg) (B : Tb base T) : FnOk P w K mg base CX0 2 T.f_read_number T.fd_read_number ["word"] (sp_read_number T) := by
  refine okC T.F_read_number sc_read_number (fun vs H Q E h => ?_) (fun A outer s H vs Q E hr h => ?_)
  · obtain ⟨n, rfl, _⟩ := h
    rfl
  · obtain ⟨w', rfl, hw, tab, q⟩ := h
    refine ⟨_, (pss_cons (ps_if (pt_not (pt_chain op_le op_le pe_int (pe_callB call_len_str (by rfl) T.m_len PySem.boot_len (pa_cons (pv 0) pa_nil)) (pe_glob (v := .int 40) (by rfl) T.k_MOST_FIGURES.choose_spec ⟨_, rfl⟩))) (pss_one (ps_ret pe_non)) pss_nil) (pss_cons (ps_if (pt_not (pt_val (pe_allX (own := [("sign", 1)]) (k := 0) (hr.mono (by decide)) rfl sc_read_number.nd (by rfl) T.m_all (by decide +kernel) B.TB_read_number T.cd_read_number rfl rfl (by decide +kernel) (blkOk_by (own := [("sign", 1)]) (N := ["word", "sign"]) (sc := defScope s_read_number) (by decide +kernel)) (pi_str (pv 0)) (fun _ _ _ _ _ _ _ hr gd => (pg_name (i := 1) sc_read_number.nd rfl (by first | exact .inl rfl | exact .inr rfl))) (fun _ _ _ _ _ _ _ hr gd => pts_nil) (fun _ _ _ _ _ _ _ hr gd => (pe_cmpR op_in_sign (pv 1) pe_str rfl)) (fun _ => rfl)))) (pss_one (ps_ret pe_non)) pss_nil) (pss_cons (ps_if (pw_and (pt_cmpR op_eq (pe_item_str (pv 0) pe_int (fun _ _ => rfl)) pe_str (nomark _)) (pw_and1 (pt_cmpR op_ne (pv 0) pe_str (nomark _)))).pt (pss_one (ps_ret pe_non)) pss_nil) (pss_one (ps_ret (pe_callTy call_int_str (by rfl) T.m_int (by decide +kernel) (pa_cons (pv 0) pa_nil))))))), ?_⟩
    have wl : (SX.S w').length ≤ sizeLine := by
      rw [SX.S_len]
      exact fit_line hw
    have none_of : (¬ ((1 ≤ w'.length ∧ w'.length ≤ 40 ∧ w'.all figB = true) ∧ ¬ (w'.head? = some 48 ∧ w' ≠ [48]))) → ∀ H', Gr H H' → Q .non H' := fun n H' g => by
      have q' := q H' g
      have e : numK 40 w' = none := by
        unfold numK
        rw [if_neg n]
      rw [e] at q'
      exact q'
    refine ⟨.str (SX.S w'), rfl, _, rfl, wl, ?_⟩
    rw [SX.S_len]
    refine ⟨1, _, rfl, rfl, _, rfl, ite2 (fun h1 => ?_) (fun h1 => ?_)⟩
    · have h1' := of_decide_eq_true h1
      refine ⟨_, 40, rfl, rfl, _, rfl, ite2 (fun h2 => ?_) (fun h2 => ?_)⟩
      · have h2' : ¬ (w'.length : Int) ≤ 40 := of_decide_eq_false (by simpa using h2)
        exact none_of (fun z => h2' (by omega)) H Gr.refl
      have h2' : (w'.length : Int) ≤ 40 := by simpa using h2
      refine ⟨.str (SX.S w'), rfl, SX.S w', rfl, tab, fun H2 tb => ?_⟩
      have g2 := Gr.tab tab tb
      refine gx_str (z := SX.S w') (fun j _ H' => H' = H2 ∧ (w'.take j).all figB = true) ⟨rfl, rfl⟩ ?_ ?_
      · rintro j x _ H' hx ⟨rfl, ih⟩
        have hx' : w'[j]? = some x := by
          have := cps_at hx
          simpa using this
        refine ⟨rfl, .str ⟨#[x]⟩, rfl, x, _, rfl, rfl, _, rfl, ?_⟩
        rw [m10]
        refine ite2 (fun z => ⟨rfl, all_take hx' ih z⟩) (fun z => ?_)
        refine ⟨_, rfl, iteT ?_⟩
        refine none_of (fun k => ?_) H' g2
        rw [all_stop hx' z] at k
        cases k.1.2.2
      · rintro _ H' ⟨rfl, ih⟩
        have es : (SX.S w').cps.size = w'.length := by simp
        rw [es, List.take_length] at ih
        refine ⟨_, rfl, iteF ?_⟩
        obtain ⟨c, r, e⟩ : ∃ c r, w' = c :: r := List.exists_cons_of_ne_nil (fun z => by rw [z] at h1'; exact absurd h1' (by decide))
        have yes : ¬ (w'.head? = some 48 ∧ w' ≠ [48]) → Q (V.int (valN w' : Int)) H' := fun n => by
          have q' := q H' g2
          rw [numK_of (by omega) (by omega) ih n] at q'
          exact q'
        have fin := int_w (w := w') (by omega) (by omega) ih
        refine ⟨.str (SX.S w'), rfl, _, 0, c, rfl, rfl, by decide, by decide, ?_, ?_, rfl, _, rfl, ite2 (fun z => ?_) (fun z => ?_)⟩
        · rw [SX.S_len]
          omega
        · show w'.toArray[0]? = some c
          rw [e]
          rfl
        · have hc : (⟨#[c]⟩ : Str) = SX.S [48] := by
            have := V.str.inj (of_decide_eq_true z)
            rw [this]
            exact z0_S
          have hc2 : c = 48 := (List.cons.inj (SX.S_inj (a := [c]) hc)).1
          refine ⟨.str (SX.S w'), rfl, rfl, _, rfl, ite2 (fun z2 => ?_) (fun z2 => ⟨.str (SX.S w'), rfl, _, _, rfl, fin.1, fin.2, yes ?_⟩)⟩
          · refine none_of (fun k => k.2 ⟨by rw [e, hc2]; rfl, fun y => ?_⟩) H' g2
            rw [y, z0_S] at z2
            simp at z2
          · rintro ⟨_, ne⟩
            refine z2 ?_
            have : ¬ V.str (SX.S w') = V.str (Str.ofString "0") := fun k => ne (SX.S_inj (by rw [V.str.inj k]; exact z0_S))
            rw [decide_eq_false this]
            rfl
        · refine ⟨.str (SX.S w'), rfl, _, _, rfl, fin.1, fin.2, yes ?_⟩
          rintro ⟨hd, _⟩
          rw [e] at hd
          have : c = 48 := Option.some.inj hd
          refine z (decide_eq_true ?_)
          rw [this, z0_S]
    · refine ⟨_, rfl, iteT ?_⟩
      have h1' : ¬ (1 : Int) ≤ (w'.length : Int) := fun k => h1 (decide_eq_true k)
      exact none_of (fun z => h1' (by omega)) H Gr.refl

end
end Gk

set_option Elab.async false
set_option linter.all false
set_option maxRecDepth 100000
set_option maxHeartbeats 1000000
set_option pp.maxSteps 1500
set_option pp.deepTerms false
namespace Gk
open PySem PySem.Spec PyProof.Rows L2
section
variable {P : Program} {w : World} {K : PySem.W.Frag} {mg : Str → Option Value} {base : Heap}
theorem head_len (h : List Nat) : (wds h).length ≤ h.length + 1 := by
  have := spl1_len 32 h []
  have h0 : ([] : List Nat).length = 0 := rfl
  unfold wds
  omega
theorem wd_len {h p : List Nat} (hp : p ∈ wds h) : p.length ≤ h.length := by
  have h1 := spl1_len 32 h []
  have h0 : ([] : List Nat).length = 0 := rfl
  have key : ∀ (l : List (List Nat)), p ∈ l → p.length + l.length ≤ (l.map List.length).sum + l.length := by
    intro l hl
    induction l with
    | nil => cases hl
    | cons x r ih =>
      rw [List.map_cons, List.sum_cons]
      rcases List.mem_cons.mp hl with z | z
      · rw [z]; omega
      · have := ih z
        rw [List.length_cons]
        omega
  have k2 := key _ hp
  have ne := spl1_ne 32 h []
  have : 0 < (TL.spl [32] 0 [] h).length := List.length_pos_iff.mpr ne
  unfold wds at k2
  omega
theorem in_S : Str.ofString "inputs" = SX.S inW := by decide +kernel
theorem sp32_S : Str.ofString " " = SX.S [32] := by decide +kernel
theorem nl10_S : Str.ofString "\n" = SX.S [10] := by decide +kernel
def sp_read_head (T : Tx K mg) : Sp := fun vs H Q _ => ∃ h : List Nat, vs = [.str (SX.S h)] ∧ h.length ≤ 10000 ∧ GxR.TabG H T.P_read_number ∧ ∀ H', Gr H H' → Q (optV (headP h)) H'
theorem ok_read_head (T : Tx K mg) (B : Tb base T) : FnOk P w K mg base CX0 3 T.f_read_head T.fd_read_head ["line"] (sp_read_head T) := by
  refine T.F_read_head.ok sc_read_head (fun vs H Q E h => ?_) (fun cdv A outer s H vs Q E hr h => ?_)
  · obtain ⟨m, rfl, _⟩ := h
    rfl
  · obtain ⟨h, rfl, hl, tab, q⟩ := h
    refine ⟨_, (pss_cons (ps_set (i := 1) sc_read_head.nd rfl (by first | exact .inl rfl | exact .inr rfl) (pe_bm PySem.F.plainAttrs_str PySem.F.slot_str_split PySem.F.type_str_split mt_split (pv 0) (pa_cons pe_str pa_nil))) (pss_cons (ps_if (pw_or (pt_cmpR op_ne (pe_callB call_len_seq (by rfl) T.m_len PySem.boot_len (pa_cons (pv 1) pa_nil)) pe_int (nomark _)) (pw_or1 (pt_cmpR op_ne (pe_ix ix_list (pv 1) pe_int (fun _ _ => rfl)) pe_str (nomark _)))).pt (pss_one (ps_ret pe_non)) pss_nil) (pss_one (ps_ret (pe_call (ok_read_number T B) (hr.mono (by decide)) (by rfl) T.g_read_number T.F_read_number.kp T.b_read_number .nil pass0 (pa_cons (pe_ix ix_list (pv 1) pe_int (fun _ _ => rfl)) pa_nil)))))), ?_⟩
    refine ⟨.str (SX.S h), rfl, rfl, _, _, rfl, rfl, by decide +kernel, ?_, fun p np => ?_⟩
    · rw [SX.S_len]
      exact Nat.le_trans (show _ ≤ 20000 by omega) (by decide)
    rw [sp32_S, split_wds]
    have g1 : Gr H (upd H p (.lst (((wds h).map SX.S).map V.str))) := Gr.none np
    have h1 := upd_same (H := H) (a := p) (o := .lst (((wds h).map SX.S).map V.str))
    generalize upd H p (.lst (((wds h).map SX.S).map V.str)) = H1 at g1 h1 ⊢
    refine ⟨.ref p, rfl, p, _, rfl, .inl (SqL.of h1), rfl, _, rfl, ?_⟩
    rw [List.length_map, List.length_map, len2]
    refine ite2 (fun e => ?_) (fun e => ?_)
    · have ne : (wds h).length ≠ 2 := fun z => by rw [z] at e; cases e
      have q' := q H1 g1
      have : headP h = none := by
        unfold headP
        split
        · rename_i a b hw
          rw [hw] at ne
          exact absurd rfl ne
        · rfl
      rw [this] at q'
      exact q'
    obtain ⟨a, b, hw⟩ : ∃ a b, wds h = [a, b] := by
      have : (wds h).length = 2 := of_decide_eq_true (notF e)
      match wds h, this with
      | [a, b], _ => exact ⟨a, b, rfl⟩
    have hb : b.length ≤ h.length := wd_len (by rw [hw]; exact List.mem_cons_of_mem _ (List.mem_cons_self ..))
    have val : headP h = if a = inW then numK 40 b else none := by
      unfold headP
      rw [hw]
    rw [hw] at h1
    refine ⟨.ref p, rfl, p, _, 0, _, rfl, rfl, SqL.of h1, rfl, rfl, _, rfl, ite2 (fun e2 => ?_) (fun e2 => ?_)⟩
    · have na : ¬ a = inW := fun z => by
        rw [z, in_S] at e2
        simp at e2
      have q' := q H1 g1
      rw [val, if_neg na] at q'
      exact q'
    have ha : a = inW := by
      have : V.str (SX.S a) = V.str (Str.ofString "inputs") := of_decide_eq_true (notF e2)
      have e3 := V.str.inj this
      rw [in_S] at e3
      exact SX.S_inj e3
    rw [val, if_pos ha] at q
    exact ⟨.ref p, rfl, p, _, 1, _, rfl, rfl, SqL.of h1, rfl, b, rfl, by omega, g1.2 _ tab, fun H' g' => q H' (g1.trans g')⟩
theorem GrD.gr' {D : Addr} {H H' : Hp} (g : GrD D H H') : Gr H H' := g.gr
def sp_read_gate (T : Tx K mg) : Sp := fun vs H Q _ => ∃ l : List Nat, vs = [.str (SX.S l)] ∧ l.length ≤ 10000 ∧ GxR.TabG H T.P_read_number ∧ ∀ r H', Gr H H' → Sh H' (.ref r) (gateP l) → Q (.ref r) H'
theorem sh_opts {H : Hp} : ∀ ws : List (List Nat), ShAll H (ws.map fun w => optV (numK 40 w)) (ws.map fun w => optD (numK 40 w))
  | [] => .nil
  | _ :: r => .cons (sh_opt _) (sh_opts r)
theorem ok_read_gate (T : Tx K mg) (B : Tb base T) : FnOk P w K mg base CX0 3 T.f_read_gate T.fd_read_gate ["line"] (sp_read_gate T) := by
  refine T.F_read_gate.ok sc_read_gate (fun vs H Q E h => ?_) (fun cdv A outer s H vs Q E hr h => ?_)
  · obtain ⟨g, rfl, _⟩ := h
    rfl
  · obtain ⟨l, rfl, hl, tab, q⟩ := h
    refine ⟨_, (pss_cons (ps_asg (pe_bm PySem.F.plainAttrs_str PySem.F.slot_str_split PySem.F.type_str_split mt_split (pv 0) (pa_cons pe_str pa_nil)) (StarR.pg_star rfl (pgs_cons (pg_name (i := 1) sc_read_gate.nd rfl (by first | exact .inl rfl | exact .inr rfl)) (StarR.pgs_star (pg_name (i := 2) sc_read_gate.nd rfl (by first | exact .inl rfl | exact .inr rfl)) pgs_nil)))) (pss_one (ps_ret (pe_tup (pa_cons (pv 1) (pa_cons (pe_callTy call_tuple_of (by rfl) T.m_tuple (by decide +kernel) (pa_cons (pe_lc (own := [("wire", 3)]) (by rfl) sc_read_gate.nd (pi_list (pv 2)) (blkOk_by (own := [("wire", 3)]) (N := ["line", "table", "wires", "wire"]) (sc := defScope s_read_gate) (by decide +kernel)) (fun _ _ _ _ _ => (pg_name (i := 3) sc_read_gate.nd rfl (by first | exact .inl rfl | exact .inr rfl))) (fun _ _ _ _ _ => pts_nil) (fun _ _ _ _ _ => (pe_call (ok_read_number T B) (hr.mono (by decide)) (by rfl) T.g_read_number T.F_read_number.kp T.b_read_number .nil pass0 (pa_cons (pv 3) pa_nil)))) pa_nil)) pa_nil)))))), ?_⟩
    refine ⟨.str (SX.S l), rfl, rfl, _, _, rfl, rfl, by decide +kernel, ?_, fun p np => ?_⟩
    · rw [SX.S_len]
      exact Nat.le_trans (show _ ≤ 20000 by omega) (by decide)
    rw [sp32_S, split_wds]
    have lw := head_len l
    obtain ⟨t, ws, hw⟩ : ∃ t ws, wds l = t :: ws := List.exists_cons_of_ne_nil (spl1_ne 32 l [])
    have val : gateP l = .tuple [.str (SX.S t), .tuple (ws.map fun w => optD (numK 40 w))] := by
      unfold gateP
      rw [hw]
    have wb : ∀ w ∈ ws, w.length ≤ 10000 := fun w h => Nat.le_trans (wd_len (by rw [hw]; exact List.mem_cons_of_mem _ h)) hl
    rw [hw] at lw
    rw [List.length_cons] at lw
    rw [hw]
    refine ⟨p, _, _, rfl, SqL.of upd_same, fun D nD => ⟨_, _, rfl, _, _, rfl, rfl, ?_⟩⟩
    have hD : (upd (upd H p (.lst (((t :: ws).map SX.S).map V.str))) D (.lst ((ws.map SX.S).map V.str))) D = some (.lst ((ws.map SX.S).map V.str)) := upd_same
    have g1 : Gr H (upd (upd H p (.lst (((t :: ws).map SX.S).map V.str))) D (.lst ((ws.map SX.S).map V.str))) := (Gr.none np).trans (Gr.none nD)
    revert hD g1
    generalize upd (upd H p (.lst (((t :: ws).map SX.S).map V.str))) D (.lst ((ws.map SX.S).map V.str)) = H1
    intro hD g1
    refine ⟨_, rfl, .ref D, rfl, D, rfl, ⟨_, SqL.of hD⟩, fun L nL => ?_⟩
    refine lc_list (K := K) (a := D) (xs := (ws.map SX.S).map V.str) (fun j H' => GrD L H1 H' ∧ H' L = some (.lst ((ws.take j).map fun w => optV (numK 40 w)))) ⟨GrD.new nL, upd_same⟩ (fun j H' _ hP => SqL.of (hP.1.gr.lst hD)) ?_ ?_
    · rintro j x H2 hx ⟨g2, hL⟩
      rw [List.getElem?_map, List.getElem?_map] at hx
      cases hj : ws[j]? with
      | none => rw [hj] at hx; cases hx
      | some k =>
        rw [hj] at hx
        cases Option.some.inj hx
        have hjl := (List.getElem?_eq_some_iff.mp hj).1
        refine ⟨rfl, .str (SX.S k), rfl, k, rfl, Nat.le_trans (wb k (List.mem_of_getElem? hj)) (by decide), (g1.trans g2.gr).2 _ tab, fun H3 g3 => ⟨_, g3.lst hL, ?_, (g2.then hL g3).set, ?_⟩⟩
        · rw [List.length_map, List.length_take]
          exact Nat.lt_of_lt_of_le (show _ < 20000 by omega) (by decide)
        · rw [upd_same, List.take_add_one, hj, List.map_append]
          rfl
    · rintro H2 ⟨g2, hL⟩
      rw [List.length_map, List.length_map, List.take_length] at hL
      refine ⟨L, _, rfl, .inl ⟨SqL.of hL, fun ti nti => ?_⟩⟩
      have s3 := same_upd (o := (HO.tup (ws.map fun w => optV (numK 40 w)))) nti
      have h3 : upd H2 ti (HO.tup (ws.map fun w => optV (numK 40 w))) ti = some (HO.tup (ws.map fun w => optV (numK 40 w))) := upd_same
      generalize upd H2 ti (HO.tup (ws.map fun w => optV (numK 40 w))) = H3 at s3 h3 ⊢
      refine ⟨sl2, fun tt ntt => ?_⟩
      have s4 := same_upd (o := (HO.tup [V.str (SX.S t), V.ref ti])) ntt
      have h4 : upd H3 tt (HO.tup [V.str (SX.S t), V.ref ti]) tt = some (HO.tup [V.str (SX.S t), V.ref ti]) := upd_same
      generalize upd H3 tt (HO.tup [V.str (SX.S t), V.ref ti]) = H4 at s4 h4 ⊢
      refine q tt _ ((g1.trans g2.gr).trans (Gr.of (s3.trans s4))) ?_
      rw [val]
      exact .tup h4 (.cons (.str _) (.cons (.tup (s4 _ _ h3) (sh_opts ws)) .nil))
theorem ln_len {L p : List Nat} (hp : p ∈ lns L) : p.length ≤ L.length := by
  have h1 := spl1_len 10 L []
  have h0 : ([] : List Nat).length = 0 := rfl
  have key : ∀ (l : List (List Nat)), p ∈ l → p.length + l.length ≤ (l.map List.length).sum + l.length := by
    intro l hl
    induction l with
    | nil => cases hl
    | cons x r ih =>
      rw [List.map_cons, List.sum_cons]
      rcases List.mem_cons.mp hl with z | z
      · rw [z]; omega
      · have := ih z
        rw [List.length_cons]
        omega
  have k2 := key _ hp
  have ne := spl1_ne 10 L []
  have : 0 < (TL.spl [10] 0 [] L).length := List.length_pos_iff.mpr ne
  unfold lns at k2
  omega
theorem lns_len (L : List Nat) : (lns L).length ≤ L.length + 1 := by
  have := spl1_len 10 L []
  have h0 : ([] : List Nat).length = 0 := rfl
  unfold lns
  omega
def strD? : PyData → Option Str
  | .str z => some z
  | _ => none
mutual
def noLD : PyData → Bool
  | .list _ => false
  | .dict _ => false
  | .tuple ds => noLDs ds
  | _ => true
def noLDs : List PyData → Bool
  | [] => true
  | d :: r => noLD d && noLDs r
end
theorem Tabs.gr' {H H' : Hp} {Ps : List Addr} (t : Tabs H Ps) (g : Gr H H') : Tabs H' Ps := fun P hP => g.2 _ (t P hP)
mutual
theorem Sh.ts {H H' : Hp} (s : Ts H H') : ∀ {v : V} {d : PyData}, Sh H v d → noLD d = true → Sh H' v d
  | _, _, .non, _ => .non
  | _, _, .bl b, _ => .bl b
  | _, _, .int i, _ => .int i
  | _, _, .str x, _ => .str x
  | _, _, .lst h m t, n => by cases n
  | _, _, .tup h t, n => .tup (s _ _ h) (t.ts s n)
  | _, _, .dic h t, n => by cases n
theorem ShAll.ts {H H' : Hp} (s : Ts H H') : ∀ {vs : List V} {ds : List PyData}, ShAll H vs ds → noLDs ds = true → ShAll H' vs ds
  | _, _, .nil, _ => .nil
  | _, _, .cons h t, n => .cons (h.ts s (Bool.and_eq_true_iff.mp n).1) (t.ts s (Bool.and_eq_true_iff.mp n).2)
end
theorem noLD_opt (o : Option Int) : noLD (optD o) = true := by cases o <;> rfl
theorem noLDs_opts : ∀ ws : List (List Nat), noLDs (ws.map fun w => optD (numK 40 w)) = true
  | [] => rfl
  | w :: r => by
    show (noLD (optD (numK 40 w)) && noLDs _) = true
    rw [noLD_opt, noLDs_opts r]
    rfl
theorem noLD_gate (l : List Nat) : noLD (gateP l) = true := by
  obtain ⟨t, ws, hw⟩ : ∃ t ws, wds l = t :: ws := List.exists_cons_of_ne_nil (spl1_ne 32 l [])
  have val : gateP l = .tuple [.str (SX.S t), .tuple (ws.map fun w => optD (numK 40 w))] := by
    unfold gateP
    rw [hw]
  rw [val]
  show (true && (noLDs (ws.map fun w => optD (numK 40 w)) && true)) = true
  rw [noLDs_opts]
  rfl
theorem noLD_gates : ∀ ls : List (List Nat), noLDs (ls.map gateP) = true
  | [] => rfl
  | l :: r => by
    show (noLD (gateP l) && noLDs _) = true
    rw [noLD_gate, noLD_gates r]
    rfl
def sp_read_net (T : Tx K mg) : Sp := fun vs H Q E => ∃ (v : V) (d : PyData), vs = [v] ∧ Sh H v d ∧ (∀ z, d = .str z → z.length ≤ 9000) ∧ Tabs H T.tabs ∧
  ((∀ z, d = .str z → isNetD (netPD (TL.tl z)) = false) → ∀ H', Gr H H' → E (.ref T.C_NoText) none H') ∧
  ∀ z, d = .str z → isNetD (netPD (TL.tl z)) = true → ∀ H' r, Gr H H' → Sh H' (.ref r) (netPD (TL.tl z)) → Q (.ref r) H'
theorem ok_read_net (T : Tx K mg) (B : Tb base T) : FnOk P w K mg base (L2N.CX P w) 6 T.f_read_net T.fd_read_net ["text"] (sp_read_net T) := by
  refine GxE.okN T.F_read_net sc_read_net (fun vs H Q E h => ?_) (fun cdv A outer s H vs Q E hr h => ?_)
  · obtain ⟨v, d, rfl, _⟩ := h
    rfl
  · obtain ⟨v, d, rfl, sh, hz, tabs, no, yes⟩ := h
    refine ⟨_, (pss_cons (ps_if (pt_not (pt_val (pe_callB call_isi (by rfl) T.m_isinstance (by decide +kernel) (pa_cons (pv 0) (pa_cons (pe_bltn (v := .ty "str") (u := .type "str") (by rfl) T.m_str (by decide +kernel) rfl) pa_nil))))) (pss_one (L2N.ps_raise rfl GxE.takesE (L2N.pmk_own PySem.F.excBase_ValueError T.q_NoText T.gC_NoText T.kC_NoText (raises_own T.su_NoText T.ty_NoText) (by rfl)))) pss_nil) (pss_cons (ps_asg (pe_bm PySem.F.plainAttrs_str PySem.F.slot_str_split PySem.F.type_str_split mt_split (pv 0) (pa_cons pe_str pa_nil)) (StarR.pg_star rfl (pgs_cons (pg_name (i := 1) sc_read_net.nd rfl (by first | exact .inl rfl | exact .inr rfl)) (StarR.pgs_star (pg_name (i := 2) sc_read_net.nd rfl (by first | exact .inl rfl | exact .inr rfl)) pgs_nil)))) (pss_cons (ps_set (i := 3) sc_read_net.nd rfl (by first | exact .inl rfl | exact .inr rfl) (pe_tup (pa_cons (pe_call (ok_read_head T B) (hr.mono (by decide)) (by rfl) T.g_read_head T.F_read_head.kp T.b_read_head .nil pass0 (pa_cons (pv 1) pa_nil)) (pa_cons (pe_callTy call_tuple_of (by rfl) T.m_tuple (by decide +kernel) (pa_cons (pe_lc (own := [("line", 4)]) (by rfl) sc_read_net.nd (pi_list (pv 2)) (blkOk_by (own := [("line", 4)]) (N := ["text", "head", "lines", "net", "line"]) (sc := defScope s_read_net) (by decide +kernel)) (fun _ _ _ _ _ => (pg_name (i := 4) sc_read_net.nd rfl (by first | exact .inl rfl | exact .inr rfl))) (fun _ _ _ _ _ => pts_nil) (fun _ _ _ _ _ => (pe_call (ok_read_gate T B) (hr.mono (by decide)) (by rfl) T.g_read_gate T.F_read_gate.kp T.b_read_gate .nil pass0 (pa_cons (pv 4) pa_nil)))) pa_nil)) pa_nil)))) (pss_cons (ps_if (pt_not (pt_val (pe_call (ok_is_net T B) (hr.mono (by decide)) (by rfl) T.g_is_net T.F_is_net.kp T.b_is_net .nil pass0 (pa_cons (pv 3) pa_nil)))) (pss_one (L2N.ps_raise rfl GxE.takesE (L2N.pmk_own PySem.F.excBase_ValueError T.q_NoText T.gC_NoText T.kC_NoText (raises_own T.su_NoText T.ty_NoText) (by rfl)))) pss_nil) (pss_one (ps_ret (pv 3))))))), ?_⟩
    refine ⟨v, rfl, _, _, _, _, _, rfl, .ty _, sh.ty, kit_ty (kitStr d), _, rfl, ite2 (fun e1 => ?_) (fun e1 => ?_)⟩
    · refine no (fun z e => ?_) _ Gr.refl
      subst e
      cases e1
    obtain ⟨z, rfl⟩ := strD_of (notF e1)
    have hz := hz z rfl
    obtain ⟨L, rfl⟩ : ∃ L : List Nat, z = SX.S L := ⟨z.cps.toList, (SX.S_tl z).symm⟩
    have etl : TL.tl (SX.S L) = L := by simp [TL.tl]
    rw [SX.S_len] at hz
    replace no : isNetD (netPD L) = false → ∀ H', Gr H H' → E (.ref T.C_NoText) none H' := fun e => no (fun z h => by rw [← PyData.str.inj h, etl]; exact e)
    replace yes : isNetD (netPD L) = true → ∀ H' r, Gr H H' → Sh H' (.ref r) (netPD L) → Q (.ref r) H' := fun e H' r g s => yes _ rfl (by rw [etl]; exact e) H' r g (by rw [etl]; exact s)
    cases sh
    refine ⟨.str (SX.S L), rfl, rfl, _, _, rfl, rfl, by decide +kernel, ?_, fun p np => ?_⟩
    · rw [SX.S_len]
      exact Nat.le_trans (show _ ≤ 20000 by omega) (by decide)
    rw [nl10_S, split_lns]
    have ll := lns_len L
    have wt := net_weight L
    obtain ⟨h, ls, hw⟩ : ∃ h ls, lns L = h :: ls := List.exists_cons_of_ne_nil (spl1_ne 10 L [])
    have val : netPD L = .tuple [optD (headP h), .tuple (ls.map gateP)] := by
      unfold netPD
      rw [hw]
    have lb : ∀ l ∈ h :: ls, l.length ≤ 10000 := fun l hl => Nat.le_trans (ln_len (by rw [hw]; exact hl)) (by omega)
    rw [hw, List.length_cons] at ll
    rw [val] at no yes wt
    rw [hw]
    refine ⟨p, _, _, rfl, SqL.of upd_same, fun D nD => ⟨_, _, rfl, _, _, rfl, rfl, ?_⟩⟩
    have hD : (upd (upd H p (.lst (((h :: ls).map SX.S).map V.str))) D (.lst ((ls.map SX.S).map V.str))) D = some (.lst ((ls.map SX.S).map V.str)) := upd_same
    have g1 : Gr H (upd (upd H p (.lst (((h :: ls).map SX.S).map V.str))) D (.lst ((ls.map SX.S).map V.str))) := (Gr.none np).trans (Gr.none nD)
    revert hD g1
    generalize upd (upd H p (.lst (((h :: ls).map SX.S).map V.str))) D (.lst ((ls.map SX.S).map V.str)) = H1
    intro hD g1
    refine ⟨_, rfl, h, rfl, lb h (List.mem_cons_self ..), (tabs.gr' g1) _ (by simp [Tx.tabs]), fun H2 g2 => ?_⟩
    have g12 := g1.trans g2
    have hD2 := g2.lst hD
    refine ⟨.ref D, rfl, D, rfl, ⟨_, SqL.of hD2⟩, fun L nL => ?_⟩
    refine lc_list (K := K) (a := D) (xs := (ls.map SX.S).map V.str) (fun j H' => GrD L H2 H' ∧ ∃ acc, H' L = some (.lst acc) ∧ ShAll H' acc ((ls.take j).map gateP)) ⟨GrD.new nL, [], upd_same, .nil⟩ (fun j H' _ hP => SqL.of (hP.1.gr.lst hD2)) ?_ ?_
    · rintro j x H3 hx ⟨g3, acc, hL, ta⟩
      rw [List.getElem?_map, List.getElem?_map] at hx
      cases hj : ls[j]? with
      | none => rw [hj] at hx; cases hx
      | some k =>
        rw [hj] at hx
        cases Option.some.inj hx
        have hjl := (List.getElem?_eq_some_iff.mp hj).1
        refine ⟨rfl, .str (SX.S k), rfl, k, rfl, lb k (List.mem_cons_of_mem _ (List.mem_of_getElem? hj)), (tabs.gr' (g12.trans g3.gr)) _ (by simp [Tx.tabs]), fun r H4 g4 tr => ?_⟩
        have hL4 := g4.lst hL
        refine ⟨acc, hL4, ?_, (g3.then hL g4).set, acc ++ [.ref r], upd_same, ?_⟩
        · have := ta.length
          rw [List.length_map, List.length_take] at this
          exact Nat.lt_of_lt_of_le (show _ < 20000 by omega) (by decide)
        · rw [List.take_add_one, hj, List.map_append]
          exact ((ta.gr g4).ts (Ts.set hL4) (noLD_gates _)).append (.cons (tr.ts (Ts.set hL4) (noLD_gate _)) .nil)
    · rintro H3 ⟨g3, acc, hL, ta⟩
      rw [List.length_map, List.length_map, List.take_length] at ta
      refine ⟨L, _, rfl, .inl ⟨SqL.of hL, fun ti nti => ?_⟩⟩
      have s4 := same_upd (o := (HO.tup acc)) nti
      have h4 : upd H3 ti (HO.tup acc) ti = some (HO.tup acc) := upd_same
      generalize upd H3 ti (HO.tup acc) = H4 at s4 h4 ⊢
      refine ⟨sl2, fun tt ntt => ?_⟩
      have s5 := same_upd (o := (HO.tup [optV (headP h), V.ref ti])) ntt
      have h5 : upd H4 tt (HO.tup [optV (headP h), V.ref ti]) tt = some (HO.tup [optV (headP h), V.ref ti]) := upd_same
      generalize upd H4 tt (HO.tup [optV (headP h), V.ref ti]) = H5 at s5 h5 ⊢
      have g5 : Gr H H5 := (g12.trans g3.gr).trans (Gr.of (s4.trans s5))
      have sh5 : Sh H5 (.ref tt) (.tuple [optD (headP h), .tuple (ls.map gateP)]) := .tup h5 (.cons (sh_opt _) (.cons (.tup (s5 _ _ h4) (ta.same (s4.trans s5))) .nil))
      have t5 := tabs.gr' g5
      refine ⟨.ref tt, rfl, .ref tt, _, rfl, sh5, Nat.le_trans wt (by omega), t5 _ (by simp [Tx.tabs]), t5 _ (by simp [Tx.tabs]), t5 _ (by simp [Tx.tabs]), fun H6 g6 => ⟨_, rfl, ite2 (fun e => ?_) (fun e => ?_)⟩⟩
      · refine no ?_ _ (g5.trans g6)
        cases y : isNetD (.tuple [optD (headP h), .tuple (ls.map gateP)])
        · rfl
        · rw [y] at e; cases e
      · refine ⟨.ref tt, rfl, yes ?_ _ tt (g5.trans g6) (sh5.gr g6)⟩
        cases y : isNetD (.tuple [optD (headP h), .tuple (ls.map gateP)])
        · rw [y] at e; exact absurd rfl e
        · rfl

end
end Gk

set_option Elab.async false
set_option linter.all false
set_option maxRecDepth 100000
set_option maxHeartbeats 1000000
set_option pp.maxSteps 1500
set_option pp.deepTerms false
namespace Gk
open PySem PySem.Spec PyProof.Rows L2
/-! ### l != [] of any list -/
namespace NeL
section
open PySem.W PySem.Calls HT
variable {X : Cx}
def rNeN (K : PySem.W.Frag) : R2 := fun x y H Q => ∃ a b xs, x = .ref a ∧ y = .ref b ∧ SqL K H a xs ∧ SqL K H b [] ∧ Q (.bl (!xs.isEmpty)) H
theorem op_neN (hu : X.A.units + 64 < cLine) : OpR X (compareOp .NotEq) (rNeN X.K) := by
  intro pins s σ H x y v u Q I rx ry h
  obtain ⟨a, b, xs, rfl, rfl, ha, hb, q⟩ := h
  cases rx
  cases ry
  obtain ⟨us, r1, t1, _⟩ := I.list ha
  obtain ⟨ws, r2, t2, _⟩ := I.list hb
  cases r2
  cases r1 with
  | nil => exact SeqAt.RcNeAt.lists (e := fun _ => true) t1.isList t2.isList rfl (by omega) (fun j h1 _ => absurd h1 (Nat.not_lt_zero _)) _ _ _ _ ⟨.bl false, H, I, rfl, q⟩
  | cons _ _ => exact SeqAt.RcNeAt.lists_lengths t1.isList t2.isList (by simp) (by omega) _ _ _ _ ⟨.bl true, H, I, rfl, q⟩
end
end NeL

section
variable {P : Program} {w : World} {K : PySem.W.Frag} {mg : Str → Option Value} {base : Heap}
/-! ### the law's own numbers -/
theorem all_next {α : Type} {f : α → Bool} {l : List α} {j : Nat} {x : α} (h : l[j]? = some x) : (l.take (j + 1)).all f = ((l.take j).all f && f x) := by
  rw [List.take_add_one, h, List.all_append]
  show (_ && (f x && true)) = _
  rw [Bool.and_true]
def sp_number (K : PySem.W.Frag) : Sp := fun vs H Q _ => ∃ w : List Nat, vs = [.str (SX.S w)] ∧ w.length ≤ 100000 ∧ ∀ H', Same H H' → Q (optV (numK 12 w)) H'
theorem ok_number (T : Tx K mg) : FnOk P w K mg base CX0 1 T.f_number T.fd_number ["_law_word"] (sp_number K) := by
  refine T.F_number.ok sc_number (fun vs H Q E h => ?_) (fun cdv A outer s H vs Q E hr h => ?_)
  · obtain ⟨w', rfl, _⟩ := h
    rfl
  · obtain ⟨w', rfl, hw, q⟩ := h
    refine ⟨_, (pss_cons (ps_set (i := 1) sc_number.nd rfl (by first | exact .inl rfl | exact .inr rfl) pe_str) (pss_cons (ps_if (pw_or (pt_cmpR op_eq (pv 0) pe_str (nomark _)) (pw_or (pt_cmpR op_gt (pe_callB call_len_str (by rfl) T.m_len PySem.boot_len (pa_cons (pv 0) pa_nil)) pe_int (nomark _)) (pw_or1 (pt_cmpR (NeL.op_neN hr.units) (pe_lc (own := [("_law_sign", 2)]) (by rfl) sc_number.nd (pi_str (pv 0)) (blkOk_by (own := [("_law_sign", 2)]) (N := ["_law_word", "_law_figures", "_law_sign"]) (sc := defScope s_number) (by decide +kernel)) (fun _ _ _ _ _ => (pg_name (i := 2) sc_number.nd rfl (by first | exact .inl rfl | exact .inr rfl))) (fun _ _ _ _ _ => (pts_one (pt_cmpR op_notIn_sign (pv 2) (pv 1) rfl))) (fun _ _ _ _ _ => (pv 2))) (pe_lst pa_nil) (nomark _))))).pt (pss_one (ps_ret pe_non)) pss_nil) (pss_cons (ps_if (pw_and (pt_cmpR op_gt (pe_callB call_len_str (by rfl) T.m_len PySem.boot_len (pa_cons (pv 0) pa_nil)) pe_int (nomark _)) (pw_and1 (pt_cmpR op_eq (pe_item_str (pv 0) pe_int (fun _ _ => rfl)) pe_str (nomark _)))).pt (pss_one (ps_ret pe_non)) pss_nil) (pss_one (ps_ret (pe_callTy call_int_str (by rfl) T.m_int (by decide +kernel) (pa_cons (pv 0) pa_nil))))))), ?_⟩
    have wl : (SX.S w').length ≤ sizeLine := by
      rw [SX.S_len]
      exact fit_line hw
    have none_of : (¬ ((1 ≤ w'.length ∧ w'.length ≤ 12 ∧ w'.all figB = true) ∧ ¬ (w'.head? = some 48 ∧ w' ≠ [48]))) → ∀ H', Same H H' → Q .non H' := fun n H' g => by
      have q' := q H' g
      have e : numK 12 w' = none := by
        unfold numK
        rw [if_neg n]
      rw [e] at q'
      exact q'
    have eE : Str.ofString "" = SX.S [] := by decide +kernel
    refine ⟨.str (SX.S w'), rfl, rfl, _, rfl, ite2 (fun z => ?_) (fun z => ?_)⟩
    · refine ite2 (fun _ => ?_) (fun z => absurd rfl z)
      refine none_of (fun k => ?_) H same_refl
      have : w' = [] := SX.S_inj (by rw [V.str.inj (of_decide_eq_true z)]; exact eE)
      rw [this] at k
      exact absurd k.1.1 (by decide)
    have ne : w' ≠ [] := fun y => z (decide_eq_true (by rw [y, eE]))
    have l1 : 1 ≤ w'.length := List.length_pos_iff.mpr ne
    refine ⟨.str (SX.S w'), rfl, _, rfl, wl, _, _, rfl, rfl, _, rfl, ?_⟩
    rw [SX.S_len]
    refine ite2 (fun z => ?_) (fun z => ?_)
    · refine ite2 (fun _ => ?_) (fun z => absurd rfl z)
      have z := of_decide_eq_true z
      exact none_of (fun k => by have := k.1.2.1; omega) H same_refl
    have l12 : w'.length ≤ 12 := by
      have : ¬ (12 : Int) < (w'.length : Int) := fun y => z (decide_eq_true y)
      omega
    refine ⟨.str (SX.S w'), rfl, SX.S w', rfl, fun I nI => ?_⟩
    refine lc_str (z := SX.S w') (fun j H' => Same H (hd1 I H') ∧ ∃ acc : List V, H' I = some (.lst acc) ∧ acc.length ≤ j ∧ acc.isEmpty = (w'.take j).all figB) ⟨hd1_of (same_upd nI) nI, [], upd_same, Nat.le_refl _, rfl⟩ ?_ ?_
    · rintro j x H1 hx ⟨s1, acc, hI, la, ea⟩
      have hx' : w'[j]? = some x := by
        have := cps_at hx
        simpa using this
      have hj := (List.getElem?_eq_some_iff.mp hx').1
      have nx := all_next (f := figB) hx'
      refine ⟨rfl, .str ⟨#[x]⟩, rfl, .str (Str.ofString "0123456789"), rfl, x, _, rfl, rfl, _, rfl, ?_⟩
      rw [m10]
      refine ite2 (fun bad => ?_) (fun good => ?_)
      · have b : figB x = false := by
          cases y : figB x
          · rfl
          · rw [y] at bad; cases bad
        refine ⟨.str ⟨#[x]⟩, rfl, acc, hI, Nat.lt_of_le_of_lt la (Nat.lt_of_lt_of_le (show j < 200 by omega) (by decide)), s1.trans hd1_upd, _, upd_same, by rw [List.length_append]; simp only [List.length_cons, List.length_nil]; omega, ?_⟩
        rw [nx, b, Bool.and_false]
        cases acc <;> rfl
      · have b : figB x = true := by
          cases y : figB x
          · rw [y] at good; exact absurd rfl good
          · rfl
        refine ⟨s1, acc, hI, Nat.le_succ_of_le la, ?_⟩
        rw [nx, b, Bool.and_true]
        exact ea
    · rintro H1 ⟨s1, acc, hI, la, ea⟩
      rw [S_size, List.take_length] at ea
      have s01 : Same H H1 := fun b o e => hd1_le _ _ (s1 _ _ e)
      refine ⟨Nat.zero_le _, fun p np => ?_⟩
      have s2 := same_upd (o := (HO.lst [])) np
      have h2 : upd H1 p (HO.lst []) p = some (HO.lst []) := upd_same
      generalize upd H1 p (HO.lst []) = H2 at s2 h2 ⊢
      refine ⟨I, p, acc, rfl, rfl, SqL.of (s2 _ _ hI), SqL.of h2, _, rfl, ?_⟩
      rw [ea]
      have s02 := s01.trans s2
      refine ite2 (fun bad => ?_) (fun good => ?_)
      · refine none_of (fun k => ?_) H2 s02
        rw [k.1.2.2] at bad
        cases bad
      have hf : w'.all figB = true := by
        cases y : w'.all figB
        · rw [y] at good; exact absurd rfl good
        · rfl
      have yes : ¬ (w'.head? = some 48 ∧ w' ≠ [48]) → ∀ H', Same H H' → Q (V.int (valN w' : Int)) H' := fun n H' g => by
        have q' := q H' g
        rw [numK_of l1 l12 hf n] at q'
        exact q'
      have fin := int_w (w := w') l1 (by omega) hf
      obtain ⟨c, r, e⟩ : ∃ c r, w' = c :: r := List.exists_cons_of_ne_nil ne
      refine ⟨.str (SX.S w'), rfl, _, rfl, wl, _, _, rfl, rfl, _, rfl, ?_⟩
      rw [SX.S_len]
      refine ite2 (fun g1 => ?_) (fun g1 => ?_)
      · have g1 := of_decide_eq_true g1
        refine ⟨.str (SX.S w'), rfl, _, 0, c, rfl, rfl, by decide, by decide, ?_, ?_, rfl, _, rfl, ite2 (fun z => ?_) (fun z => ?_)⟩
        · rw [SX.S_len]
          omega
        · show w'.toArray[0]? = some c
          rw [e]
          rfl
        · have hc : (⟨#[c]⟩ : Str) = SX.S [48] := by
            have := V.str.inj (of_decide_eq_true z)
            rw [this]
            exact z0_S
          have hc2 : c = 48 := (List.cons.inj (SX.S_inj (a := [c]) hc)).1
          refine none_of (fun k => k.2 ⟨by rw [e, hc2]; rfl, fun y => ?_⟩) H2 s02
          rw [y] at g1
          exact absurd g1 (by decide)
        · refine ⟨.str (SX.S w'), rfl, _, _, rfl, fin.1, fin.2, yes ?_ H2 s02⟩
          rintro ⟨hd, _⟩
          rw [e] at hd
          have : c = 48 := Option.some.inj hd
          refine z (decide_eq_true ?_)
          rw [this, z0_S]
      · have l1' : w'.length = 1 := by
          have : ¬ (1 : Int) < (w'.length : Int) := fun y => g1 (decide_eq_true y)
          omega
        refine ⟨.str (SX.S w'), rfl, _, _, rfl, fin.1, fin.2, yes ?_ H2 s02⟩
        rintro ⟨hd, n⟩
        rw [e] at hd l1'
        have : c = 48 := Option.some.inj hd
        have r0 : r = [] := by
          rw [List.length_cons] at l1'
          exact List.length_eq_zero_iff.mp (by omega)
        exact n (by rw [e, this, r0])

end
end Gk

set_option Elab.async false
set_option linter.all false
set_option maxRecDepth 100000
set_option maxHeartbeats 1000000
set_option pp.maxSteps 1500
set_option pp.deepTerms false
namespace Gk
open PySem PySem.Spec PyProof.Rows L2
/-! ### heads and gates by the law and by the program -/
def inS7 : List Nat := [105, 110, 112, 117, 116, 115, 32]
theorem inS7_S : Str.ofString "inputs " = SX.S inS7 := by decide +kernel
theorem num_sp {k : Nat} {r : List Nat} (h : 32 ∈ r) : numK k r = none := by
  unfold numK
  rw [if_neg]
  rintro ⟨⟨_, _, hf⟩, _⟩
  have := List.all_eq_true.mp hf 32 h
  cases this
theorem headP_eq (h : List Nat) : headP h = if h.take 7 = inS7 then numK 40 (h.drop 7) else none := by
  by_cases c : h.take 7 = inS7
  · rw [if_pos c]
    have e : h = inW ++ ([32] ++ h.drop 7) := by
      have := List.take_append_drop 7 h
      rw [c] at this
      exact this.symm
    have w : wds h = inW :: wds (h.drop 7) := by
      have s : TL.spl (32 :: []) 0 [] (inW ++ ((32 :: []) ++ h.drop 7)) = ([] ++ inW) :: TL.spl (32 :: []) 0 [] (h.drop 7) := TL.spl_part1 (by decide)
      unfold wds
      conv => lhs; rw [e]
      exact s
    by_cases sp : 32 ∈ h.drop 7
    · rw [num_sp sp]
      unfold headP
      rw [w]
      split
      · rename_i a b hab
        obtain ⟨rfl, hb⟩ := List.cons.inj hab
        have j := spl1_join 32 (h.drop 7) []
        have f := spl1_free 32 (h.drop 7) [] (by simp) b
        unfold wds at hb
        rw [hb] at j f
        have j : b = h.drop 7 := j
        rw [← j] at sp
        exact absurd sp (f (List.mem_singleton.mpr rfl))
      · rfl
    · have ws : wds (h.drop 7) = [h.drop 7] := spl1_single sp
      unfold headP
      rw [w, ws]
      show (if inW = inW then numK 40 (h.drop 7) else none) = _
      rw [if_pos rfl]
  · rw [if_neg c]
    unfold headP
    split
    · rename_i a b hab
      split
      · rename_i ha
        have j := spl1_join 32 h []
        unfold wds at hab
        rw [hab, ha] at j
        have j : inW ++ ([32] ++ b) = h := j
        refine absurd ?_ c
        rw [← j]
        rfl
      · rfl
    · rfl
def headL (h : List Nat) : Option Int := if h.take 7 = inS7 then numK 12 (h.drop 7) else none
theorem headL_up {h : List Nat} {m : Int} (e : headL h = some m) : headP h = some m := by
  rw [headP_eq]
  unfold headL at e
  split at e
  · rename_i c
    rw [if_pos c]
    exact num_both e
  · cases e
theorem headL_down {h : List Nat} {m : Int} (e : headP h = some m) (lt : m < 1000000000000) : headL h = some m := by
  rw [headP_eq] at e
  unfold headL
  split at e
  · rename_i c
    rw [if_pos c]
    exact num_small e lt
  · cases e
theorem wire_iff {W : Int} (hW : W ≤ 1000000000000) (w : List Nat) : wireD W (optD (numK 40 w)) = true ↔ ∃ i, numK 12 w = some i ∧ i < W := by
  constructor
  · intro h
    cases e : numK 40 w with
    | none => rw [e] at h; cases h
    | some i =>
      rw [e] at h
      have h : (decide (0 ≤ i) && decide (i < W)) = true := h
      rw [Bool.and_eq_true] at h
      have lt := of_decide_eq_true h.2
      exact ⟨i, num_small e (by omega), lt⟩
  · rintro ⟨i, e, lt⟩
    have nn := numK_nn e
    rw [num_both e]
    show (decide (0 ≤ i) && decide (i < W)) = true
    rw [decide_eq_true nn, decide_eq_true lt]
    rfl
theorem gate_val {l t : List Nat} {ws : List (List Nat)} (hw : wds l = t :: ws) (W : Int) : isGateD W (gateP l) = ((decide (1 ≤ ws.length) && decide (ws.length ≤ 3)) && ((decide ((t.length : Int) = 2 ^ ws.length) && t.all sgB) && ws.all fun w => wireD W (optD (numK 40 w)))) := by
  have val : gateP l = .tuple [.str (SX.S t), .tuple (ws.map fun w => optD (numK 40 w))] := by
    unfold gateP
    rw [hw]
  rw [val]
  show ((decide (1 ≤ (ws.map fun w => optD (numK 40 w)).length) && decide ((ws.map fun w => optD (numK 40 w)).length ≤ 3)) && ((decide (((SX.S t).length : Int) = 2 ^ (ws.map fun w => optD (numK 40 w)).length) && (SX.S t).cps.toList.all sgB) && (ws.map fun w => optD (numK 40 w)).all (wireD W))) = _
  have e : (SX.S t).cps.toList = t := by simp
  rw [List.length_map, SX.S_len, e, List.all_map]
  rfl
theorem net_val {L h : List Nat} {ls : List (List Nat)} (hw : lns L = h :: ls) : netPD L = .tuple [optD (headP h), .tuple (ls.map gateP)] := by
  unfold netPD
  rw [hw]
theorem net_head {h : List Nat} {gs : List PyData} (n : ∀ m, headL h = some m → 1 ≤ m → m ≤ 6 → False) : isNetD (.tuple [optD (headP h), .tuple gs]) = false := by
  cases e : headP h with
  | none => rfl
  | some m =>
    show ((decide (1 ≤ m) && decide (m ≤ 6)) && _) = false
    by_cases a : 1 ≤ m
    · by_cases b : m ≤ 6
      · exact (n m (headL_down e (by omega)) a b).elim
      · rw [decide_eq_false b, Bool.and_false, Bool.false_and]
    · rw [decide_eq_false a, Bool.false_and, Bool.false_and]
theorem net_body {h : List Nat} {gs : List PyData} {m : Int} (e : headL h = some m) (h1 : 1 ≤ m) (h6 : m ≤ 6) : isNetD (.tuple [optD (headP h), .tuple gs]) = (decide (gs.length ≠ 0) && gatesD m gs) := by
  rw [headL_up e]
  show ((decide (1 ≤ m) && decide (m ≤ 6)) && (decide (gs.length ≠ 0) && gatesD m gs)) = _
  rw [decide_eq_true h1, decide_eq_true h6]
  rfl
theorem in_non : ∀ ws : List (List Nat), inV .non (ws.map fun w => optV (numK 12 w)) = !(ws.all fun w => (numK 12 w).isSome)
  | [] => rfl
  | w :: r => by
    show (eqV (optV (numK 12 w)) .non || inV .non (r.map fun w => optV (numK 12 w))) = !((numK 12 w).isSome && _)
    rw [in_non r]
    cases numK 12 w with
    | none => rfl
    | some i => rfl
theorem flat_opts : ∀ ws : List (List Nat), (ws.map fun w => optV (numK 12 w)).all flatV = true
  | [] => rfl
  | w :: r => by
    rw [List.map_cons, List.all_cons, flat_opts r]
    cases numK 12 w <;> rfl
theorem all_some : ∀ ws : List (List Nat), (ws.all fun w => (numK 12 w).isSome) = true → ∃ ns : List Int, (ws.map fun w => optV (numK 12 w)) = ns.map V.int ∧ ns.length = ws.length ∧ (∀ i ∈ ns, ∃ w ∈ ws, numK 12 w = some i) ∧ ∀ w ∈ ws, ∃ i ∈ ns, numK 12 w = some i
  | [], _ => ⟨[], rfl, rfl, (fun i h => by cases h), fun w h => by cases h⟩
  | w :: r, h => by
    rw [List.all_cons, Bool.and_eq_true] at h
    obtain ⟨ns, e, l, a, b⟩ := all_some r h.2
    cases en : numK 12 w with
    | none => rw [en] at h; cases h.1
    | some i =>
      refine ⟨i :: ns, by rw [List.map_cons, List.map_cons, e, en]; rfl, by rw [List.length_cons, List.length_cons, l], fun k hk => ?_, fun x hx => ?_⟩
      · rcases List.mem_cons.mp hk with z | z
        · exact ⟨w, List.mem_cons_self .., by rw [z]; exact en⟩
        · obtain ⟨x, hx, ex⟩ := a k z
          exact ⟨x, List.mem_cons_of_mem _ hx, ex⟩
      · rcases List.mem_cons.mp hx with z | z
        · exact ⟨i, List.mem_cons_self .., by rw [z]; exact en⟩
        · obtain ⟨k, hk, ek⟩ := b x z
          exact ⟨k, List.mem_cons_of_mem _ hk, ek⟩
theorem opts_up {ws : List (List Nat)} (h : (ws.all fun w => (numK 12 w).isSome) = true) : (ws.map fun w => optV (numK 12 w)) = ws.map fun w => optV (numK 40 w) := by
  refine List.map_congr_left fun w hw => ?_
  have := List.all_eq_true.mp h w hw
  cases e : numK 12 w with
  | none => rw [e] at this; cases this
  | some i => rw [num_both e]

end Gk

set_option Elab.async false
set_option linter.all false
set_option maxRecDepth 100000
set_option maxHeartbeats 1000000
set_option pp.maxSteps 1500
set_option pp.deepTerms false
namespace Gk
open PySem PySem.Spec PyProof.Rows L2
theorem cnt01 : ∀ L : List Nat, L.count 48 + L.count 49 ≤ L.length ∧ ((L.count 48 + L.count 49 = L.length) ↔ L.all sgB = true)
  | [] => ⟨Nat.le_refl _, ⟨fun _ => rfl, fun _ => rfl⟩⟩
  | d :: r => by
    obtain ⟨h1, h2⟩ := cnt01 r
    have z0 : sgB 48 = true := by decide +kernel
    have z1 : sgB 49 = true := by decide +kernel
    by_cases a : d = 48
    · subst a
      rw [List.count_cons_self, List.count_cons_of_ne (by decide : (48 : Nat) ≠ 49), List.length_cons, List.all_cons, z0, Bool.true_and, ← h2]
      exact ⟨by omega, by omega⟩
    by_cases b : d = 49
    · subst b
      rw [List.count_cons_self, List.count_cons_of_ne (by decide : (49 : Nat) ≠ 48), List.length_cons, List.all_cons, z1, Bool.true_and, ← h2]
      exact ⟨by omega, by omega⟩
    rw [List.count_cons_of_ne a, List.count_cons_of_ne b, List.length_cons, List.all_cons]
    have nd : sgB d = false := by
      refine decide_eq_false fun h => ?_
      have e : (Str.ofString "01").cps.toList = [48, 49] := by decide +kernel
      rw [e] at h
      simp at h
      omega
    rw [nd, Bool.false_and]
    exact ⟨by omega, fun k => by omega, fun k => by cases k⟩
theorem in123 (n : Nat) : inV (.int (n : Int)) [V.int 1, V.int 2, V.int 3] = (decide (1 ≤ n) && decide (n ≤ 3)) := by
  have h : ∀ j : Int, eqV (.int j) (.int (n : Int)) = decide (j = n) := fun j => by
    first
      | rfl
      | simp [eqV]
  show (eqV (.int 1) (.int n) || (eqV (.int 2) (.int n) || (eqV (.int 3) (.int n) || false))) = _
  rw [h, h, h, Bool.or_false, Bool.eq_iff_iff]
  simp only [Bool.or_eq_true, Bool.and_eq_true, decide_eq_true_eq]
  omega

section
variable {P : Program} {w : World} {K : PySem.W.Frag} {mg : Str → Option Value} {base : Heap}
/-! ### the law's own reading -/
theorem cutS_to (l : List Nat) (k : Nat) : cutS (SX.S l) none (some (k : Int)) = SX.S (l.take k) := by
  unfold cutS
  rw [SX.S_len, HT.sIx_none, HT.sIx_nat, List.drop_zero, Nat.sub_zero]
  have e : (SX.S l).cps.toList = l := by simp
  rw [e]
  congr 1
  by_cases h : k ≤ l.length
  · rw [Nat.min_eq_left h]
  · rw [Nat.min_eq_right (by omega), List.take_length, List.take_of_length_le (by omega)]
theorem cutS_from (l : List Nat) (k : Nat) : cutS (SX.S l) (some (k : Int)) none = SX.S (l.drop k) := by
  unfold cutS
  rw [SX.S_len, HT.sIx_none, HT.sIx_nat]
  have e : (SX.S l).cps.toList = l := by simp
  rw [e]
  congr 1
  by_cases h : k ≤ l.length
  · rw [Nat.min_eq_left h, List.take_of_length_le (show (l.drop k).length ≤ l.length - k by rw [List.length_drop]; exact Nat.le_refl _)]
  · rw [Nat.min_eq_right (by omega), Nat.sub_self, List.take_zero, List.drop_eq_nil_of_le (by omega)]
theorem at0 (x : V) (r : List V) : atI (x :: r) 0 = some x := atI_nat (xs := x :: r) (j := 0) rfl
theorem tail1 (h : List Nat) (ls : List (List Nat)) : cutV (((h :: ls).map SX.S).map V.str) (some 1) none = (ls.map SX.S).map V.str := by
  rw [show (1 : Int) = ((1 : Nat) : Int) from rfl, cut_from]
  rfl
def sp_read (K : PySem.W.Frag) : Sp := fun vs H Q _ => ∃ L : List Nat, vs = [.str (SX.S L)] ∧ L.length ≤ 9000 ∧ (isNetD (netPD L) = false → ∀ H', Gr H H' → Q .non H') ∧ (isNetD (netPD L) = true → ∀ H' r, Gr H H' → Sh H' (.ref r) (netPD L) → Q (.ref r) H')
theorem ok_read (T : Tx K mg) : FnOk P w K mg base CX0 2 T.f_read T.fd_read ["_law_text"] (sp_read K) := by
  refine T.F_read.ok sc_read (fun vs H Q E h => ?_) (fun cdv A outer s H vs Q E hr h => ?_)
  · obtain ⟨L, rfl, _⟩ := h
    rfl
  · obtain ⟨L, rfl, hL, no, yes⟩ := h
    refine ⟨_, (pss_cons (ps_set (i := 1) sc_read.nd rfl (by first | exact .inl rfl | exact .inr rfl) (pe_bm PySem.F.plainAttrs_str PySem.F.slot_str_split PySem.F.type_str_split mt_split (pv 0) (pa_cons pe_str pa_nil))) (pss_cons (ps_set (i := 2) sc_read.nd rfl (by first | exact .inl rfl | exact .inr rfl) pe_non) (C8.pss_cut (ps_if (pt_cmpR op_eq (pe_slice sl_str (pe_ix ix_list (pv 1) pe_int (fun _ _ => rfl)) po_none (po_some pe_int)) pe_str (nomark _)) (pss_one (ps_set (i := 2) sc_read.nd rfl (by first | exact .inl rfl | exact .inr rfl) (pe_call (ok_number T) (hr.mono (by decide)) (by rfl) T.g_number T.F_number.kp T.b_number .nil pass0 (pa_cons (pe_slice sl_str (pe_ix ix_list (pv 1) pe_int (fun _ _ => rfl)) (po_some pe_int) po_none) pa_nil)))) pss_nil) (pss_cons (ps_if (pw_or (pt_cmpR op_isN (pv 2) pe_non (nomark _)) (pw_or (pt_cmpR op_lt (pv 2) pe_int (nomark _)) (pw_or (pt_cmpR op_gt (pv 2) pe_int (nomark _)) (pw_or1 (pt_cmpR op_lt (pe_callB call_len_seq (by rfl) T.m_len PySem.boot_len (pa_cons (pv 1) pa_nil)) pe_int (nomark _)))))).pt (pss_one (ps_ret pe_non)) pss_nil) (pss_cons (ps_set (i := 3) sc_read.nd rfl (by first | exact .inl rfl | exact .inr rfl) (pe_lst pa_nil)) (pss_cons (ps_for PassesOwn.never rfl (pi_list (pe_slice sl_list (pv 1) (po_some pe_int) po_none)) (pg_name (i := 4) sc_read.nd rfl (by first | exact .inl rfl | exact .inr rfl)) (pss_cons (ps_set (i := 5) sc_read.nd rfl (by first | exact .inl rfl | exact .inr rfl) (pe_bm PySem.F.plainAttrs_str PySem.F.slot_str_split PySem.F.type_str_split mt_split (pv 4) (pa_cons pe_str pa_nil))) (pss_cons (ps_setLc (i := 6) (own := [("_law_word", 7)]) (by rfl) sc_read.nd rfl rfl (sw_true rfl rfl rfl (by decide +kernel)) (pi_list (pe_slice sl_list (pv 5) (po_some pe_int) po_none)) (blkOk_by (own := [("_law_word", 7)]) (N := ["_law_text", "_law_lines", "_law_many", "_law_gates", "_law_line", "_law_words", "_law_ins", "_law_word"]) (sc := defScope s_read) (by decide +kernel)) (fun _ _ _ _ _ => (pg_name (i := 7) sc_read.nd rfl (by first | exact .inl rfl | exact .inr rfl))) (fun _ _ _ _ _ => pts_nil) (fun _ _ _ _ _ => (pe_call (ok_number T) (hr.mono (by decide)) (by rfl) T.g_number T.F_number.kp T.b_number .nil pass0 (pa_cons (pv 7) pa_nil)))) (pss_cons (ps_if (pw_or (pt_cmpR op_notIn_seq (pe_callB call_len_seq (by rfl) T.m_len PySem.boot_len (pa_cons (pv 6) pa_nil)) (pe_tup (pa_cons pe_int (pa_cons pe_int (pa_cons pe_int pa_nil)))) rfl) (pw_or (pt_cmpR op_in_seq pe_non (pv 6) rfl) (pw_or1 (pt_cmpR op_ge (pe_callB (cr_max rfl) (by rfl) T.m_max (by decide +kernel) (pa_cons (pv 6) pa_nil)) (pe_op op_add (pv 2) (pe_callB call_len_seq (by rfl) T.m_len PySem.boot_len (pa_cons (pv 3) pa_nil))) (nomark _))))).pt (pss_one (ps_ret pe_non)) pss_nil) (pss_cons (ps_if (pw_or (pt_cmpR op_ne (pe_callB call_len_str (by rfl) T.m_len PySem.boot_len (pa_cons (pe_ix ix_list (pv 5) pe_int (fun _ _ => rfl)) pa_nil)) (pe_ix ix_list (pe_lst (pa_cons pe_int (pa_cons pe_int (pa_cons pe_int pa_nil)))) (pe_op op_sub (pe_callB call_len_seq (by rfl) T.m_len PySem.boot_len (pa_cons (pv 6) pa_nil)) pe_int) (fun _ _ => rfl)) (nomark _)) (pw_or1 (pt_cmpR op_ne (pe_op op_add (pe_bm PySem.F.plainAttrs_str PySem.F.slot_str_count PySem.F.type_str_count mt_count (pe_ix ix_list (pv 5) pe_int (fun _ _ => rfl)) (pa_cons pe_str pa_nil)) (pe_bm PySem.F.plainAttrs_str PySem.F.slot_str_count PySem.F.type_str_count mt_count (pe_ix ix_list (pv 5) pe_int (fun _ _ => rfl)) (pa_cons pe_str pa_nil))) (pe_callB call_len_str (by rfl) T.m_len PySem.boot_len (pa_cons (pe_ix ix_list (pv 5) pe_int (fun _ _ => rfl)) pa_nil)) (nomark _)))).pt (pss_one (ps_ret pe_non)) pss_nil) (pss_one (ps_expr (pe_bm PySem.F.plainAttrs_list PySem.F.slot_list_append PySem.F.type_list_append mt_append (pv 3) (pa_cons (pe_tup (pa_cons (pe_ix ix_list (pv 5) pe_int (fun _ _ => rfl)) (pa_cons (pe_callTy call_tuple_of (by rfl) T.m_tuple (by decide +kernel) (pa_cons (pv 6) pa_nil)) pa_nil))) pa_nil))))))))) (pss_one (ps_ret (pe_tup (pa_cons (pv 2) (pa_cons (pe_callTy call_tuple_of (by rfl) T.m_tuple (by decide +kernel) (pa_cons (pv 3) pa_nil)) pa_nil))))))))))), ?_⟩
    have ll := lns_len L
    obtain ⟨h, ls, hw⟩ : ∃ h ls, lns L = h :: ls := List.exists_cons_of_ne_nil (spl1_ne 10 L [])
    have lb : ∀ l ∈ h :: ls, l.length ≤ 10000 := fun l hl => Nat.le_trans (ln_len (by rw [hw]; exact hl)) (by omega)
    rw [hw, List.length_cons] at ll
    rw [net_val hw] at no yes
    refine ⟨.str (SX.S L), rfl, rfl, _, _, rfl, rfl, by decide +kernel, ?_, fun D nD => ?_⟩
    · rw [SX.S_len]
      exact Nat.le_trans (show _ ≤ 20000 by omega) (by decide)
    rw [nl10_S, split_lns, hw]
    have s1 := same_upd (o := (HO.lst (((h :: ls).map SX.S).map V.str))) nD
    have hD : upd H D (HO.lst (((h :: ls).map SX.S).map V.str)) D = some (HO.lst (((h :: ls).map SX.S).map V.str)) := upd_same
    generalize upd H D (HO.lst (((h :: ls).map SX.S).map V.str)) = H1 at s1 hD ⊢
    have g1 : Gr H H1 := Gr.of s1
    refine ⟨fun σ H' => σ = [some (.str (SX.S L)), some (.ref D), some (optV (headL h)), none, none, none, none, none] ∧ Gr H1 H', ?_, ?_⟩
    · have lh := lb h (List.mem_cons_self ..)
      have hl : (SX.S h).length ≤ sizeLine := by rw [SX.S_len]; exact fit_line (by omega)
      refine ⟨.ref D, rfl, D, _, 0, .str (SX.S h), rfl, rfl, SqL.of hD, at0 _ _, 7, rfl, SX.S h, rfl, hl, rfl, _, rfl, ?_⟩
      rw [show (7 : Int) = ((7 : Nat) : Int) from rfl, cutS_to, inS7_S]
      refine ite2 (fun e => ?_) (fun e => ?_)
      · have c : h.take 7 = inS7 := SX.S_inj (V.str.inj (of_decide_eq_true e))
        refine ⟨.ref D, rfl, D, _, 0, .str (SX.S h), rfl, rfl, SqL.of hD, at0 _ _, 7, rfl, SX.S h, rfl, hl, ?_⟩
        rw [show (7 : Int) = ((7 : Nat) : Int) from rfl, cutS_from]
        refine ⟨h.drop 7, rfl, by rw [List.length_drop]; omega, fun H2 s2 => ⟨?_, Gr.of s2⟩⟩
        unfold headL
        rw [if_pos c]
        rfl
      · refine ⟨?_, Gr.refl⟩
        unfold headL
        rw [if_neg fun c => e (decide_eq_true (by rw [c]))]
        rfl
    rintro σ H2 ⟨rfl, g2⟩
    have g02 := g1.trans g2
    have hD2 := g2.lst hD
    have bad : ∀ H', Gr H H' → isNetD (.tuple [optD (headP h), .tuple (ls.map gateP)]) = false → Q .non H' := fun H' g e => no e H' g
    cases eh : headL h with
    | none =>
      refine ⟨.non, rfl, rfl, _, rfl, iteT ?_⟩
      exact bad _ g02 (net_head fun m e => by rw [eh] at e; cases e)
    | some m =>
      refine ⟨.int m, rfl, rfl, _, rfl, iteF ?_⟩
      refine ⟨.int m, rfl, _, _, rfl, rfl, _, rfl, ite2 (fun c => ?_) (fun c => ?_)⟩
      · have c := of_decide_eq_true c
        refine ite2 (fun _ => ?_) (fun z => absurd rfl z)
        exact bad _ g02 (net_head fun m' e h1 h6 => by rw [eh] at e; obtain rfl := Option.some.inj e; omega)
      have m1 : 1 ≤ m := by
        have : ¬ m < 1 := fun k => c (decide_eq_true k)
        omega
      refine ⟨.int m, rfl, _, _, rfl, rfl, _, rfl, ite2 (fun c => ?_) (fun c => ?_)⟩
      · have c := of_decide_eq_true c
        refine ite2 (fun _ => ?_) (fun z => absurd rfl z)
        exact bad _ g02 (net_head fun m' e h1 h6 => by rw [eh] at e; obtain rfl := Option.some.inj e; omega)
      have m6 : m ≤ 6 := by
        have : ¬ 6 < m := fun k => c (decide_eq_true k)
        omega
      rw [net_body eh m1 m6, List.length_map] at no yes
      have bad : ∀ H', Gr H H' → (decide (ls.length ≠ 0) && gatesD m (ls.map gateP)) = false → Q .non H' := fun H' g e => no e H' g
      refine ⟨.ref D, rfl, D, _, rfl, .inl (SqL.of hD2), _, _, rfl, rfl, _, rfl, ?_⟩
      rw [List.length_map, List.length_map, List.length_cons]
      refine ite2 (fun c => ?_) (fun c => ?_)
      · have c := of_decide_eq_true c
        refine bad _ g02 ?_
        rw [decide_eq_false (show ¬ ls.length ≠ 0 by omega)]
        rfl
      have nz : ls.length ≠ 0 := fun k => c (decide_eq_true (by omega))
      rw [decide_eq_true nz, Bool.true_and] at no yes
      have bad : ∀ H', Gr H H' → gatesD m (ls.map gateP) = false → Q .non H' := fun H' g e => no e H' g
      refine ⟨Nat.zero_le _, fun G nG => ?_⟩
      have s3 := same_upd (o := (HO.lst [])) nG
      have hG3 : upd H2 G (HO.lst []) G = some (HO.lst []) := upd_same
      generalize upd H2 G (HO.lst []) = H3 at s3 hG3 ⊢
      have grd3 : GrD G H2 H3 := Gr.of (hd1_of s3 nG)
      have hD3 := s3 _ _ hD2
      refine ⟨.ref D, rfl, 1, rfl, D, _, rfl, SqL.of hD3, fun M nM => ?_⟩
      rw [tail1 h ls]
      have s4 := same_upd (o := (HO.lst ((ls.map SX.S).map V.str))) nM
      have hM4 : upd H3 M (HO.lst ((ls.map SX.S).map V.str)) M = some (HO.lst ((ls.map SX.S).map V.str)) := upd_same
      generalize upd H3 M (HO.lst ((ls.map SX.S).map V.str)) = H4 at s4 hM4 ⊢
      have nMG : M ≠ G := fun z => by rw [z, hG3] at nM; cases nM
      have hG4 := s4 _ _ hG3
      have grd4 : GrD G H2 H4 := grd3.then hG3 (Gr.of s4)
      refine ⟨M, rfl, ⟨_, SqL.of hM4⟩, for_list (K := K) (a := M) (xs := (ls.map SX.S).map V.str) (fun j σ H' => ∃ y4 y5 y6 y7, σ = [some (.str (SX.S L)), some (.ref D), some (.int m), some (.ref G), y4, y5, y6, y7] ∧ GrD G H2 H' ∧ H' M = some (.lst ((ls.map SX.S).map V.str)) ∧ ∃ acc, H' G = some (.lst acc) ∧ ShAll H' acc ((ls.take j).map gateP) ∧ ∀ k g, k < j → (ls.map gateP)[k]? = some g → isGateD (m + (k : Nat)) g = true)
        ⟨_, _, _, _, rfl, grd4, hM4, [], hG4, .nil, fun k g z => by omega⟩ (fun j σ H' _ ⟨_, _, _, _, _, _, z, _⟩ => SqL.of z) ?_ ?_⟩
      · rintro j x σ H5 hx ⟨y4, y5, y6, y7, rfl, g5, hM5, acc, hG5, sha, ih⟩
        rw [List.getElem?_map, List.getElem?_map] at hx
        cases hj : ls[j]? with
        | none => rw [hj] at hx; cases hx
        | some l =>
          rw [hj] at hx
          cases Option.some.inj hx
          have hjl := (List.getElem?_eq_some_iff.mp hj).1
          have lll := lb l (List.mem_cons_of_mem _ (List.mem_of_getElem? hj))
          have hgj : (ls.map gateP)[j]? = some (gateP l) := by rw [List.getElem?_map, hj]; rfl
          have bad : ∀ H', Gr H H' → isGateD (m + (j : Nat)) (gateP l) = false → Q .non H' := fun H' g e => bad H' g (gates_no hgj (by rw [e]; exact Bool.false_ne_true))
          obtain ⟨t, ws, hwd⟩ : ∃ t ws, wds l = t :: ws := List.exists_cons_of_ne_nil (spl1_ne 32 l [])
          have lw := head_len l
          rw [hwd, List.length_cons] at lw
          rw [gate_val hwd] at bad
          have lt := wd_len (h := l) (p := t) (by rw [hwd]; exact List.mem_cons_self ..)
          have wb : ∀ w ∈ ws, w.length ≤ 10000 := fun w h => Nat.le_trans (wd_len (by rw [hwd]; exact List.mem_cons_of_mem _ h)) lll
          refine ⟨.str (SX.S l), rfl, rfl, _, _, rfl, rfl, by decide +kernel, ?_, fun p np => ?_⟩
          · rw [SX.S_len]
            exact Nat.le_trans (show _ ≤ 20000 by omega) (by decide)
          rw [sp32_S, split_wds, hwd]
          have s6 := same_upd (o := (HO.lst (((t :: ws).map SX.S).map V.str))) np
          have hp6 : upd H5 p (HO.lst (((t :: ws).map SX.S).map V.str)) p = some (HO.lst (((t :: ws).map SX.S).map V.str)) := upd_same
          generalize upd H5 p (HO.lst (((t :: ws).map SX.S).map V.str)) = H6 at s6 hp6 ⊢
          refine ⟨.ref p, rfl, 1, rfl, p, _, rfl, SqL.of hp6, fun q' nq => ?_⟩
          rw [tail1 t ws]
          have s7 := same_upd (o := (HO.lst ((ws.map SX.S).map V.str))) nq
          have hq7 : upd H6 q' (HO.lst ((ws.map SX.S).map V.str)) q' = some (HO.lst ((ws.map SX.S).map V.str)) := upd_same
          generalize upd H6 q' (HO.lst ((ws.map SX.S).map V.str)) = H7 at s7 hq7 ⊢
          refine ⟨q', rfl, ⟨_, SqL.of hq7⟩, fun I nI => ?_⟩
          refine lc_list (K := K) (a := q') (xs := (ws.map SX.S).map V.str) (fun i H' => Same H7 (hd1 I H') ∧ H' I = some (.lst ((ws.take i).map fun w => optV (numK 12 w)))) ⟨hd1_of (same_upd nI) nI, upd_same⟩ (fun i H' _ z => SqL.of (hd1_le _ _ (z.1 _ _ hq7))) ?_ ?_
          · rintro i x H8 hx ⟨s8, hI8⟩
            rw [List.getElem?_map, List.getElem?_map] at hx
            cases hi : ws[i]? with
            | none => rw [hi] at hx; cases hx
            | some w1 =>
              rw [hi] at hx
              cases Option.some.inj hx
              have hil := (List.getElem?_eq_some_iff.mp hi).1
              refine ⟨rfl, .str (SX.S w1), rfl, w1, rfl, Nat.le_trans (wb w1 (List.mem_of_getElem? hi)) (by decide), fun H9 s9 => ⟨_, s9 _ _ hI8, ?_, s8.trans ((hd1_same s9).trans hd1_upd), ?_⟩⟩
              · rw [List.length_map, List.length_take]
                exact Nat.lt_of_lt_of_le (show _ < 20000 by omega) (by decide)
              · rw [upd_same, List.take_add_one, hi, List.map_append]
                rfl
          rintro H8 ⟨s8, hI8⟩
          rw [List.length_map, List.length_map, List.take_length] at hI8
          have s78 : Same H7 H8 := fun b o e => hd1_le _ _ (s8 _ _ e)
          have s58 := (s6.trans s7).trans s78
          have g58 := Gr.of s58
          have hp8 := s78 _ _ (s7 _ _ hp6)
          have lI : (ws.map fun w => optV (numK 12 w)).length = ws.length := List.length_map ..
          have g08 := (g02.trans g5.gr).trans g58
          refine ⟨.ref I, rfl, I, _, rfl, .inl (SqL.of hI8), sl3, fun p9 n9 => ?_⟩
          rw [lI]
          have s9 := same_upd (o := (HO.tup [V.int 1, V.int 2, V.int 3])) n9
          have h9 : upd H8 p9 (HO.tup [V.int 1, V.int 2, V.int 3]) p9 = some (HO.tup [V.int 1, V.int 2, V.int 3]) := upd_same
          generalize upd H8 p9 (HO.tup [V.int 1, V.int 2, V.int 3]) = H9 at s9 h9 ⊢
          refine ⟨p9, _, rfl, .inr (SqT.of h9), rfl, rfl, _, rfl, ?_⟩
          have ein : (if true = true then !inV (.int (ws.length : Int)) [V.int 1, V.int 2, V.int 3] else inV (.int (ws.length : Int)) [V.int 1, V.int 2, V.int 3]) = !(decide (1 ≤ ws.length) && decide (ws.length ≤ 3)) := by
            rw [if_pos rfl]
            congr 1
            exact in123 _
          rw [ein]
          have g09 := g08.trans (Gr.of s9)
          refine ite2 (fun e4 => ?_) (fun e4 => ?_)
          · refine ite2 (fun _ => ?_) (fun z => absurd rfl z)
            refine bad _ g09 ?_
            have : (decide (1 ≤ ws.length) && decide (ws.length ≤ 3)) = false := by
              cases z : (decide (1 ≤ ws.length) && decide (ws.length ≤ 3))
              · rfl
              · rw [z] at e4; cases e4
            rw [this, Bool.false_and]
          have e4' : (decide (1 ≤ ws.length) && decide (ws.length ≤ 3)) = true := by
            cases z : (decide (1 ≤ ws.length) && decide (ws.length ≤ 3))
            · rw [z] at e4; exact absurd rfl e4
            · rfl
          have l13 := Bool.and_eq_true_iff.mp e4'
          have l1 : 1 ≤ ws.length := of_decide_eq_true l13.1
          have l3 : ws.length ≤ 3 := of_decide_eq_true l13.2
          have hI9 := s9 _ _ hI8
          refine ⟨.ref I, rfl, I, _, rfl, .inl (SqL.of hI9), rfl, flat_opts ws, _, rfl, ?_⟩
          have ein2 : (if false = true then !inV .non (ws.map fun w => optV (numK 12 w)) else inV .non (ws.map fun w => optV (numK 12 w))) = !(ws.all fun w => (numK 12 w).isSome) := by
            rw [if_neg Bool.false_ne_true]
            exact in_non ws
          rw [ein2]
          have W12 : m + (j : Int) ≤ 1000000000000 := by omega
          have wires : (∃ w ∈ ws, ∀ i, numK 12 w = some i → ¬ i < m + (j : Int)) → (ws.all fun w => wireD (m + (j : Int)) (optD (numK 40 w))) = false := fun ⟨w, hw', hn⟩ => by
            cases z : (ws.all fun w => wireD (m + (j : Int)) (optD (numK 40 w))) with
            | false => rfl
            | true =>
              obtain ⟨i, ei, lt⟩ := (wire_iff W12 w).mp (List.all_eq_true.mp z w hw')
              exact absurd lt (hn i ei)
          refine ite2 (fun e5 => ?_) (fun e5 => ?_)
          · refine ite2 (fun _ => ?_) (fun z => absurd rfl z)
            refine bad _ g09 ?_
            have : ∃ w ∈ ws, numK 12 w = none := by
              have z : ¬ (ws.all fun w => (numK 12 w).isSome) = true := fun k => by rw [k] at e5; cases e5
              rw [List.all_eq_true] at z
              refine Classical.byContradiction fun n => z fun w hw' => ?_
              cases y : numK 12 w with
              | none => exact absurd ⟨w, hw', y⟩ n
              | some i => rfl
            obtain ⟨w, hw', en⟩ := this
            rw [wires ⟨w, hw', fun i ei => by rw [en] at ei; cases ei⟩, Bool.and_false, Bool.and_false]
          have e5' : (ws.all fun w => (numK 12 w).isSome) = true := by
            cases z : (ws.all fun w => (numK 12 w).isSome)
            · rw [z] at e5; exact absurd rfl e5
            · rfl
          obtain ⟨ns, ens, lns', nsa, nsb⟩ := all_some ws e5'
          have hIn : H9 I = some (.lst (ns.map V.int)) := by rw [← ens]; exact hI9
          refine ⟨.ref I, rfl, I, ns, rfl, SqL.of hIn, by omega, fun mx hm hmax => ?_⟩
          have lacc : acc.length = j := by
            have := sha.length
            rw [List.length_map, List.length_take] at this
            omega
          have hG9 := s9 _ _ (s58 _ _ hG5)
          refine ⟨.int m, rfl, .ref G, rfl, G, acc, rfl, .inl (SqL.of hG9), ?_⟩
          rw [lacc]
          refine ⟨_, _, rfl, rfl, _, _, rfl, rfl, _, rfl, ite2 (fun e6 => ?_) (fun e6 => ?_)⟩
          · have e6 := of_decide_eq_true e6
            refine bad _ g09 ?_
            obtain ⟨w, hw', en⟩ := nsa mx hm
            rw [wires ⟨w, hw', fun i ei => by rw [en] at ei; obtain rfl := Option.some.inj ei; omega⟩, Bool.and_false, Bool.and_false]
          have mlt : mx < m + (j : Int) := by
            have : ¬ m + (j : Int) ≤ mx := fun k => e6 (decide_eq_true k)
            omega
          have wall : (ws.all fun w => wireD (m + (j : Int)) (optD (numK 40 w))) = true := List.all_eq_true.mpr fun w hw' => by
            obtain ⟨i, hi, ei⟩ := nsb w hw'
            exact (wire_iff W12 w).mpr ⟨i, ei, Int.lt_of_le_of_lt (hmax i hi) mlt⟩
          rw [e4', wall, Bool.true_and, Bool.and_true] at bad
          have hp9 := s9 _ _ hp8
          have wlt : (SX.S t).length ≤ sizeLine := by rw [SX.S_len]; exact fit_line (by omega)
          refine ⟨.ref p, rfl, p, _, 0, .str (SX.S t), rfl, rfl, SqL.of hp9, at0 _ _, SX.S t, rfl, wlt, sl3, fun p2 n2 => ?_⟩
          have s10 := same_upd (o := (HO.lst [V.int 2, V.int 4, V.int 8])) n2
          have h10 : upd H9 p2 (HO.lst [V.int 2, V.int 4, V.int 8]) p2 = some (HO.lst [V.int 2, V.int 4, V.int 8]) := upd_same
          generalize upd H9 p2 (HO.lst [V.int 2, V.int 4, V.int 8]) = H10 at s10 h10 ⊢
          have hI10 := s10 _ _ hI9
          have hp10 := s10 _ _ hp9
          have g010 := g09.trans (Gr.of s10)
          have hat : atI [V.int 2, V.int 4, V.int 8] ((ws.length : Int) - 1) = some (.int (2 ^ ws.length)) := by
            have : ws.length = 1 ∨ ws.length = 2 ∨ ws.length = 3 := by omega
            rcases this with z | z | z <;> rw [z] <;> rfl
          refine ⟨.ref I, rfl, I, _, rfl, .inl (SqL.of hI10), ?_⟩
          rw [lI, SX.S_len]
          refine ⟨_, _, rfl, rfl, p2, _, _, _, rfl, rfl, SqL.of h10, hat, rfl, _, rfl, ?_⟩
          rw [len_eqI]
          refine ite2 (fun e7 => ?_) (fun e7 => ?_)
          · refine ite2 (fun _ => ?_) (fun z => absurd rfl z)
            refine bad _ g010 ?_
            have : decide ((t.length : Int) = 2 ^ ws.length) = false := by
              cases z : decide ((t.length : Int) = 2 ^ ws.length)
              · rfl
              · rw [z] at e7; cases e7
            rw [this, Bool.false_and]
          have e7' : decide ((t.length : Int) = 2 ^ ws.length) = true := by
            cases z : decide ((t.length : Int) = 2 ^ ws.length)
            · rw [z] at e7; exact absurd rfl e7
            · rfl
          rw [e7', Bool.true_and] at bad
          have z48 : Str.ofString "0" = ⟨#[48]⟩ := by decide +kernel
          have z49 : Str.ofString "1" = ⟨#[49]⟩ := by decide +kernel
          refine ⟨.ref p, rfl, p, _, 0, .str (SX.S t), rfl, rfl, SqL.of hp10, at0 _ _, rfl, SX.S t, Str.ofString "0", rfl, rfl, .ref p, rfl, p, _, 0, .str (SX.S t), rfl, rfl, SqL.of hp10, at0 _ _, rfl, SX.S t, Str.ofString "1", rfl, rfl, _, _, rfl, rfl, .ref p, rfl, p, _, 0, .str (SX.S t), rfl, rfl, SqL.of hp10, at0 _ _, SX.S t, rfl, wlt, rfl, _, rfl, ?_⟩
          rw [z48, z49, count_sign, count_sign, SX.S_len]
          have et : (SX.S t).cps.toList = t := by simp
          rw [et]
          obtain ⟨cn1, cn2⟩ := cnt01 t
          have ecn : decide (V.int ((t.count 48 : Nat) + (t.count 49 : Nat) : Int) = V.int (t.length : Int)) = t.all sgB := by
            cases z : t.all sgB
            · refine decide_eq_false fun k => ?_
              have k' := V.int.inj k
              have := cn2.mp (by omega)
              rw [this] at z
              cases z
            · refine decide_eq_true ?_
              have := cn2.mpr z
              congr 1
              omega
          rw [ecn]
          refine ite2 (fun e8 => ?_) (fun e8 => ?_)
          · refine bad _ g010 ?_
            cases z : t.all sgB
            · rfl
            · rw [z] at e8; cases e8
          have e8' : t.all sgB = true := by
            cases z : t.all sgB
            · rw [z] at e8; exact absurd rfl e8
            · rfl
          have good : isGateD (m + (j : Nat)) (gateP l) = true := by
            rw [gate_val hwd, e4', e7', e8', wall]
            rfl
          have hG10 := s10 _ _ hG9
          refine ⟨.ref G, rfl, .inl ⟨rfl, _, SqL.of hG10⟩, .ref p, rfl, p, _, 0, .str (SX.S t), rfl, rfl, SqL.of hp10, at0 _ _, .ref I, rfl, I, _, rfl, .inl ⟨SqL.of hI10, fun ti nti => ?_⟩⟩
          have s11 := same_upd (o := (HO.tup (ws.map fun w => optV (numK 12 w)))) nti
          have h11 : upd H10 ti (HO.tup (ws.map fun w => optV (numK 12 w))) ti = some (HO.tup (ws.map fun w => optV (numK 12 w))) := upd_same
          generalize upd H10 ti (HO.tup (ws.map fun w => optV (numK 12 w))) = H11 at s11 h11 ⊢
          refine ⟨sl2, fun tt ntt => ?_⟩
          have s12 := same_upd (o := (HO.tup [V.str (SX.S t), V.ref ti])) ntt
          have h12 : upd H11 tt (HO.tup [V.str (SX.S t), V.ref ti]) tt = some (HO.tup [V.str (SX.S t), V.ref ti]) := upd_same
          generalize upd H11 tt (HO.tup [V.str (SX.S t), V.ref ti]) = H12 at s12 h12 ⊢
          have s5c := ((s58.trans s9).trans s10).trans (s11.trans s12)
          have hG12 := s5c _ _ hG5
          have hM12 := s5c _ _ hM5
          have gval : gateP l = .tuple [.str (SX.S t), .tuple (ws.map fun w => optD (numK 40 w))] := by
            unfold gateP
            rw [hwd]
          have shg : Sh H12 (.ref tt) (gateP l) := by
            rw [gval]
            refine .tup h12 (.cons (.str _) (.cons (.tup (s12 _ _ h11) ?_) .nil))
            rw [opts_up e5']
            exact sh_opts ws
          refine ⟨G, acc, _, rfl, rfl, hG12, ?_, ?_⟩
          · rw [lacc]
            exact Nat.lt_of_lt_of_le (show j < 20000 by omega) (by decide)
          refine ⟨_, _, _, _, rfl, (g5.then hG5 (Gr.of s5c)).set, by rw [upd_ne nMG]; exact hM12, _, upd_same, ?_, fun k g hk hg => ?_⟩
          · rw [List.take_add_one, hj, List.map_append]
            exact ((sha.same s5c).ts (Ts.set hG12) (noLD_gates _)).append (.cons (shg.ts (Ts.set hG12) (noLD_gate _)) .nil)
          · by_cases e : k = j
            · rw [e, hgj] at hg
              obtain rfl := Option.some.inj hg
              rw [e]
              exact good
            · exact ih k g (by omega) hg
      · rintro σ H5 ⟨y4, y5, y6, y7, rfl, g5, hM5, acc, hG5, sha, ih⟩
        rw [List.length_map, List.length_map] at sha ih
        rw [List.take_length] at sha
        refine ⟨.int m, rfl, .ref G, rfl, G, _, rfl, .inl ⟨SqL.of hG5, fun ti nti => ?_⟩⟩
        have s6 := same_upd (o := (HO.tup acc)) nti
        have h6 : upd H5 ti (HO.tup acc) ti = some (HO.tup acc) := upd_same
        generalize upd H5 ti (HO.tup acc) = H6 at s6 h6 ⊢
        refine ⟨sl2, fun r nr => ?_⟩
        have s7 := same_upd (o := (HO.tup [V.int m, V.ref ti])) nr
        have h7 : upd H6 r (HO.tup [V.int m, V.ref ti]) r = some (HO.tup [V.int m, V.ref ti]) := upd_same
        generalize upd H6 r (HO.tup [V.int m, V.ref ti]) = H7 at s7 h7 ⊢
        refine yes ?_ H7 r ((g02.trans g5.gr).trans (Gr.of (s6.trans s7))) ?_
        · exact gates_all fun k g hk => ih k g (by have := (List.getElem?_eq_some_iff.mp hk).1; rwa [List.length_map] at this) hk
        · rw [headL_up eh]
          exact .tup h7 (.cons (.int _) (.cons (.tup (s7 _ _ h6) (sha.same (s6.trans s7))) .nil))

end
end Gk

set_option Elab.async false
set_option linter.all false
set_option maxRecDepth 100000
set_option maxHeartbeats 1000000
set_option pp.maxSteps 1500
set_option pp.deepTerms false
namespace Gk
open PySem PySem.Spec PyProof.Rows L2
theorem str_len (x : String) : (Str.ofString x).length = x.length := PySem.ofString_length x

/-! ### what is spoilt stays small -/
mutual
def gd (B : Nat) : PyData → Bool
  | .none => true
  | .bool _ => true
  | .int i => decide (i.natAbs ≤ B)
  | .str x => x.cps.toList.all fun c => decide (c < 128)
  | .list xs => gds B xs
  | .tuple xs => gds B xs
  | .dict kvs => kvs.isEmpty
def gds (B : Nat) : List PyData → Bool
  | [] => true
  | x :: r => gd B x && gds B r
end
theorem gds_iff {B : Nat} : ∀ {l : List PyData}, gds B l = true ↔ ∀ x ∈ l, gd B x = true
  | [] => ⟨fun _ x hx => (by cases hx), fun _ => rfl⟩
  | y :: r => by
    show (gd B y && gds B r) = true ↔ _
    rw [Bool.and_eq_true, gds_iff (l := r)]
    exact ⟨fun ⟨a, b⟩ x hx => (List.mem_cons.mp hx).elim (fun e => e ▸ a) (b x), fun h => ⟨h y (List.mem_cons_self ..), fun x hx => h x (List.mem_cons_of_mem _ hx)⟩⟩
mutual
theorem gd_mono {B C : Nat} (h : B ≤ C) : ∀ {d : PyData}, gd B d = true → gd C d = true
  | .none, _ => rfl
  | .bool _, _ => rfl
  | .int _, e => decide_eq_true (Nat.le_trans (of_decide_eq_true e) h)
  | .str _, e => e
  | .list _, e => gds_mono h e
  | .tuple _, e => gds_mono h e
  | .dict _, e => e
theorem gds_mono {B C : Nat} (h : B ≤ C) : ∀ {l : List PyData}, gds B l = true → gds C l = true
  | [], _ => rfl
  | _ :: _, e => by
    have e' := Bool.and_eq_true_iff.mp e
    exact Bool.and_eq_true_iff.mpr ⟨gd_mono h e'.1, gds_mono h e'.2⟩
end
theorem small_log {i : Int} {B : Nat} (h : i.natAbs ≤ B) (hB : B < 2 ^ 190) : i.natAbs.log2 < 190 := by
  by_cases z : i.natAbs = 0
  · rw [z]; decide
  · exact (Nat.log2_lt z).mpr (Nat.lt_of_le_of_lt h hB)
mutual
theorem gd_show {B : Nat} (hB : B < 2 ^ 190) : ∀ {d : PyData}, gd B d = true → d.showable = true ∧ d.leavesShort 200 = true
  | .none, _ => ⟨rfl, rfl⟩
  | .bool _, _ => ⟨rfl, rfl⟩
  | .int i, e => by
    have l := small_log (of_decide_eq_true e) hB
    refine ⟨decide_eq_true (Nat.lt_trans l (by decide)), decide_eq_true ?_⟩
    have := PySem.int_text_length_le (a := i) (k := 190) (by decide) l
    show (Str.ofString (toString i)).length ≤ 200
    rw [str_len]
    omega
  | .str x, e => by
    refine ⟨rfl, ?_⟩
    show (x.cps.toList.all fun c => decide (c < 16 ^ 8)) = true
    refine List.all_eq_true.mpr fun c hc => decide_eq_true (Nat.lt_trans (of_decide_eq_true (List.all_eq_true.mp e c hc)) (by decide))
  | .list _, e => gds_show hB e
  | .tuple _, e => gds_show hB e
  | .dict [], _ => ⟨rfl, rfl⟩
  | .dict (_ :: _), e => by cases e
theorem gds_show {B : Nat} (hB : B < 2 ^ 190) : ∀ {l : List PyData}, gds B l = true → PyData.showableAll l = true ∧ PyData.leavesShortAll 200 l = true
  | [], _ => ⟨rfl, rfl⟩
  | _ :: _, e => by
    have e' := Bool.and_eq_true_iff.mp e
    have a := gd_show hB e'.1
    have b := gds_show hB e'.2
    exact ⟨Bool.and_eq_true_iff.mpr ⟨a.1, b.1⟩, Bool.and_eq_true_iff.mpr ⟨a.2, b.2⟩⟩
end
def Fit (B n m : Nat) (d : PyData) : Prop := gd B d = true ∧ d.weight ≤ n ∧ d.depth ≤ m
def FitL (B n m : Nat) (ds : List PyData) : Prop := gds B ds = true ∧ PyData.weightAll ds ≤ n ∧ PyData.depthAll ds ≤ m
theorem Fit.mono {B n m B' n' m' : Nat} {d : PyData} (h : Fit B n m d) (a : B ≤ B') (b : n ≤ n') (c : m ≤ m') : Fit B' n' m' d := ⟨gd_mono a h.1, Nat.le_trans h.2.1 b, Nat.le_trans h.2.2 c⟩
theorem Fit.tup {B n m : Nat} {ds : List PyData} (h : FitL B n m ds) : Fit B n (m + 1) (.tuple ds) := ⟨h.1, h.2.1, Nat.succ_le_succ h.2.2⟩
theorem Fit.lst {B n m : Nat} {ds : List PyData} (h : FitL B n m ds) : Fit B n (m + 1) (.list ds) := ⟨h.1, h.2.1, Nat.succ_le_succ h.2.2⟩
theorem Fit.inv {B n m : Nat} {ds : List PyData} (h : Fit B n (m + 1) (.tuple ds)) : FitL B n m ds := ⟨h.1, h.2.1, Nat.le_of_succ_le_succ h.2.2⟩
theorem Fit.fine {B n m : Nat} {d : PyData} (h : Fit B n m d) (hB : B < 2 ^ 190) (hn : n ≤ 50000) (hm : m ≤ 50) : d.showable = true ∧ d.shown.length ≤ sizeLine ∧ d.depth ≤ 50 := by
  have s := gd_show hB h.1
  exact ⟨s.1, fine_fits (n := n) (m := m) (fine_iff.mpr ⟨s.1, s.2, h.2.1, h.2.2⟩) hn, Nat.le_trans h.2.2 hm⟩
theorem weight_app : ∀ a b : List PyData, PyData.weightAll (a ++ b) = PyData.weightAll a + PyData.weightAll b
  | [], b => (Nat.zero_add _).symm
  | x :: r, b => by
    show x.weight + 1 + PyData.weightAll (r ++ b) = x.weight + 1 + PyData.weightAll r + PyData.weightAll b
    rw [weight_app r b]
    omega
theorem depth_app : ∀ a b : List PyData, PyData.depthAll (a ++ b) = max (PyData.depthAll a) (PyData.depthAll b)
  | [], b => (Nat.zero_max _).symm
  | x :: r, b => by
    show max x.depth (PyData.depthAll (r ++ b)) = max (max x.depth (PyData.depthAll r)) (PyData.depthAll b)
    rw [depth_app r b, Nat.max_assoc]
theorem FitL.app {B n n' m : Nat} {a b : List PyData} (h : FitL B n m a) (g : FitL B n' m b) : FitL B (n + n') m (a ++ b) := by
  refine ⟨gds_iff.mpr fun x hx => ?_, ?_, ?_⟩
  · rcases List.mem_append.mp hx with z | z
    · exact gds_iff.mp h.1 x z
    · exact gds_iff.mp g.1 x z
  · rw [weight_app]
    exact Nat.add_le_add h.2.1 g.2.1
  · rw [depth_app]
    exact Nat.max_le.mpr ⟨h.2.2, g.2.2⟩
theorem FitL.parts {B n m : Nat} {a b : List PyData} (h : FitL B n m (a ++ b)) : FitL B n m a ∧ FitL B n m b := by
  obtain ⟨h1, h2, h3⟩ := h
  rw [weight_app] at h2
  rw [depth_app] at h3
  exact ⟨⟨gds_iff.mpr fun x hx => gds_iff.mp h1 x (List.mem_append_left _ hx), by omega, by omega⟩, ⟨gds_iff.mpr fun x hx => gds_iff.mp h1 x (List.mem_append_right _ hx), by omega, by omega⟩⟩
theorem FitL.take {B n m : Nat} {a : List PyData} (h : FitL B n m a) (k : Nat) : FitL B n m (a.take k) := by
  rw [← List.take_append_drop k a] at h
  exact h.parts.1
theorem FitL.drop {B n m : Nat} {a : List PyData} (h : FitL B n m a) (k : Nat) : FitL B n m (a.drop k) := by
  rw [← List.take_append_drop k a] at h
  exact h.parts.2
theorem FitL.one {B n m : Nat} {d : PyData} (h : Fit B n m d) : FitL B (n + 1) m [d] := by
  refine ⟨gds_iff.mpr fun x hx => by rw [List.mem_singleton.mp hx]; exact h.1, ?_, ?_⟩
  · show d.weight + 1 + 0 ≤ n + 1
    have := h.2.1
    omega
  · show max d.depth 0 ≤ m
    have := h.2.2
    omega
theorem FitL.get {B n m : Nat} {ds : List PyData} (h : FitL B n m ds) {j : Nat} {d : PyData} (e : ds[j]? = some d) : Fit B n m d := by
  have s : ds = ds.take j ++ [d] ++ ds.drop (j + 1) := by
    obtain ⟨hl, e'⟩ := List.getElem?_eq_some_iff.mp e
    rw [← e', List.append_assoc, List.singleton_append, List.getElem_cons_drop, List.take_append_drop]
  rw [s] at h
  obtain ⟨h1, h2, h3⟩ := h.parts.1.parts.2
  refine ⟨gds_iff.mp h1 d (List.mem_singleton.mpr rfl), ?_, ?_⟩
  · have : d.weight + 1 + 0 ≤ n := h2
    omega
  · have : max d.depth 0 ≤ m := h3
    omega
theorem weight_rev (a : List PyData) : PyData.weightAll a.reverse = PyData.weightAll a := by
  induction a with
  | nil => rfl
  | cons x r ih =>
    rw [List.reverse_cons, weight_app, ih]
    show PyData.weightAll r + (x.weight + 1 + 0) = x.weight + 1 + PyData.weightAll r
    omega
theorem depth_rev (a : List PyData) : PyData.depthAll a.reverse = PyData.depthAll a := by
  induction a with
  | nil => rfl
  | cons x r ih =>
    rw [List.reverse_cons, depth_app, ih]
    show max (PyData.depthAll r) (max x.depth 0) = max x.depth (PyData.depthAll r)
    omega
theorem FitL.rev {B n m : Nat} {a : List PyData} (h : FitL B n m a) : FitL B n m a.reverse :=
  ⟨gds_iff.mpr fun x hx => gds_iff.mp h.1 x (List.mem_reverse.mp hx), by rw [weight_rev]; exact h.2.1, by rw [depth_rev]; exact h.2.2⟩
theorem ShAll.rev {H : Hp} : ∀ {xs : List V} {ds : List PyData}, ShAll H xs ds → ShAll H xs.reverse ds.reverse
  | _, _, .nil => .nil
  | _, _, .cons a r => by
    rw [List.reverse_cons, List.reverse_cons]
    exact (ShAll.rev r).append (.cons a .nil)

section
variable {P : Program} {w : World} {K : PySem.W.Frag} {mg : Str → Option Value} {base : Heap}
/-! ### what is told of a thing -/
theorem gate_str' {w : Int} {a : PyData} (h : ¬ isStrD a = true) : ∀ b : PyData, gateParts w a b = false
  | .tuple ins => by
    show ((decide (1 ≤ ins.length) && decide (ins.length ≤ 3)) && (isSignsD (2 ^ ins.length) a && ins.all (wireD w))) = false
    rw [signs_not h, Bool.false_and, Bool.and_false]
  | .bool _ => rfl
  | .none => rfl
  | .str _ => rfl
  | .list _ => rfl
  | .int _ => rfl
  | .dict _ => rfl
theorem gate_form {W : Int} {d : PyData} (h : isGateD W d = true) : ∃ x ins, d = .tuple [.str x, .tuple ins] ∧ x.cps.toList.all sgB = true ∧ ins.all (wireD W) = true := by
  by_cases t : isTupD d = true
  · obtain ⟨ds, rfl⟩ := tup_of t
    by_cases l : ds.length = 2
    · obtain ⟨a, b, rfl⟩ := two_of l
      by_cases tb : isTupD b = true
      · obtain ⟨ins, rfl⟩ := tup_of tb
        by_cases sa : isStrD a = true
        · obtain ⟨x, rfl⟩ := strD_of sa
          have h : ((decide (1 ≤ ins.length) && decide (ins.length ≤ 3)) && ((decide ((x.length : Int) = 2 ^ ins.length) && x.cps.toList.all sgB) && ins.all (wireD W))) = true := h
          rw [Bool.and_eq_true, Bool.and_eq_true (_ && _) (ins.all _), Bool.and_eq_true (decide _) (x.cps.toList.all _)] at h
          exact ⟨x, ins, rfl, h.2.1.2, h.2.2⟩
        · have : isGateD W (.tuple [a, .tuple ins]) = false := gate_str' (w := W) sa (.tuple ins)
          rw [this] at h; cases h
      · have : isGateD W (.tuple [a, b]) = false := gate_tup a tb
        rw [this] at h; cases h
    · rw [gate_len l] at h; cases h
  · rw [gate_not t] at h; cases h
theorem sg_small {c : Nat} (h : sgB c = true) : c < 128 := by
  have h := of_decide_eq_true h
  have e : (Str.ofString "01").cps.toList = [48, 49] := by decide +kernel
  rw [e] at h
  simp at h
  omega
theorem gd_wires {W : Int} (hW : W ≤ 1000000000000) : ∀ {ins : List PyData}, ins.all (wireD W) = true → gds (10 ^ 40) ins = true ∧ PyData.depthAll ins ≤ 0
  | [], _ => ⟨rfl, Nat.le_refl _⟩
  | d :: r, h => by
    rw [List.all_cons, Bool.and_eq_true] at h
    obtain ⟨a, b⟩ := gd_wires hW h.2
    cases d with
    | int i =>
      have h1 : (decide (0 ≤ i) && decide (i < W)) = true := h.1
      rw [Bool.and_eq_true] at h1
      have x0 := of_decide_eq_true h1.1
      have x1 := of_decide_eq_true h1.2
      refine ⟨Bool.and_eq_true_iff.mpr ⟨decide_eq_true ?_, a⟩, ?_⟩
      · have : i.natAbs ≤ 1000000000000 := by omega
        exact Nat.le_trans this (by decide)
      · show max 0 (PyData.depthAll r) ≤ 0
        omega
    | _ => cases h.1
theorem gd_gate {W : Int} (hW : W ≤ 1000000000000) {d : PyData} (h : isGateD W d = true) : gd (10 ^ 40) d = true ∧ d.depth ≤ 2 := by
  obtain ⟨x, ins, rfl, hx, hi⟩ := gate_form h
  obtain ⟨a, b⟩ := gd_wires hW hi
  refine ⟨?_, ?_⟩
  · show gds (10 ^ 40) [.str x, .tuple ins] = true
    refine Bool.and_eq_true_iff.mpr ⟨List.all_eq_true.mpr fun c hc => decide_eq_true (sg_small (List.all_eq_true.mp hx c hc)), Bool.and_eq_true_iff.mpr ⟨a, rfl⟩⟩
  · show max 0 (max (PyData.depthAll ins + 1) 0) + 1 ≤ 2
    omega
theorem gd_list : ∀ {gs : List PyData}, (∀ d ∈ gs, gd (10 ^ 40) d = true ∧ d.depth ≤ 2) → gds (10 ^ 40) gs = true ∧ PyData.depthAll gs ≤ 2
  | [], _ => ⟨rfl, Nat.zero_le _⟩
  | d :: r, h => by
    obtain ⟨a, b⟩ := gd_list fun x hx => h x (List.mem_cons_of_mem _ hx)
    obtain ⟨c, e⟩ := h d (List.mem_cons_self ..)
    refine ⟨Bool.and_eq_true_iff.mpr ⟨c, a⟩, ?_⟩
    show max d.depth (PyData.depthAll r) ≤ 2
    omega
theorem netPD_fit {L : List Nat} (hL : L.length ≤ 9000) (h : isNetD (netPD L) = true) : Fit (10 ^ 40) 40000 4 (netPD L) := by
  have wt := net_weight L
  obtain ⟨hd, ls, hw⟩ : ∃ h ls, lns L = h :: ls := List.exists_cons_of_ne_nil (spl1_ne 10 L [])
  have ll := lns_len L
  rw [hw, List.length_cons] at ll
  rw [net_val hw] at h wt ⊢
  cases eh : headP hd with
  | none => rw [eh] at h; cases h
  | some m =>
    rw [eh] at h wt
    have h : ((decide (1 ≤ m) && decide (m ≤ 6)) && (decide ((ls.map gateP).length ≠ 0) && gatesD m (ls.map gateP))) = true := h
    rw [Bool.and_eq_true, Bool.and_eq_true (decide (1 ≤ m)), Bool.and_eq_true (decide _) (gatesD _ _)] at h
    have m1 := of_decide_eq_true h.1.1
    have m6 := of_decide_eq_true h.1.2
    obtain ⟨a, b⟩ := gd_list (gs := ls.map gateP) fun d hdd => by
      obtain ⟨k, hk⟩ := List.getElem?_of_mem hdd
      have lk := (List.getElem?_eq_some_iff.mp hk).1
      rw [List.length_map] at lk
      by_cases z : isGateD (m + (k : Nat)) d = true
      · exact gd_gate (by omega) z
      · rw [gates_no hk z] at h
        cases h.2.2
    refine ⟨?_, Nat.le_trans wt (by omega), ?_⟩
    · show gds (10 ^ 40) [.int m, .tuple (ls.map gateP)] = true
      refine Bool.and_eq_true_iff.mpr ⟨decide_eq_true (Nat.le_trans (show m.natAbs ≤ 6 by omega) (by decide)), Bool.and_eq_true_iff.mpr ⟨a, rfl⟩⟩
    · show max 0 (max (PyData.depthAll (ls.map gateP) + 1) 0) + 1 ≤ 4
      omega
def netQ : PyData → Option PyData
  | .str z => if isNetD (netPD (TL.tl z)) = true then some (netPD (TL.tl z)) else none
  | _ => none
def toldV (d : PyData) : V := match netQ d with
  | some n => .str n.shown
  | none => .bl true
theorem told_yes {z : Str} (h : isNetD (netPD (TL.tl z)) = true) : toldV (.str z) = .str (netPD (TL.tl z)).shown := by
  have e : netQ (.str z) = some (netPD (TL.tl z)) := if_pos h
  unfold toldV
  rw [e]
theorem told_no {z : Str} (h : isNetD (netPD (TL.tl z)) = false) : toldV (.str z) = .bl true := by
  have e : netQ (.str z) = none := if_neg (by rw [h]; exact Bool.false_ne_true)
  unfold toldV
  rw [e]
theorem told_other {d : PyData} (h : ¬ isStrD d = true) : toldV d = .bl true := by
  cases d <;> first | rfl | exact absurd rfl h
theorem same_del {H H' : Hp} {a : Addr} {o : HO} (s : Same (upd H a o) H') (n : H a = none) : Same H (delH H' a) := fun b x e => by
  have nb : b ≠ a := fun z => by rw [z, n] at e; cases e
  rw [delH_ne nb]
  exact s b x (by rw [upd_ne nb]; exact e)
def sp_told (T : Tx K mg) : Sp := fun vs H Q _ => ∃ (v : V) (d : PyData), vs = [v] ∧ Sh H v d ∧ (∀ z, d = .str z → z.length ≤ 9000) ∧ Tabs H T.tabs ∧ ∀ H', Gr H H' → Q (toldV d) H'
theorem ok_told (T : Tx K mg) (B : Tb base T) : FnG P w K mg base CX0 7 T.f_told T.fd_told ["_law_thing"] (sp_told T) := by
  refine okG0 T.F_told sc_told (fun vs H Q E h => ?_) (fun cdv A outer s H vs Q E nothing hr h => ?_)
  · obtain ⟨v, d, rfl, _⟩ := h
    rfl
  · obtain ⟨v, d, rfl, sh, hz, tabs, q⟩ := h
    refine ⟨_, (pss_cons (ps_set (i := 1) sc_told.nd rfl (by first | exact .inl rfl | exact .inr rfl) pe_non) (pss_cons (L2N.ps_try_as (i := 2) rfl rfl sc_told.nd rfl (by rfl) ⟨by rfl, by decide, .inl T.gC_NetError⟩ GxE.takesN (fun W pn xe tk own => (pss_one (ps_set (i := 1) sc_told.nd rfl (by first | exact .inl rfl | exact .inr rfl) (pe_callB (call_repr nothing hr.units) (by rfl) T.m_repr (by decide +kernel) (pa_cons (pe_callS (ok_read_net T B) (hr.mono (by decide)) (by rfl) T.g_read_net T.F_read_net.kp T.b_read_net (fun σ => L2N.passAt tk σ) (pa_cons (pv 0) pa_nil)) pa_nil))))) (fun ea oe cls ed pn hz hf => (pss_one (ps_set (i := 1) sc_told.nd rfl (by first | exact .inl rfl | exact .inr rfl) (GxE.pe_callX hz.zc hf (ok_refused T) (L2H.roomH_mark (hr.mono (by decide)) _) (by rfl) T.g_refused T.F_refused.kp T.b_refused (pa_cons (pv 2) pa_nil)))))) (pss_one (ps_ret (pv 1))))), ?_⟩
    refine ⟨v, rfl, v, d, rfl, sh, hz, tabs, fun hno H' g => ?_, fun z hd hc H' r g shr => ?_⟩
    · have e : toldV d = .bl true := by
        by_cases st : isStrD d = true
        · obtain ⟨z, rfl⟩ := strD_of st
          exact told_no (hno z rfl)
        · exact told_other st
      rw [e] at q
      refine ⟨true, T.x_NoText_NetError, fun _ a na => ?_, fun z => by cases z⟩
      refine ⟨.ref a, rfl, fun oe hz hf => ⟨fun n1 => ?_, fun hb => ?_⟩⟩
      · refine ⟨a, 0, rfl, by decide, ⟨T.C_NoText, oe, rfl, .inl upd_same, hz, hf⟩, fun H2 s2 => ⟨s2 _ _ upd_same, ?_⟩⟩
        exact ⟨_, rfl, q _ (g.trans (Gr.of (same_del s2 n1)))⟩
      · refine ⟨a, 0, rfl, by decide, ⟨T.C_NoText, oe, rfl, .inr hb, hz, hf⟩, fun H2 s2 => ?_⟩
        exact ⟨_, rfl, q _ (g.trans (Gr.of s2))⟩
    · subst hd
      rw [told_yes hc] at q
      have lz : (TL.tl z).length ≤ 9000 := by
        have := hz z rfl
        have e : (TL.tl z).length = z.length := Array.length_toList
        omega
      have ft := netPD_fit lz hc
      obtain ⟨f1, f2, f3⟩ := ft.fine (by decide) (by decide) (by decide)
      exact ⟨.ref r, _, rfl, shr, f1, f2, f3, _, rfl, q _ g⟩
def sp_right (T : Tx K mg) : Sp := fun vs H Q _ => ∃ (L : List Nat), vs = [.str (SX.S L)] ∧ L.length ≤ 9000 ∧ Tabs H T.tabs ∧ ∀ H', Gr H H' → Q (.bl true) H'
theorem ok_right (T : Tx K mg) (B : Tb base T) : FnG P w K mg base CX0 8 T.f_right T.fd_right ["_law_text"] (sp_right T) := by
  refine okG0 T.F_right sc_right (fun vs H Q E h => ?_) (fun cdv A outer s H vs Q E nothing hr h => ?_)
  · obtain ⟨L, rfl, _⟩ := h
    rfl
  · obtain ⟨L, rfl, hL, tabs, q⟩ := h
    refine ⟨_, (pss_cons (ps_set (i := 1) sc_right.nd rfl (by first | exact .inl rfl | exact .inr rfl) (pe_call (ok_read T) (hr.mono (by decide)) (by rfl) T.g_read T.F_read.kp T.b_read .nil pass0 (pa_cons (pv 0) pa_nil))) (pss_cons (ps_if (pt_cmpR op_isN (pv 1) pe_non (nomark _)) (pss_one (ps_ret (pe_cmpR op_is_bl (pe_callG (ok_told T B) nothing (hr.mono (by decide)) (by rfl) T.g_told T.F_told.kp T.b_told .nil pass0 (pa_cons (pv 0) pa_nil)) pe_bl (nomark _)))) pss_nil) (pss_one (ps_ret (pe_cmpR op_eq (pe_callG (ok_told T B) nothing (hr.mono (by decide)) (by rfl) T.g_told T.F_told.kp T.b_told .nil pass0 (pa_cons (pv 0) pa_nil)) (pe_callB (call_repr nothing hr.units) (by rfl) T.m_repr (by decide +kernel) (pa_cons (pv 1) pa_nil)) (nomark _)))))), ?_⟩
    have etl : TL.tl (SX.S L) = L := by simp [TL.tl]
    have short : ∀ z', PyData.str (SX.S L) = .str z' → z'.length ≤ 9000 := fun z' e => by
      rw [← PyData.str.inj e, SX.S_len]
      exact hL
    refine ⟨.str (SX.S L), rfl, L, rfl, hL, fun hc H1 g1 => ?_, fun hc H1 r g1 shr => ?_⟩
    · refine ⟨.non, rfl, rfl, _, rfl, iteT ?_⟩
      refine ⟨.str (SX.S L), rfl, .str (SX.S L), .str (SX.S L), rfl, .str _, short, tabs.gr' g1, fun H2 g2 => ?_⟩
      rw [told_no (by rw [etl]; exact hc)]
      exact ⟨true, true, rfl, rfl, q _ (g1.trans g2)⟩
    · refine ⟨.ref r, rfl, rfl, _, rfl, iteF ?_⟩
      refine ⟨.str (SX.S L), rfl, .str (SX.S L), .str (SX.S L), rfl, .str _, short, tabs.gr' g1, fun H2 g2 => ?_⟩
      rw [told_yes (by rw [etl]; exact hc), etl]
      obtain ⟨f1, f2, f3⟩ := (netPD_fit hL hc).fine (by decide) (by decide) (by decide)
      refine ⟨.ref r, rfl, .ref r, _, rfl, shr.gr g2, f1, f2, f3, rfl, ?_⟩
      rw [decide_eq_true rfl]
      exact q _ (g1.trans g2)

end
end Gk

set_option Elab.async false
set_option linter.all false
set_option maxRecDepth 100000
set_option maxHeartbeats 1000000
set_option pp.maxSteps 1500
set_option pp.deepTerms false
namespace Gk
open PySem PySem.Spec PyProof.Rows L2
/-! ### texts of nets, as lists of signs -/
def dig (n : Nat) : List Nat := (toString (n : Int) : Str).cps.toList
def sgn (b : Bool) : Nat := if b = true then 49 else 48
def lineL (g : Gt) : List Nat := TL.joinL [32] (g.1.map sgn :: g.2.map dig)
def inpL : List Nat := [105, 110, 112, 117, 116, 115, 32]
def netL (m : Nat) (gs : List Gt) : List Nat := TL.joinL [10] ((inpL ++ dig m) :: gs.map lineL)
theorem dig_S (n : Nat) : (toString (n : Int) : Str) = SX.S (dig n) := (SX.S_tl _).symm
theorem tab_S (bs : List Bool) : tabOf bs = SX.S (bs.map sgn) := rfl
def digOk (n : Nat) : Bool := decide (1 ≤ (dig n).length) && (decide ((dig n).length ≤ 3) && ((dig n).all (fun c => decide (48 ≤ c) && decide (c ≤ 57)) && (decide (PySem.intText? (SX.S (dig n)) = some (n : Int)) && (!(dig n).head?.any (· == 48) || decide (dig n = [48])))))
theorem digs : (List.range 1000).all digOk = true := by decide +kernel
theorem dig_ok {n : Nat} (h : n < 1000) : 1 ≤ (dig n).length ∧ (dig n).length ≤ 3 ∧ (∀ c ∈ dig n, 48 ≤ c ∧ c ≤ 57) ∧ PySem.intText? (SX.S (dig n)) = some (n : Int) ∧ ((dig n).head? = some 48 → dig n = [48]) := by
  have z := List.all_eq_true.mp digs n (List.mem_range.mpr h)
  unfold digOk at z
  rw [Bool.and_eq_true, Bool.and_eq_true, Bool.and_eq_true, Bool.and_eq_true, decide_eq_true_eq, decide_eq_true_eq, decide_eq_true_eq] at z
  obtain ⟨z1, z2, z3, z4, z5⟩ := z
  refine ⟨z1, z2, fun c hc => ?_, z4, fun e => ?_⟩
  · have := List.all_eq_true.mp z3 c hc
    rw [Bool.and_eq_true, decide_eq_true_eq, decide_eq_true_eq] at this
    exact this
  · rw [e] at z5
    have : (!(some 48).any (· == 48) || decide (dig n = [48])) = decide (dig n = [48]) := rfl
    rw [this] at z5
    exact of_decide_eq_true z5
theorem joinL_len (s : List Nat) : ∀ l : List (List Nat), (TL.joinL s l).length ≤ (l.map List.length).sum + l.length * s.length
  | [] => Nat.zero_le _
  | [p] => by
    show p.length ≤ p.length + 0 + 1 * s.length
    omega
  | p :: q :: r => by
    have ih := joinL_len s (q :: r)
    show (p ++ (s ++ TL.joinL s (q :: r))).length ≤ p.length + ((q :: r).map List.length).sum + ((q :: r).length + 1) * s.length
    rw [List.length_append, List.length_append, Nat.add_mul, Nat.one_mul]
    omega
theorem sum_le {α : Type} {f : α → Nat} {k : Nat} : ∀ l : List α, (∀ x ∈ l, f x ≤ k) → (l.map f).sum ≤ l.length * k
  | [], _ => Nat.zero_le _
  | x :: r, h => by
    have ih := sum_le r fun y hy => h y (List.mem_cons_of_mem _ hy)
    have := h x (List.mem_cons_self ..)
    rw [List.map_cons, List.sum_cons, List.length_cons, Nat.add_mul, Nat.one_mul]
    omega
theorem mem_joinL {s : List Nat} {c : Nat} : ∀ {l : List (List Nat)}, c ∈ TL.joinL s l → c ∈ s ∨ ∃ p ∈ l, c ∈ p
  | [], h => by cases h
  | [p], h => .inr ⟨p, List.mem_singleton.mpr rfl, h⟩
  | p :: q :: r, h => by
    have h : c ∈ p ++ (s ++ TL.joinL s (q :: r)) := h
    rcases List.mem_append.mp h with z | z
    · exact .inr ⟨p, List.mem_cons_self .., z⟩
    · rcases List.mem_append.mp z with z | z
      · exact .inl z
      · rcases mem_joinL z with z | ⟨x, hx, hc⟩
        · exact .inl z
        · exact .inr ⟨x, List.mem_cons_of_mem _ hx, hc⟩
def GtS (g : Gt) : Prop := g.1.length ≤ 8 ∧ g.2.length ≤ 3 ∧ ∀ i ∈ g.2, i < 1000
theorem gts_of {n : Nat} {g : Gt} (h : GtOk n g) (hn : n ≤ 1000) : GtS g := by
  obtain ⟨h1, h2, h3, h4⟩ := h
  refine ⟨?_, h3, fun i hi => Nat.lt_of_lt_of_le (h4 i hi) hn⟩
  rw [h1]
  have : g.2.length = 1 ∨ g.2.length = 2 ∨ g.2.length = 3 := by omega
  rcases this with h | h | h <;> rw [h] <;> decide
theorem sgn_mem {bs : List Bool} {c : Nat} (h : c ∈ bs.map sgn) : c = 48 ∨ c = 49 := by
  obtain ⟨b, _, rfl⟩ := List.mem_map.mp h
  cases b
  · exact .inl rfl
  · exact .inr rfl
theorem line_parts {g : Gt} (h : GtS g) : ∀ p ∈ g.1.map sgn :: g.2.map dig, ∀ c ∈ p, 48 ≤ c ∧ c ≤ 57 := fun p hp c hc => by
  rcases List.mem_cons.mp hp with rfl | hp
  · rcases sgn_mem hc with rfl | rfl <;> decide
  · obtain ⟨i, hi, rfl⟩ := List.mem_map.mp hp
    exact (dig_ok (h.2.2 i hi)).2.2.1 c hc
theorem line_len {g : Gt} (h : GtS g) : (lineL g).length ≤ 21 := by
  unfold lineL
  have a := joinL_len [32] (g.1.map sgn :: g.2.map dig)
  have b : ((g.2.map dig).map List.length).sum ≤ g.2.length * 3 := by
    rw [List.map_map]
    exact sum_le g.2 fun i hi => (dig_ok (h.2.2 i hi)).2.1
  rw [List.map_cons, List.sum_cons, List.length_map, List.length_cons, List.length_map] at a
  have e : ([32] : List Nat).length = 1 := rfl
  rw [e] at a
  have := h.1
  have := h.2.1
  omega
theorem line_signs {g : Gt} (h : GtS g) : ∀ c ∈ lineL g, c ≠ 10 := fun c hc e => by
  rcases mem_joinL hc with z | ⟨p, hp, z⟩
  · rw [List.mem_singleton.mp z] at e; cases e
  · have := (line_parts h p hp c z).1
    omega
theorem split_S {s : Nat} {l : List (List Nat)} (hs : s < 256) (hne : l ≠ []) (h : ∀ p ∈ l, s ∉ p) : Txt.split (SX.S (TL.joinL [s] l)) (SX.S [s]) = l.map SX.S := by
  rw [← SX.join_S]
  refine TL.split_join (s := s) (S := []) rfl ?_ (fun z => hne (List.map_eq_nil_iff.mp z)) fun p hp => ?_
  · simp [hs]
  · obtain ⟨q, hq, rfl⟩ := List.mem_map.mp hp
    exact h q hq
theorem split_line {g : Gt} (h : GtS g) : Txt.split (SX.S (lineL g)) (SX.S [32]) = SX.S (g.1.map sgn) :: (g.2.map dig).map SX.S := by
  unfold lineL
  rw [split_S (by decide) (by simp) fun p hp z => ?_]
  · rfl
  · have := (line_parts h p hp 32 z).1
    omega
theorem head_signs {m : Nat} (h : m < 1000) : ∀ c ∈ inpL ++ dig m, c ≠ 10 := fun c hc e => by
  rcases List.mem_append.mp hc with z | z
  · rw [e] at z
    revert z
    decide
  · have := ((dig_ok h).2.2.1 c z).1
    omega
theorem split_net {m : Nat} {gs : List Gt} (hm : m < 1000) (h : ∀ g ∈ gs, GtS g) : Txt.split (SX.S (netL m gs)) (SX.S [10]) = SX.S (inpL ++ dig m) :: (gs.map lineL).map SX.S := by
  unfold netL
  rw [split_S (by decide) (by simp) fun p hp z => ?_]
  · rfl
  · rcases List.mem_cons.mp hp with rfl | hp
    · exact head_signs hm 10 z rfl
    · obtain ⟨g, hg, rfl⟩ := List.mem_map.mp hp
      exact line_signs (h g hg) 10 z rfl
theorem netL_len {m : Nat} {gs : List Gt} (hm : m < 1000) (h : ∀ g ∈ gs, GtS g) : (netL m gs).length ≤ 20 + 22 * gs.length := by
  unfold netL
  have a := joinL_len [10] ((inpL ++ dig m) :: gs.map lineL)
  have b : ((gs.map lineL).map List.length).sum ≤ gs.length * 21 := by
    rw [List.map_map]
    exact sum_le gs fun g hg => line_len (h g hg)
  have c := (dig_ok hm).2.1
  have e : ([10] : List Nat).length = 1 := rfl
  have f : inpL.length = 7 := rfl
  rw [List.map_cons, List.sum_cons, List.length_append, List.length_cons, List.length_map, e, f] at a
  omega
theorem sp_S : (Str.ofString " ") = SX.S [32] := by decide +kernel
theorem nl_S : (Str.ofString "\n") = SX.S [10] := by decide +kernel
theorem heads : ((List.range 6).all fun i => decide (Txt.split (SX.S (inpL ++ dig (i + 1))) (SX.S [32]) = [Str.ofString "inputs", SX.S (dig (i + 1))])) = true := by decide +kernel
theorem split_head {m : Nat} (h1 : 1 ≤ m) (h6 : m ≤ 6) : Txt.split (SX.S (inpL ++ dig m)) (SX.S [32]) = [Str.ofString "inputs", SX.S (dig m)] := by
  have z := List.all_eq_true.mp heads (m - 1) (List.mem_range.mpr (by omega))
  rw [show m - 1 + 1 = m by omega] at z
  exact of_decide_eq_true z
theorem figs : ∀ c : Nat, 48 ≤ c → c ≤ 57 → decide (c ∈ (Str.ofString "0123456789").cps.toList) = true := by
  intro c h1 h2
  have e : (Str.ofString "0123456789").cps.toList = [48, 49, 50, 51, 52, 53, 54, 55, 56, 57] := by decide +kernel
  rw [e]
  have : c = 48 ∨ c = 49 ∨ c = 50 ∨ c = 51 ∨ c = 52 ∨ c = 53 ∨ c = 54 ∨ c = 55 ∨ c = 56 ∨ c = 57 := by omega
  rcases this with rfl | rfl | rfl | rfl | rfl | rfl | rfl | rfl | rfl | rfl <;> decide

theorem netS {m : Nat} {gs : List Gt} (ok : NetOk m gs) (m6 : m ≤ 6) (h : gs.length ≤ 400) : ∀ g ∈ gs, GtS g := fun g hg => by
  obtain ⟨i, hi⟩ := List.getElem?_of_mem hg
  have := (List.getElem?_eq_some_iff.mp hi).1
  exact gts_of (ok i g hi) (by omega)

theorem inp_S : Str.ofString "inputs " = SX.S inpL := by decide +kernel
theorem log_dig (n : Nat) (h : n < 1000) : (n : Int).natAbs.log2 < 1920 := by
  rw [Int.natAbs_natCast]
  by_cases z : n = 0
  · subst z; decide
  · have : n.log2 < 10 := (Nat.log2_lt z).mpr (by omega)
    omega
theorem lens_ok {k n : Nat} {sep : Str} (l : List (List Nat)) (h : ∀ p ∈ l, p.length ≤ k) (hl : l.length ≤ n) (hn : n * (k + 1) ≤ 16777216) (hs : sep.length ≤ 1) : ((l.map SX.S).map (·.length)).sum + (l.map SX.S).length * sep.length ≤ 16777216 := by
  rw [SX.lens, List.length_map]
  have a := sum_le (f := fun x : List Nat => x.length) l h
  have b : l.length * (k + 1) ≤ n * (k + 1) := Nat.mul_le_mul_right _ hl
  have c : l.length * sep.length ≤ l.length * 1 := Nat.mul_le_mul_left _ hs
  rw [Nat.mul_add] at b
  omega
theorem nl_1 : (Str.ofString "\n").length ≤ 1 := by decide +kernel
theorem sp_1 : (Str.ofString " ").length ≤ 1 := by decide +kernel
theorem line_join (g : Gt) : Txt.join (Str.ofString " ") (SX.S (g.1.map sgn) :: (g.2.map dig).map SX.S) = SX.S (lineL g) := by
  rw [sp_S]
  exact SX.join_S [32] (g.1.map sgn :: g.2.map dig)
theorem net_join (m : Nat) (gs : List Gt) : Txt.join (Str.ofString "\n") (SX.S (inpL ++ dig m) :: (gs.map lineL).map SX.S) = SX.S (netL m gs) := by
  rw [nl_S]
  exact SX.join_S [10] ((inpL ++ dig m) :: gs.map lineL)
theorem line_parts_ok {g : Gt} (h : GtS g) : (((g.1.map sgn :: g.2.map dig).map SX.S).map (·.length)).sum + ((g.1.map sgn :: g.2.map dig).map SX.S).length * (Str.ofString " ").length ≤ 16777216 := by
  refine lens_ok (k := 8) (n := 4) (g.1.map sgn :: g.2.map dig) (fun p hp => ?_) ?_ (by decide) sp_1
  · rcases List.mem_cons.mp hp with rfl | hp
    · rw [List.length_map]; exact h.1
    · obtain ⟨wn, hw, rfl⟩ := List.mem_map.mp hp
      have := (dig_ok (h.2.2 wn hw)).2.1
      omega
  · rw [List.length_cons, List.length_map]
    have := h.2.1
    omega
theorem net_parts_ok {m : Nat} {gs : List Gt} (hm : m < 1000) (h : ∀ g ∈ gs, GtS g) (hl : gs.length ≤ 400) : (((inpL ++ dig m) :: gs.map lineL).map SX.S |>.map (·.length)).sum + (((inpL ++ dig m) :: gs.map lineL).map SX.S).length * (Str.ofString "\n").length ≤ 16777216 := by
  refine lens_ok (k := 21) (n := 500) ((inpL ++ dig m) :: gs.map lineL) (fun p hp => ?_) ?_ (by decide) nl_1
  · rcases List.mem_cons.mp hp with rfl | hp
    · rw [List.length_append]
      have := (dig_ok (n := m) hm).2.1
      have : inpL.length = 7 := rfl
      omega
    · obtain ⟨g, hg, rfl⟩ := List.mem_map.mp hp
      exact line_len (h g hg)
  · rw [List.length_cons, List.length_map]
    omega
theorem joinL_snoc (s : Nat) (p : List Nat) (l : List (List Nat)) (q : List Nat) : TL.joinL [s] (p :: (l ++ [q])) = TL.joinL [s] (p :: l) ++ s :: q := by
  induction l generalizing p with
  | nil => rfl
  | cons x r ih =>
    show p ++ ([s] ++ TL.joinL [s] (x :: (r ++ [q]))) = (p ++ ([s] ++ TL.joinL [s] (x :: r))) ++ s :: q
    rw [ih x]
    simp
theorem dig_inj {a b : Nat} (ha : a < 1000) (hb : b < 1000) (h : dig a = dig b) : a = b := by
  have e1 := (dig_ok ha).2.2.2.1
  have e2 := (dig_ok hb).2.2.2.1
  rw [h, e2] at e1
  have := Option.some.inj e1
  omega
theorem sgn_inj {a b : Bool} (h : sgn a = sgn b) : a = b := by cases a <;> cases b <;> first | rfl | cases h
theorem map_inj {α β : Type} {f : α → β} : ∀ {a b : List α}, (∀ x ∈ a, ∀ y ∈ b, f x = f y → x = y) → a.map f = b.map f → a = b
  | [], [], _, _ => rfl
  | [], _ :: _, _, h => by cases h
  | _ :: _, [], _, h => by cases h
  | x :: a, y :: b, inj, h => by
    have h1 := (List.cons.inj h).1
    have h2 := (List.cons.inj h).2
    rw [inj x (List.mem_cons_self ..) y (List.mem_cons_self ..) h1, map_inj (fun u hu v hv => inj u (List.mem_cons_of_mem _ hu) v (List.mem_cons_of_mem _ hv)) h2]
theorem line_inj {g h : Gt} (hg : GtS g) (hh : GtS h) (e : lineL g = lineL h) : g = h := by
  have s1 := split_line hg
  rw [e, split_line hh] at s1
  obtain ⟨e1, e2⟩ := List.cons.inj s1
  have t1 : g.1 = h.1 := (map_inj (fun _ _ _ _ z => sgn_inj z) (SX.S_inj e1)).symm
  have t2 : g.2 = h.2 := (map_inj (fun x hx y hy z => dig_inj (hh.2.2 x hx) (hg.2.2 y hy) z) (map_inj (fun _ _ _ _ z => SX.S_inj z) e2)).symm
  exact Prod.ext t1 t2
theorem net_inj {m : Nat} {gs hs : List Gt} (hm : m < 1000) (hg : ∀ g ∈ gs, GtS g) (hh : ∀ g ∈ hs, GtS g) (e : netL m gs = netL m hs) : gs = hs := by
  have s1 := split_net hm hg
  rw [e, split_net hm hh] at s1
  have e2 := (List.cons.inj s1).2
  exact (map_inj (fun x hx y hy z => line_inj (hh x hx) (hg y hy) z) (map_inj (fun _ _ _ _ z => SX.S_inj z) e2)).symm

section
variable {P : Program} {w : World} {K : PySem.W.Frag} {mg : Str → Option Value} {base : Heap}
/-! ### drawn gates and nets -/
def nV (ws : List Nat) : List V := (ws.map Int.ofNat).map V.int
theorem nV_len (ws : List Nat) : (nV ws).length = ws.length := by unfold nV; rw [List.length_map, List.length_map]
theorem nV_app (a b : List Nat) : nV (a ++ b) = nV a ++ nV b := by unfold nV; rw [List.map_append, List.map_append]
theorem gate_new {H : Hp} {bs : List Bool} {ws : List Nat} {ti tt : Addr} (nti : H ti = none) (ntt : (upd H ti (.tup (nV ws))) tt = none) : Tk (upd (upd H ti (.tup (nV ws))) tt (.tup [.str (tabOf bs), .ref ti])) (.ref tt) (gD (bs, ws)) :=
  .tup upd_same (.cons (.str _) (.cons (.tup (same_upd ntt _ _ upd_same) (TkAll.ints _)) .nil))
def sg (b : Bool) : Str := SX.S [if b = true then 49 else 48]
theorem joinL_nil : ∀ l : List (List Nat), TL.joinL [] l = l.flatten
  | [] => rfl
  | [p] => by simp [TL.joinL]
  | p :: q :: r => by
    show p ++ ([] ++ TL.joinL [] (q :: r)) = _
    rw [joinL_nil (q :: r)]
    rfl
theorem join_sg (bs : List Bool) : Txt.join (Str.ofString "") (bs.map sg) = tabOf bs := by
  have e : bs.map sg = (bs.map fun b => [if b = true then 49 else 48]).map SX.S := by rw [List.map_map]; rfl
  have z : Str.ofString "" = SX.S [] := by decide +kernel
  rw [e, z, SX.join_S, joinL_nil]
  have : (bs.map fun b => [if b = true then 49 else 48]).flatten = bs.map fun b => if b = true then 49 else 48 := by
    clear e z
    induction bs with
    | nil => rfl
    | cons b r ih => rw [List.map_cons, List.flatten_cons, ih]; rfl
  rw [this]
  rfl
theorem zo_S : Str.ofString "01" = SX.S [48, 49] := by decide +kernel
theorem NetOk.snoc {n : Nat} {gs : List Gt} {g : Gt} (h : NetOk n gs) (hg : GtOk (n + gs.length) g) : NetOk n (gs ++ [g]) := fun k g' e => by
  by_cases hk : k < gs.length
  · rw [List.getElem?_append_left hk] at e
    exact h k g' e
  · rw [List.getElem?_append_right (by omega)] at e
    cases hz : k - gs.length with
    | zero =>
      rw [hz] at e
      cases Option.some.inj e
      rw [show k = gs.length by omega]
      exact hg
    | succ j => rw [hz] at e; cases e
def sp_gate (K : PySem.W.Frag) : Sp := fun vs H Q _ => ∃ (d l : Addr) (n : Int) (wires near : Nat), vs = [.ref d, .int wires, .int near] ∧ DeckC H d l n ∧ n < 100000000 ∧ 1 ≤ wires ∧ wires ≤ 100000 ∧ 1 ≤ near ∧
  ∀ r H' g, DeckC H' d l (n + 12) → Fr d l H H' → Tk H' (.ref r) (gD g) → GtOk wires g → Q (.ref r) H'
theorem ok_gate (T : Tx K mg) : FnOk P w K mg base CX0 3 T.f_gate T.fd_gate ["_law_deck_here", "_law_wires", "_law_near"] (sp_gate K) := by
  refine T.F_gate.ok sc_gate (fun vs H Q E h => ?_) (fun cdv A outer s H vs Q E hr h => ?_)
  · obtain ⟨d, l, n, wires, near, rfl, _⟩ := h
    rfl
  · obtain ⟨d, l, n, wires, near, rfl, D, hn, w1, w5, r1, q⟩ := h
    refine ⟨_, (pss_cons (ps_set (i := 3) sc_gate.nd rfl (by first | exact .inl rfl | exact .inr rfl) (pe_op op_add pe_int (pe_call (ok_take T) (hr.mono (by decide)) (by rfl) T.g_take T.F_take.kp T.b_take .nil pass0 (pa_cons (pv 0) (pa_cons pe_int pa_nil))))) (pss_cons (ps_set (i := 4) sc_gate.nd rfl (by first | exact .inl rfl | exact .inr rfl) (pe_callTy call_tuple_of (by rfl) T.m_tuple (by decide +kernel) (pa_cons (pe_lc (own := [("_law_k", 5)]) (by rfl) sc_gate.nd (pi_range1 (by rfl) T.m_range (pa_cons (pv 3) pa_nil)) (blkOk_by (own := [("_law_k", 5)]) (N := ["_law_deck_here", "_law_wires", "_law_near", "_law_size", "_law_ins", "_law_k"]) (sc := defScope s_gate) (by decide +kernel)) (fun _ _ _ _ _ => (pg_name (i := 5) sc_gate.nd rfl (by first | exact .inl rfl | exact .inr rfl))) (fun _ _ _ _ _ => pts_nil) (fun _ _ _ _ _ => (pe_op op_sub (pe_op op_sub (pv 1) pe_int) (pe_call (ok_take T) (hr.mono (by decide)) (by rfl) T.g_take T.F_take.kp T.b_take .nil pass0 (pa_cons (pv 0) (pa_cons (pe_callB (call_min2 rfl) (by rfl) T.m_min (by decide +kernel) (pa_cons (pv 1) (pa_cons (pv 2) pa_nil))) pa_nil)))))) pa_nil))) (pss_one (ps_ret (pe_tup (pa_cons (pe_join pe_str (pe_lc (own := [("_law_k", 5)]) (by rfl) sc_gate.nd (pi_range1 (by rfl) T.m_range (pa_cons (pe_ix ix_list (pe_lst (pa_cons pe_int (pa_cons pe_int (pa_cons pe_int pa_nil)))) (pe_op op_sub (pv 3) pe_int) (fun _ _ => rfl)) pa_nil)) (blkOk_by (own := [("_law_k", 5)]) (N := ["_law_deck_here", "_law_wires", "_law_near", "_law_size", "_law_ins", "_law_k"]) (sc := defScope s_gate) (by decide +kernel)) (fun _ _ _ _ _ => (pg_name (i := 5) sc_gate.nd rfl (by first | exact .inl rfl | exact .inr rfl))) (fun _ _ _ _ _ => pts_nil) (fun _ _ _ _ _ => (pe_item_str pe_str (pe_call (ok_take T) (hr.mono (by decide)) (by rfl) T.g_take T.F_take.kp T.b_take .nil pass0 (pa_cons (pv 0) (pa_cons pe_int pa_nil))) (fun _ _ => rfl))))) (pa_cons (pv 4) pa_nil))))))), ?_⟩
    refine ⟨.ref d, rfl, d, l, 3, _, rfl, D, by omega, by decide, by decide, fun H1 v D1 fr1 v0 v1 => ⟨_, _, rfl, rfl, ?_⟩⟩
    obtain ⟨c, hc, c1, c3⟩ : ∃ c : Nat, 1 + v = (c : Int) ∧ 1 ≤ c ∧ c ≤ 3 := ⟨(1 + v).toNat, by omega, by omega, by omega⟩
    have ec : (fun i j : Int => V.int (i + j)) 1 v = V.int c := by
      show V.int (1 + v) = _
      rw [hc]
    rw [ec]
    refine ⟨.int c, rfl, c, rfl, by omega, by omega, fun I nI => ?_⟩
    have oI := D1.off nI
    have nI0 : H I = none := none_of_frC fr1 D1 nI
    refine lc_range (lo := 0) (n := (c : Int).toNat) (fun j H' => DeckC H' d l (n + 1 + j) ∧ Fr d l H H' ∧ ∃ ws : List Nat, H' I = some (.lst (nV ws)) ∧ ws.length = j ∧ ∀ x ∈ ws, x < wires)
      ⟨(D1.same (same_upd nI)).mono (by omega), fr1.trans (Fr.new nI), [], upd_same, rfl, fun x hx => by cases hx⟩ ?_ ?_
    · rintro j H2 hj ⟨D2, fr2, ws, hI, lw, okw⟩
      have hj' : j < c := by simpa using hj
      refine ⟨rfl, .int wires, rfl, _, _, rfl, rfl, .ref d, rfl, .int wires, rfl, .int near, rfl, _, _, rfl, d, l, _, _, rfl, D2, by omega, ?_, ?_, fun H3 x D3 fr3 x0 x1 => ⟨_, _, rfl, rfl, ?_⟩⟩
      · split <;> omega
      · split <;> omega
      have xw : x < wires := by
        split at x1 <;> omega
      have hI3 := fr3 _ _ oI.1 oI.2 hI
      have ex : V.int ((wires : Int) - 1 - x) = V.int (Int.ofNat ((wires : Int) - 1 - x).toNat) := by
        congr 1
        show (wires : Int) - 1 - x = ((((wires : Int) - 1 - x).toNat : Nat) : Int)
        omega
      refine ⟨_, hI3, ?_, (D3.upd oI.1 oI.2).mono (by push_cast; omega), Fr.upd (fr2.trans fr3) nI0, ws ++ [((wires : Int) - 1 - x).toNat], ?_, by rw [List.length_append, lw]; rfl, fun y hy => ?_⟩
      · rw [nV_len, lw]
        exact Nat.lt_of_lt_of_le (show j < 64 by omega) (by decide)
      · rw [upd_same, nV_app]
        show some (HO.lst (nV ws ++ [V.int ((wires : Int) - 1 - x)])) = _
        rw [ex]
        rfl
      · rcases List.mem_append.mp hy with z | z
        · exact okw y z
        · rw [List.mem_singleton.mp z]; omega
    · rintro H2 ⟨D2, fr2, ws, hI, lw, okw⟩
      have lw' : ws.length = c := by rw [lw]; simp
      refine ⟨I, _, rfl, .inl ⟨SqL.of hI, fun ti nti => ?_⟩⟩
      have s2 := same_upd (o := HO.tup (nV ws)) nti
      have oti := D2.off nti
      have D2' := D2.same s2
      have hti : (upd H2 ti (.tup (nV ws))) ti = some (.tup (nV ws)) := upd_same
      have fr2' := fr2.trans (Fr.of (d := d) (l := l) s2)
      revert hti D2' fr2'
      generalize upd H2 ti (.tup (nV ws)) = H3
      intro D2' hti fr2'
      refine ⟨⟨_, rfl⟩, sl3, fun p5 n5 => ?_⟩
      obtain ⟨N, hN, a2, k8⟩ : ∃ N : Nat, 2 ^ c = N ∧ atI [V.int 2, V.int 4, V.int 8] ((c : Int) - 1) = some (.int (N : Int)) ∧ N ≤ 8 := by
        have : c = 1 ∨ c = 2 ∨ c = 3 := by omega
        rcases this with rfl | rfl | rfl
        · exact ⟨2, rfl, rfl, by decide⟩
        · exact ⟨4, rfl, rfl, by decide⟩
        · exact ⟨8, rfl, rfl, by decide⟩
      refine ⟨.int c, rfl, _, _, rfl, rfl, p5, _, (c : Int) - 1, _, rfl, rfl, SqL.of upd_same, a2, _, rfl, by omega, by omega, fun L nL => ?_⟩
      have s5 := same_upd (o := HO.lst [V.int 2, V.int 4, V.int 8]) n5
      have D5 := D2'.same s5
      have fr5 := fr2'.trans (Fr.of (d := d) (l := l) s5)
      have hti5 := s5 _ _ hti
      revert nL D5 fr5 hti5
      generalize upd H3 p5 (.lst [.int 2, .int 4, .int 8]) = H5
      intro nL D5 fr5 hti5
      have oL := D5.off nL
      have nL0 : H L = none := none_of_frC fr5 D5 nL
      have ntL : ti ≠ L := ne_of_none hti5 nL
      refine lc_range (lo := 0) (n := ((N : Nat) : Int).toNat) (fun i H' => DeckC H' d l (n + 4 + i) ∧ Fr d l H H' ∧ H' ti = some (.tup (nV ws)) ∧ ∃ bs : List Bool, bs.length = i ∧ H' L = some (.lst (bs.map fun b => V.str (sg b)))) ⟨(D5.same (same_upd nL)).mono (by omega), fr5.trans (Fr.new nL), same_upd nL _ _ hti5, [], rfl, upd_same⟩ ?_ ?_
      · rintro i H6 hi ⟨D6, fr6, ht6, bs, lbs, hL⟩
        have hi' : i < N := by simpa using hi
        refine ⟨rfl, .ref d, rfl, d, l, 2, _, rfl, D6, by omega, by decide, by decide, fun H7 x D7 fr7 x0 x1 => ?_⟩
        have hL7 := fr7 _ _ oL.1 oL.2 hL
        have ht7 := fr7 _ _ oti.1 oti.2 ht6
        refine ⟨Str.ofString "01", x, (if x = 1 then 49 else 48), rfl, rfl, x0, by omega, ?_, ?_, _, hL7, ?_, (D7.upd oL.1 oL.2).mono (by push_cast; omega), Fr.upd (fr6.trans fr7) nL0, by rw [upd_ne ntL]; exact ht7, bs ++ [decide (x = 1)], by rw [List.length_append, lbs]; rfl, ?_⟩
        · rw [zo_S, SX.S_len]
          exact x1
        · rw [zo_S]
          have : x = 0 ∨ x = 1 := by omega
          rcases this with rfl | rfl <;> rfl
        · rw [List.length_map, lbs]
          exact Nat.lt_of_lt_of_le (show i < 64 by omega) (by decide)
        · rw [upd_same, List.map_append]
          have : x = 0 ∨ x = 1 := by omega
          rcases this with rfl | rfl <;> rfl
      · rintro H6 ⟨D6, fr6, ht6, bs, lbs, hL⟩
        have lb : bs.length = 2 ^ c := by rw [lbs, hN]; simp
        refine ⟨Str.ofString "", L, bs.map sg, rfl, rfl, .inl (SqL.of (by rw [hL, List.map_map]; rfl)), ?_, ?_⟩
        · rw [List.map_map, List.length_map]
          have : (bs.map ((fun x => x.length) ∘ sg)).sum = bs.length := by
            clear hL lbs lb
            induction bs with
            | nil => rfl
            | cons b r ih =>
              rw [List.map_cons, List.sum_cons, ih, List.length_cons]
              cases b <;> (show 1 + _ = _; omega)
          rw [this]
          show bs.length + bs.length * 0 ≤ _
          have : bs.length ≤ 8 := by rw [lb, hN]; exact k8
          omega
        · rw [join_sg]
          refine ⟨.ref ti, rfl, sl2, fun tt ntt => ?_⟩
          have s7 := same_upd (o := HO.tup [V.str (tabOf bs), .ref ti]) ntt
          refine q tt _ (bs, ws) ((D6.same s7).mono (by
            have : (((N : Nat) : Int).toNat : Int) ≤ 8 := by omega
            omega)) (fr6.trans (Fr.of s7)) (.tup upd_same (.cons (.str _) (.cons (.tup (s7 _ _ ht6) (TkAll.ints _)) .nil))) ⟨?_, ?_, ?_, okw⟩
          · show bs.length = 2 ^ ws.length
            rw [lb, lw']
          · show 1 ≤ ws.length
            omega
          · show ws.length ≤ 3
            omega

/-! ### a drawn net, great ones among them -/
def sp_net (K : PySem.W.Frag) : Sp := fun vs H Q _ => ∃ (d l : Addr) (n : Int), vs = [.ref d] ∧ DeckC H d l n ∧ n < 10000000 ∧
  ∀ r H' m gs, DeckC H' d l (n + 2000) → Fr d l H H' → Tk H' (.ref r) (netD (m : Nat) gs) → 1 ≤ m → m ≤ 6 → 1 ≤ gs.length → gs.length ≤ 120 → NetOk m gs → Q (.ref r) H'
theorem ok_net (T : Tx K mg) : FnOk P w K mg base CX0 4 T.f_net T.fd_net ["_law_deck_here"] (sp_net K) := by
  refine T.F_net.ok sc_net (fun vs H Q E h => ?_) (fun cdv A outer s H vs Q E hr h => ?_)
  · obtain ⟨d, l, n, rfl, _⟩ := h
    rfl
  · obtain ⟨d, l, n, rfl, D, hn, q⟩ := h
    refine ⟨_, (pss_cons (ps_set (i := 1) sc_net.nd rfl (by first | exact .inl rfl | exact .inr rfl) (pe_call (ok_take T) (hr.mono (by decide)) (by rfl) T.g_take T.F_take.kp T.b_take .nil pass0 (pa_cons (pv 0) (pa_cons pe_int pa_nil)))) (pss_cons (ps_set (i := 2) sc_net.nd rfl (by first | exact .inl rfl | exact .inr rfl) (pe_ix ix_list (pe_lst (pa_cons pe_int (pa_cons pe_int (pa_cons pe_int (pa_cons pe_int pa_nil))))) (pe_call (ok_take T) (hr.mono (by decide)) (by rfl) T.g_take T.F_take.kp T.b_take .nil pass0 (pa_cons (pv 0) (pa_cons pe_int pa_nil))) (fun _ _ => rfl))) (pss_cons (ps_set (i := 3) sc_net.nd rfl (by first | exact .inl rfl | exact .inr rfl) (pe_op op_add pe_int (pe_call (ok_take T) (hr.mono (by decide)) (by rfl) T.g_take T.F_take.kp T.b_take .nil pass0 (pa_cons (pv 0) (pa_cons pe_int pa_nil))))) (pss_cons (ps_set (i := 4) sc_net.nd rfl (by first | exact .inl rfl | exact .inr rfl) (pe_dget2 (hu_of hr) (pe_disp (pps_cons pe_int pe_int (pps_cons pe_int (pe_op op_add pe_int (pe_call (ok_take T) (hr.mono (by decide)) (by rfl) T.g_take T.F_take.kp T.b_take .nil pass0 (pa_cons (pv 0) (pa_cons pe_int pa_nil)))) pps_nil)) (by rfl) (by rfl) (fun z => by cases z) (by decide)) (pv 1) (pe_op op_add pe_int (pe_call (ok_take T) (hr.mono (by decide)) (by rfl) T.g_take T.F_take.kp T.b_take .nil pass0 (pa_cons (pv 0) (pa_cons pe_int pa_nil)))) ⟨rfl, rfl, rfl, rfl⟩)) (pss_cons (ps_set (i := 5) sc_net.nd rfl (by first | exact .inl rfl | exact .inr rfl) (pe_lst pa_nil)) (pss_cons (ps_for PassesOwn.never rfl (pi_range1 (by rfl) T.m_range (pa_cons (pv 4) pa_nil)) (pg_name (i := 6) sc_net.nd rfl (by first | exact .inl rfl | exact .inr rfl)) (pss_one (ps_expr (pe_bm PySem.F.plainAttrs_list PySem.F.slot_list_append PySem.F.type_list_append mt_append (pv 5) (pa_cons (pe_call (ok_gate T) (hr.mono (by decide)) (by rfl) T.g_gate T.F_gate.kp T.b_gate .nil pass0 (pa_cons (pv 0) (pa_cons (pe_op op_add (pv 3) (pv 6)) (pa_cons (pv 2) pa_nil)))) pa_nil))))) (pss_one (ps_ret (pe_tup (pa_cons (pv 3) (pa_cons (pe_callTy call_tuple_of (by rfl) T.m_tuple (by decide +kernel) (pa_cons (pv 5) pa_nil)) pa_nil))))))))))), ?_⟩
    refine ⟨.ref d, rfl, d, l, 8, _, rfl, D, by omega, by decide, by decide, fun H1 g D1 fr1 g0 g1 => ?_⟩
    refine ⟨sl4, fun p1 n1 => ?_⟩
    have o1 := D1.off n1
    have s1 := same_upd (o := HO.lst [V.int 1, V.int 2, V.int 46, V.int 46]) n1
    have D1' := D1.same s1
    refine ⟨.ref d, rfl, d, l, 4, _, rfl, D1', by omega, by decide, by decide, fun H2 u D2 fr2 u0 u1 => ?_⟩
    have hp1 := fr2 _ _ o1.1 o1.2 (show (upd H1 p1 (.lst [V.int 1, V.int 2, V.int 46, V.int 46])) p1 = _ from upd_same)
    obtain ⟨near, hnear, near1⟩ : ∃ near : Nat, atI [V.int 1, V.int 2, V.int 46, V.int 46] u = some (.int (near : Int)) ∧ 1 ≤ near := by
      have : u = 0 ∨ u = 1 ∨ u = 2 ∨ u = 3 := by omega
      rcases this with rfl | rfl | rfl | rfl
      · exact ⟨1, rfl, by decide⟩
      · exact ⟨2, rfl, by decide⟩
      · exact ⟨46, rfl, by decide⟩
      · exact ⟨46, rfl, by decide⟩
    refine ⟨p1, _, u, _, rfl, rfl, SqL.of hp1, hnear, ?_⟩
    refine ⟨.ref d, rfl, d, l, 6, _, rfl, D2, by omega, by decide, by decide, fun H3 x D3 fr3 x0 x1 => ⟨_, _, rfl, rfl, ?_⟩⟩
    obtain ⟨m, hm, m1, m6⟩ : ∃ m : Nat, 1 + x = (m : Int) ∧ 1 ≤ m ∧ m ≤ 6 := ⟨(1 + x).toNat, by omega, by omega, by omega⟩
    have em : (fun i j : Int => V.int (i + j)) 1 x = V.int m := by
      show V.int (1 + x) = _
      rw [hm]
    rw [em]
    have fr03 := ((fr1.trans (Fr.of s1)).trans fr2).trans fr3
    refine fun dk ndk => ?_
    have odk := D3.off ndk
    have s4 := same_upd (o := (HO.dK [])) ndk
    have h4 : upd H3 dk (HO.dK []) dk = some (HO.dK []) := upd_same
    generalize upd H3 dk (HO.dK []) = H4 at s4 h4 ⊢
    have D4 := D3.same s4
    refine ⟨.ref d, rfl, d, l, 80, _, rfl, D4, by omega, by decide, by decide, fun H5 y D5 fr5 y0 y1 => ⟨_, _, rfl, rfl, ?_⟩⟩
    have h5 := fr5 _ _ odk.1 odk.2 h4
    refine ⟨h5, [(.inl 5, .int 40), (.inl 6, .int (41 + y))], rfl, (show 2 ≤ 15 by decide), ?_⟩
    have em : ∀ v1 v2 : V, mergeK [] [((.inl 5 : Key), v1), (.inl 6, v2)] = [(.inl 5, v1), (.inl 6, v2)] := fun v1 v2 => rfl
    rw [em]
    have ndk0 : H dk = none := none_of_frC fr03 D3 ndk
    have D6 := D5.upd (o := .dK [(.inl 5, .int 40), (.inl 6, .int (41 + y))]) odk.1 odk.2
    have fr6 := Fr.upd (o := .dK [(.inl 5, .int 40), (.inl 6, .int (41 + y))]) ((fr03.trans (Fr.of s4)).trans fr5) ndk0
    have h6 : upd H5 dk (.dK [(.inl 5, .int 40), (.inl 6, .int (41 + y))]) dk = some (.dK [(.inl 5, .int 40), (.inl 6, .int (41 + y))]) := upd_same
    generalize upd H5 dk (.dK [(.inl 5, .int 40), (.inl 6, .int (41 + y))]) = H6 at D6 fr6 h6 ⊢
    refine ⟨dk, rfl, .inl ⟨_, .inl h6⟩, .int g, rfl, .ref d, rfl, d, l, 8, _, rfl, D6, by omega, by decide, by decide, fun H7 v D7 fr7 v0 v1 => ⟨_, _, rfl, rfl, _, DGet.k (k := .inl g) (fr7 _ _ odk.1 odk.2 h6), ?_⟩⟩
    obtain ⟨cn, hcn, c1, c120⟩ : ∃ cn : Nat, (valV [((.inl 5 : Key), V.int 40), (.inl 6, .int (41 + y))] (.inl g)).getD (V.int (1 + v)) = V.int (cn : Int) ∧ 1 ≤ cn ∧ cn ≤ 120 := by
      by_cases a : g = 5
      · rw [a]
        exact ⟨40, rfl, by decide, by decide⟩
      · by_cases b : g = 6
        · rw [b]
          exact ⟨(41 + y).toNat, (by show V.int (41 + y) = _; rw [Int.toNat_of_nonneg (by omega)]), by omega, by omega⟩
        · refine ⟨(1 + v).toNat, ?_, by omega, by omega⟩
          have e : valV [((.inl 5 : Key), V.int 40), (.inl 6, .int (41 + y))] (.inl g) = none := by
            have n5 : decide ((.inl 5 : Key) = .inl g) = false := decide_eq_false fun z => a (Sum.inl.inj z).symm
            have n6 : decide ((.inl 6 : Key) = .inl g) = false := decide_eq_false fun z => b (Sum.inl.inj z).symm
            unfold valV
            rw [List.find?_cons_of_neg (by simpa using n5), List.find?_cons_of_neg (by simpa using n6)]
            rfl
          rw [e, Int.toNat_of_nonneg (by omega)]
          rfl
    rw [hcn]
    have frA := fr6.trans fr7
    refine ⟨Nat.zero_le _, fun G nG => ?_⟩
    have oG := D7.off nG
    have nG0 : H G = none := none_of_frC frA D7 nG
    refine ⟨.int cn, rfl, cn, rfl, by omega, by omega, ?_⟩
    refine for_range (lo := 0) (n := (cn : Int).toNat) (fun i σ H' => ∃ y6, σ = [some (.ref d), some (.int g), some (.int near), some (.int m), some (.int cn), some (.ref G), y6] ∧ DeckC H' d l (n + 5 + 12 * i) ∧ Fr d l H H' ∧ ∃ acc gs, H' G = some (.lst acc) ∧ TkAll H' acc (gs.map gD) ∧ gs.length = i ∧ NetOk m gs)
      ⟨_, rfl, (D7.same (same_upd nG)).mono (by omega), frA.trans (Fr.new nG), [], [], upd_same, .nil, rfl, fun k g e => by simp at e⟩ ?_ ?_
    · rintro i σ H6 hi ⟨y6, rfl, D6, fr6, acc, gs, hG, tg, lg, ok⟩
      have hi' : i < cn := by simpa using hi
      have ew : (m : Int) + (0 + (i : Int)) = ((m + i : Nat) : Int) := by push_cast; omega
      refine ⟨.ref G, rfl, .inl ⟨rfl, _, SqL.of hG⟩, .ref d, rfl, .int m, rfl, .int (0 + (i : Int)), rfl, _, _, rfl, rfl, .int near, rfl, d, l, _, m + i, near, by rw [← ew]; rfl, D6, by omega, by omega, by omega, near1, fun r H7 gt D7 fr7 tr okg => ?_⟩
      have hG7 := fr7 _ _ oG.1 oG.2 hG
      refine ⟨G, _, _, rfl, rfl, hG7, ?_, ?_⟩
      · have := tg.length
        rw [List.length_map, lg] at this
        exact Nat.lt_of_lt_of_le (show acc.length < 200 by omega) (by decide)
      · refine ⟨_, rfl, (D7.upd oG.1 oG.2).mono (by push_cast; omega), Fr.upd (fr6.trans fr7) nG0, _, gs ++ [gt], upd_same, ?_, by rw [List.length_append, lg]; rfl, ok.snoc (by rw [lg]; exact okg)⟩
        rw [List.map_append]
        exact (tg.ts ((Ts.frC D6 fr7).trans (Ts.set hG7)) (noL_gates gs)).append (.cons (tr.ts (Ts.set hG7) (noL_gate _)) .nil)
    · rintro σ H6 ⟨y6, rfl, D6, fr6, acc, gs, hG, tg, lg, ok⟩
      have lg' : gs.length = cn := by rw [lg]; simp
      refine ⟨.int m, rfl, .ref G, rfl, G, _, rfl, .inl ⟨SqL.of hG, fun tq ntq => ⟨sl2, fun r nr => ?_⟩⟩⟩
      have s2 := (same_upd (o := HO.tup acc) ntq).trans (same_upd (o := HO.tup [V.int m, .ref tq]) nr)
      refine q r _ m gs ((D6.same s2).mono (by
        have : ((cn : Int).toNat : Int) ≤ 120 := by omega
        omega)) (fr6.trans (Fr.of s2)) ?_ m1 m6 (by omega) (by omega) ok
      exact .tup upd_same (.cons (.int _) (.cons (.tup (same_upd nr _ _ upd_same) (tg.same s2)) .nil))

def sp_show (K : PySem.W.Frag) : Sp := fun vs H Q _ => ∃ (nv : V) (m : Nat) (gs : List Gt), vs = [nv] ∧ Tk H nv (netD m gs) ∧ 1 ≤ m ∧ m ≤ 6 ∧ gs.length ≤ 300 ∧ NetOk m gs ∧ ∀ H', Same H H' → Q (.str (SX.S (netL m gs))) H'
theorem ok_shown (T : Tx K mg) : FnOk P w K mg base CX0 1 T.f_shown T.fd_shown ["_law_net_here"] (sp_show K) := by
  refine T.F_shown.ok sc_shown (fun vs H Q E h => ?_) (fun cdv A outer s H vs Q E hr h => ?_)
  · obtain ⟨nv, m, gs, rfl, _⟩ := h
    rfl
  · obtain ⟨nv, m, gs, rfl, tn, m1, m6, l3, ok, q⟩ := h
    refine ⟨_, (pss_cons (ps_set (i := 1) sc_shown.nd rfl (by first | exact .inl rfl | exact .inr rfl) (pe_lst (pa_cons (pe_op op_add_str pe_str (pe_callTy call_str_int (by rfl) T.m_str (by decide +kernel) (pa_cons (pe_ix ix_tup (pv 0) pe_int (fun _ _ => rfl)) pa_nil))) pa_nil))) (pss_cons (ps_for PassesOwn.never rfl (pi_tup (pe_ix ix_tup (pv 0) pe_int (fun _ _ => rfl))) (pg_tup rfl (pgs_cons (pg_name (i := 2) sc_shown.nd rfl (by first | exact .inl rfl | exact .inr rfl)) (pgs_cons (pg_name (i := 3) sc_shown.nd rfl (by first | exact .inl rfl | exact .inr rfl)) pgs_nil))) (pss_cons (ps_set (i := 4) sc_shown.nd rfl (by first | exact .inl rfl | exact .inr rfl) (pv 2)) (pss_cons (ps_for PassesOwn.never rfl (pi_tup (pv 3)) (pg_name (i := 5) sc_shown.nd rfl (by first | exact .inl rfl | exact .inr rfl)) (pss_one (ps_set (i := 4) sc_shown.nd rfl (by first | exact .inl rfl | exact .inr rfl) (pe_op op_add_str (pe_op op_add_str (pv 4) pe_str) (pe_callTy call_str_int (by rfl) T.m_str (by decide +kernel) (pa_cons (pv 5) pa_nil)))))) (pss_one (ps_expr (pe_bm PySem.F.plainAttrs_list PySem.F.slot_list_append PySem.F.type_list_append mt_append (pv 1) (pa_cons (pv 4) pa_nil))))))) (pss_one (ps_ret (pe_join pe_str (pv 1)))))), ?_⟩
    have gS := netS ok m6 (by omega)
    obtain ⟨n, g, xs, rfl, hn, hg, tg⟩ := tn.net_inv
    have xl : xs.length = gs.length := by rw [tg.length, List.length_map]
    have dl := (dig_ok (n := m) (by omega)).2.1
    have i7 : inpL.length = 7 := rfl
    refine ⟨.ref n, rfl, n, _, 0, .int m, rfl, rfl, SqT.of hn, rfl, (m : Int), rfl, log_dig m (by omega), Str.ofString "inputs ", _, rfl, rfl, ?_, sl1, fun R nR => ?_⟩
    · rw [dig_S m, inp_S, SX.S_len, SX.S_len]
      exact Nat.le_trans (show _ ≤ 20 by omega) (by decide)
    rw [dig_S m, inp_S, SX.S_cat]
    have s1 := same_upd (o := HO.lst [V.str (SX.S (inpL ++ dig m))]) nR
    refine ⟨.ref n, rfl, n, _, 1, .ref g, rfl, rfl, SqT.of (s1 _ _ hn), rfl, g, rfl, ⟨_, SqT.of (s1 _ _ hg)⟩, ?_⟩
    refine for_tup (K := K) (a := g) (xs := xs) (fun j σ H' => ∃ y2 y3 y4 y5, σ = [some (.ref n), some (.ref R), y2, y3, y4, y5] ∧ Same H (hd1 R H') ∧ H' R = some (.lst (List.map V.str (SX.S (inpL ++ dig m) :: ((gs.take j).map lineL).map SX.S))))
      ⟨_, _, _, _, rfl, hd1_of s1 nR, upd_same⟩ (fun j σ H' _ ⟨_, _, _, _, _, hP, _⟩ => SqT.of (hd1_le _ _ (hP _ _ hg))) ?_ ?_
    · rintro j vv σ H2 hv ⟨y2, y3, y4, y5, rfl, s2, hR⟩
      have s12 : Same H H2 := fun b o e => hd1_le _ _ (s2 _ _ e)
      obtain ⟨gt, hgt, tgt⟩ := tg.at hv
      have hgl := (List.getElem?_eq_some_iff.mp hgt).1
      have gtS := gS gt (List.mem_of_getElem? hgt)
      obtain ⟨ga, ii, rfl, hga, hii⟩ := (tgt.same s12).gt_inv
      refine ⟨ga, _, rfl, SqT.of hga, rfl, _, _, rfl, _, _, rfl, rfl, ?_⟩
      refine ⟨.str (tabOf gt.1), rfl, .ref ii, rfl, ii, rfl, ⟨_, SqT.of hii⟩, ?_⟩
      have g3 := gtS.2.1
      refine for_tup (K := K) (a := ii) (xs := (gt.2.map Int.ofNat).map V.int) (fun k σ H' => ∃ y5, σ = [some (.ref n), some (.ref R), some (.str (tabOf gt.1)), some (.ref ii), some (.str (SX.S (TL.joinL [32] (gt.1.map sgn :: (gt.2.take k).map dig)))), y5] ∧ H' = H2) ⟨_, rfl, rfl⟩ (fun k σ H' _ ⟨_, _, e⟩ => by rw [e]; exact SqT.of hii) ?_ ?_
      · rintro k x σ H3 hx ⟨y5', rfl, rfl⟩
        rw [List.getElem?_map, List.getElem?_map] at hx
        cases hj : gt.2[k]? with
        | none => rw [hj] at hx; cases hx
        | some wn =>
          rw [hj] at hx
          cases Option.some.inj hx
          have hkl := (List.getElem?_eq_some_iff.mp hj).1
          have hw := gtS.2.2 wn (List.mem_of_getElem? hj)
          have tS : GtS (gt.1, gt.2.take k) := ⟨gtS.1, by show (gt.2.take k).length ≤ 3; rw [List.length_take]; omega, fun i hi => gtS.2.2 i (List.mem_of_mem_take hi)⟩
          have ll : (TL.joinL [32] (gt.1.map sgn :: (gt.2.take k).map dig)).length ≤ 21 := line_len tS
          have wl := (dig_ok hw).2.1
          refine ⟨.str _, rfl, _, Str.ofString " ", rfl, rfl, ?_, .int (Int.ofNat wn), rfl, (wn : Int), rfl, log_dig wn hw, _, _, rfl, rfl, ?_, ?_⟩
          · rw [sp_S, SX.S_len, SX.S_len]
            exact Nat.le_trans (show _ ≤ 40 by simp only [List.length_cons, List.length_nil]; omega) (by decide)
          · rw [dig_S wn, sp_S, SX.S_cat, SX.S_len, SX.S_len, List.length_append]
            exact Nat.le_trans (show _ ≤ 40 by simp only [List.length_cons, List.length_nil]; omega) (by decide)
          · refine ⟨some (.int (Int.ofNat wn)), ?_, rfl⟩
            have e : (SX.S (TL.joinL [32] (gt.1.map sgn :: (gt.2.take k).map dig)) ++ Str.ofString " ") ++ (toString (wn : Int) : Str) = SX.S (TL.joinL [32] (gt.1.map sgn :: (gt.2.take (k + 1)).map dig)) := by
              rw [dig_S wn, sp_S, SX.S_cat, SX.S_cat, List.take_add_one, hj]
              show _ = SX.S (TL.joinL [32] (gt.1.map sgn :: ((gt.2.take k ++ [wn]).map dig)))
              rw [List.map_append, List.map_cons, List.map_nil, joinL_snoc, List.append_assoc]
              rfl
            show [_, _, _, _, some (V.str ((SX.S (TL.joinL [32] (gt.1.map sgn :: (gt.2.take k).map dig)) ++ Str.ofString " ") ++ (toString (wn : Int) : Str))), _] = _
            rw [e]
      · rintro σ H3 ⟨y5', rfl, rfl⟩
        rw [List.length_map, List.length_map, List.take_length]
        refine ⟨.ref R, rfl, .inl ⟨rfl, _, SqL.of hR⟩, .str _, rfl, R, _, _, rfl, rfl, hR, ?_, ?_⟩
        · rw [List.length_map, List.length_cons, List.length_map, List.length_map, List.length_take]
          exact Nat.lt_of_lt_of_le (show _ < 500 by omega) (by decide)
        · refine ⟨_, _, _, _, rfl, s2.trans hd1_upd, ?_⟩
          rw [upd_same, List.take_add_one, hgt]
          show _ = some (HO.lst (List.map V.str (SX.S (inpL ++ dig m) :: ((gs.take j ++ [gt]).map lineL).map SX.S)))
          rw [List.map_append, List.map_append, ← List.cons_append, List.map_append]
          rfl
    · rintro σ H2 ⟨y2, y3, y4, y5, rfl, s2, hR⟩
      rw [xl, List.take_length] at hR
      refine ⟨⟨_, rfl⟩, .ref R, rfl, Str.ofString "\n", R, SX.S (inpL ++ dig m) :: (gs.map lineL).map SX.S, rfl, rfl, .inl (SqL.of hR), net_parts_ok (by omega) gS (by omega), ?_⟩
      rw [net_join]
      exact q H2 fun b o e => hd1_le _ _ (s2 _ _ e)

end
end Gk

set_option Elab.async false
set_option linter.all false
set_option maxRecDepth 100000
set_option maxHeartbeats 1000000
set_option pp.maxSteps 1500
namespace Gk
open PySem PySem.Spec PyProof.Rows L2
def rRepS : V → V → Hp → VK → Prop := fun x y H Q => ∃ (z : Str) (n : Int), x = .str z ∧ y = .int n ∧ z.length ≤ 16 ∧ 0 ≤ n ∧ n ≤ 1048576 ∧ Q (.str (Txt.mul z n)) H
theorem op_repS {X : Cx} : OpR X (binaryOp .Mult) rRepS := by
  intro pins s σ H x y v u Q I rx ry h
  obtain ⟨i, j, rfl, rfl, h1, h2, h3, q⟩ := h
  obtain ⟨t, rfl⟩ := rx
  obtain ⟨t', rfl⟩ := ry
  exact SB.mul (mulOk_of 16 1048576 h1 h3 (by omega) (by decide) (by decide)) fun t' tk => ⟨.str _, H, I.tok _, ⟨_, rfl⟩, q⟩
def wt (ys : List Str) : Nat := (ys.map (·.length)).sum + ys.length
theorem wt_app (xs ys : List Str) : wt (xs ++ ys) = wt xs + wt ys := by
  unfold wt
  rw [List.map_append, List.sum_append, List.length_append]
  omega
theorem wt_cons (x : Str) (ys : List Str) : wt (x :: ys) = x.length + 1 + wt ys := by
  unfold wt
  rw [List.map_cons, List.sum_cons, List.length_cons]
  omega
theorem wt_nil : wt [] = 0 := rfl
theorem wt_take (k : Nat) (ys : List Str) : wt (ys.take k) ≤ wt ys := by
  have := wt_app (ys.take k) (ys.drop k)
  rw [List.take_append_drop] at this
  omega
theorem wt_drop (k : Nat) (ys : List Str) : wt (ys.drop k) ≤ wt ys := by
  have := wt_app (ys.take k) (ys.drop k)
  rw [List.take_append_drop] at this
  omega
theorem cutV_str (ys : List Str) (lo hi : Option Int) : ∃ zs : List Str, cutV (ys.map V.str) lo hi = zs.map V.str ∧ wt zs ≤ wt ys := by
  unfold cutV
  rw [← List.map_drop, ← List.map_take]
  exact ⟨_, rfl, Nat.le_trans (wt_take _ _) (wt_drop _ _)⟩
theorem wt_split (z y : Str) (h : 1 ≤ y.length) : wt (Txt.split z y) ≤ z.length + 1 := split_weight z y h
theorem wt_at {ys : List Str} {k : Nat} {x : Str} (h : ys[k]? = some x) : x.length + 1 ≤ wt ys := by
  have e : ys = ys.take k ++ x :: ys.drop (k + 1) := by
    obtain ⟨hk, he⟩ := List.getElem?_eq_some_iff.mp h
    rw [← he, List.getElem_cons_drop, List.take_append_drop]
  rw [e, wt_app, wt_cons]
  omega
theorem wt_join (sep : Str) (hs : sep.length = 1) (ys : List Str) : (Txt.join sep ys).length ≤ wt ys := by
  rw [TL.join_eq]
  cases ys with
  | nil => exact Nat.zero_le _
  | cons a r =>
    rw [len_join_cons, hs]
    unfold wt
    rw [List.length_cons]
    omega
theorem wt_fit (sep : Str) (hs : sep.length = 1) (ys : List Str) (h : wt ys ≤ 1000000) : (ys.map (·.length)).sum + ys.length * sep.length ≤ 16777216 := by
  rw [hs]
  unfold wt at h
  omega
theorem at_some {xs : List V} {j : Int} (h0 : 0 ≤ j) (h1 : j < xs.length) : ∃ (k : Nat) (x : V), k < xs.length ∧ xs[k]? = some x ∧ atI xs j = some x ∧ ixN xs.length j = some k ∧ j = (k : Int) := by
  obtain ⟨k, rfl⟩ : ∃ k : Nat, j = (k : Int) := ⟨j.toNat, (Int.toNat_of_nonneg h0).symm⟩
  have hk : k < xs.length := by omega
  refine ⟨k, xs[k], hk, List.getElem?_eq_getElem hk, atI_nat (List.getElem?_eq_getElem hk), ?_, rfl⟩
  unfold ixN
  rw [if_pos h0, if_pos h1]
  rfl
/-- a list of texts of some weight -/
def LT (H : Hp) (p : Addr) (W : Nat) : Prop := ∃ zs : List Str, H p = some (.lst (zs.map V.str)) ∧ wt zs ≤ W
theorem LT.same {H H' : Hp} {p : Addr} {W : Nat} (h : LT H p W) (s : Same H H') : LT H' p W := by
  obtain ⟨zs, h1, h2⟩ := h
  exact ⟨zs, s _ _ h1, h2⟩
theorem LT.fr {H H' : Hp} {p d l : Addr} {W : Nat} (h : LT H p W) (f : Fr d l H H') (o : p ≠ d ∧ p ≠ l) : LT H' p W := by
  obtain ⟨zs, h1, h2⟩ := h
  exact ⟨zs, f _ _ o.1 o.2 h1, h2⟩
theorem slL {K : PySem.W.Frag} {a : Addr} {W : Nat} {lo hi : Option Int} {H : Hp} {Q : VK} (h : LT H a W) (q : ∀ p H', H p = none → Same H H' → LT H' p W → Q (.ref p) H') : rSlL K (.ref a) lo hi H Q := by
  obtain ⟨zs, h1, h2⟩ := h
  obtain ⟨ys, e, hw⟩ := cutV_str zs lo hi
  refine ⟨a, _, rfl, SqL.of h1, fun p np => q p _ np (same_upd np) ⟨ys, ?_, Nat.le_trans hw h2⟩⟩
  rw [upd_same, e]
theorem slLn {K : PySem.W.Frag} {a : Addr} {W : Nat} {lo : Option Int} {H : Hp} {Q : VK} {σ : L2.St} (h : LT H a W) (q : ∀ p H', H p = none → Same H H' → LT H' p W → Q (.ref p) H') : tNoPart σ H (fun u H3 => rSlL K (.ref a) lo u H3 Q) := slL h q
theorem catL {a b : Addr} {W1 W2 : Nat} {H : Hp} {Q : VK} (ha : LT H a W1) (hb : LT H b W2) (hw : W1 + W2 ≤ 1000000) (q : ∀ p H', H p = none → Same H H' → LT H' p (W1 + W2) → Q (.ref p) H') : rCat (.ref a) (.ref b) H Q := by
  obtain ⟨xs, h1, w1⟩ := ha
  obtain ⟨ys, h2, w2⟩ := hb
  refine ⟨a, b, _, _, rfl, rfl, h1, h2, ?_, fun p np => q p _ np (same_upd np) ⟨xs ++ ys, ?_, by rw [wt_app]; omega⟩⟩
  · rw [List.length_map, List.length_map]
    unfold wt at w1 w2
    exact Nat.le_trans (show xs.length + ys.length ≤ 1000000 by omega) (by decide)
  · rw [upd_same, List.map_append]
def moreL : List Str := [Str.ofString "7", Str.ofString "0", Str.ofString "6", Str.ofString "46", Str.ofString "10", Str.ofString "01", Str.ofString "0001", Str.ofString "00010111", Txt.mul (Str.ofString "1") 40, Str.ofString "one", Str.ofString "input"]
theorem more_len : ∀ y ∈ moreL, y.length ≤ 40 := by decide +kernel
theorem more_at (x : Int) (x0 : 0 ≤ x) (x1 : x < 11) : ∃ y : Str, atI (moreL.map V.str) x = some (.str y) ∧ y.length ≤ 40 := by
  obtain ⟨v, h1, h2⟩ := at_pick (xs := moreL.map V.str) x0 (by exact x1)
  obtain ⟨y, hy, rfl⟩ := List.mem_map.mp h2
  exact ⟨y, h1, more_len y hy⟩
section
variable {P : Program} {w : World} {K : PySem.W.Frag} {mg : Str → Option Value} {base : Heap}
def sp_bent (K : PySem.W.Frag) : Sp := fun vs H Q _ => ∃ (d l : Addr) (n : Int) (z : Str) (N : Nat), vs = [.ref d, .str z] ∧ DeckC H d l n ∧ n < 900000 ∧ z.length ≤ N ∧ N ≤ 20000 ∧ ∀ H' y, DeckC H' d l (n + 8) → Fr d l H H' → y.length ≤ 6 * N + 60 → Q (.str y) H'
theorem ok_bent (T : Tx K mg) : FnOk P w K mg base CX0 3 T.f_bent T.fd_bent ["_law_deck_here", "_law_text"] (sp_bent K) := by
  refine T.F_bent.ok sc_bent (fun vs H Q E h => ?_) (fun cdv A outer s H vs Q E hr h => ?_)
  · obtain ⟨d, l, n, z, N, rfl, _⟩ := h
    rfl
  · obtain ⟨d, l, n, z, N, rfl, D, hn, hz, hN, q⟩ := h
    refine ⟨_, (pss_cons (ps_set (i := 2) sc_bent.nd rfl (by first | exact .inl rfl | exact .inr rfl) (pe_call (ok_take T) (hr.mono (by decide)) (by rfl) T.g_take T.F_take.kp T.b_take .nil pass0 (pa_cons (pv 0) (pa_cons pe_int pa_nil)))) (pss_cons (ps_set (i := 3) sc_bent.nd rfl (by first | exact .inl rfl | exact .inr rfl) pe_str) (pss_cons (ps_set (i := 4) sc_bent.nd rfl (by first | exact .inl rfl | exact .inr rfl) (pe_item_str (pe_op op_add_str (pv 3) pe_str) (pe_call (ok_take T) (hr.mono (by decide)) (by rfl) T.g_take T.F_take.kp T.b_take .nil pass0 (pa_cons (pv 0) (pa_cons (pe_op op_add (pe_callB call_len_str (by rfl) T.m_len PySem.boot_len (pa_cons (pv 3) pa_nil)) pe_int) pa_nil))) (fun _ _ => rfl))) (pss_cons (ps_set (i := 5) sc_bent.nd rfl (by first | exact .inl rfl | exact .inr rfl) (pe_call (ok_take T) (hr.mono (by decide)) (by rfl) T.g_take T.F_take.kp T.b_take .nil pass0 (pa_cons (pv 0) (pa_cons (pe_op op_add (pe_callB call_len_str (by rfl) T.m_len PySem.boot_len (pa_cons (pv 1) pa_nil)) pe_int) pa_nil)))) (pss_cons (ps_if (pt_cmpR op_lt (pv 2) pe_int (nomark _)) (pss_one (ps_ret (pe_op op_add_str (pe_op op_add_str (pe_slice sl_str (pv 1) po_none (po_some (pv 5))) (pe_op op_repS (pv 4) (pe_callTy call_int1 (by rfl) T.m_int (by decide +kernel) (pa_cons (pe_cmpR op_ne (pv 2) pe_int (nomark _)) pa_nil)))) (pe_slice sl_str (pv 1) (po_some (pe_op op_add (pv 5) (pe_callTy call_int1 (by rfl) T.m_int (by decide +kernel) (pa_cons (pe_cmpR op_gt (pv 2) pe_int (nomark _)) pa_nil)))) po_none)))) pss_nil) (pss_cons (ps_if (pt_cmpR op_eq (pv 2) pe_int (nomark _)) (pss_cons (ps_set (i := 6) sc_bent.nd rfl (by first | exact .inl rfl | exact .inr rfl) (pe_lst (pa_cons (pe_op op_add_str (pv 1) pe_str) (pa_cons (pe_op op_add_str pe_str (pv 1)) (pa_cons (pe_op op_add_str (pv 1) pe_str) (pa_cons (pe_op op_add_str pe_str (pv 1)) pa_nil)))))) (pss_one (ps_ret (pe_ix ix_list (pe_op op_cat (pv 6) (pe_lst (pa_cons (pe_bm0 PySem.F.plainAttrs_str PySem.F.slot_str_upper PySem.F.type_str_upper mt_upper (pv 1)) (pa_cons (pe_op op_add_str (pe_op op_add_str (pv 1) pe_str) (pv 1)) pa_nil)))) (pe_call (ok_take T) (hr.mono (by decide)) (by rfl) T.g_take T.F_take.kp T.b_take .nil pass0 (pa_cons (pv 0) (pa_cons pe_int pa_nil))) (fun _ _ => rfl))))) pss_nil) (pss_cons (ps_set (i := 7) sc_bent.nd rfl (by first | exact .inl rfl | exact .inr rfl) (pe_bm PySem.F.plainAttrs_str PySem.F.slot_str_split PySem.F.type_str_split mt_split (pv 1) (pa_cons pe_str pa_nil))) (pss_cons (ps_set (i := 8) sc_bent.nd rfl (by first | exact .inl rfl | exact .inr rfl) (pe_call (ok_take T) (hr.mono (by decide)) (by rfl) T.g_take T.F_take.kp T.b_take .nil pass0 (pa_cons (pv 0) (pa_cons (pe_callB call_len_seq (by rfl) T.m_len PySem.boot_len (pa_cons (pv 7) pa_nil)) pa_nil)))) (pss_cons (ps_if (pt_cmpR op_lt (pv 2) pe_int (nomark _)) (pss_cons (ps_set (i := 9) sc_bent.nd rfl (by first | exact .inl rfl | exact .inr rfl) (pe_call (ok_take T) (hr.mono (by decide)) (by rfl) T.g_take T.F_take.kp T.b_take .nil pass0 (pa_cons (pv 0) (pa_cons (pe_callB call_len_seq (by rfl) T.m_len PySem.boot_len (pa_cons (pv 7) pa_nil)) pa_nil)))) (pss_cons (ps_set (i := 6) sc_bent.nd rfl (by first | exact .inl rfl | exact .inr rfl) (pe_lst (pa_cons (pe_op op_cat (pe_slice sl_list (pv 7) po_none (po_some (pv 8))) (pe_slice sl_list (pv 7) (po_some (pe_op op_add (pv 8) pe_int)) po_none)) (pa_cons (pe_op op_cat (pe_slice sl_list (pv 7) po_none (po_some (pe_op op_add (pv 8) pe_int))) (pe_slice sl_list (pv 7) (po_some (pv 8)) po_none)) (pa_cons (pe_op op_cat (pe_op op_cat (pe_slice sl_list (pv 7) po_none (po_some (pv 8))) (pe_lst (pa_cons (pe_ix ix_list (pv 7) (pv 9) (fun _ _ => rfl)) pa_nil))) (pe_slice sl_list (pv 7) (po_some (pe_op op_add (pv 8) pe_int)) po_none)) pa_nil))))) (pss_one (ps_ret (pe_join pe_str (pe_ix ix_list (pv 6) (pe_call (ok_take T) (hr.mono (by decide)) (by rfl) T.g_take T.F_take.kp T.b_take .nil pass0 (pa_cons (pv 0) (pa_cons pe_int pa_nil))) (fun _ _ => rfl))))))) pss_nil) (pss_cons (ps_set (i := 10) sc_bent.nd rfl (by first | exact .inl rfl | exact .inr rfl) (pe_bm PySem.F.plainAttrs_str PySem.F.slot_str_split PySem.F.type_str_split mt_split (pe_ix ix_list (pv 7) (pv 8) (fun _ _ => rfl)) (pa_cons pe_str pa_nil))) (pss_cons (ps_set (i := 11) sc_bent.nd rfl (by first | exact .inl rfl | exact .inr rfl) (pe_call (ok_take T) (hr.mono (by decide)) (by rfl) T.g_take T.F_take.kp T.b_take .nil pass0 (pa_cons (pv 0) (pa_cons (pe_callB call_len_seq (by rfl) T.m_len PySem.boot_len (pa_cons (pv 10) pa_nil)) pa_nil)))) (pss_cons (ps_set (i := 12) sc_bent.nd rfl (by first | exact .inl rfl | exact .inr rfl) (pe_ix ix_list (pv 10) (pv 11) (fun _ _ => rfl))) (pss_cons (ps_set (i := 6) sc_bent.nd rfl (by first | exact .inl rfl | exact .inr rfl) (pe_lst (pa_cons (pe_lst pa_nil) (pa_cons (pe_lst (pa_cons (pv 12) (pa_cons (pv 12) pa_nil))) (pa_cons (pe_lst (pa_cons (pe_op op_add_str pe_str (pv 12)) pa_nil)) (pa_cons (pe_lst (pa_cons (pe_op op_add_str pe_str (pv 12)) pa_nil)) (pa_cons (pe_lst (pa_cons (pe_op op_add_str pe_str (pv 12)) pa_nil)) (pa_cons (pe_lst (pa_cons pe_str (pa_cons (pv 12) pa_nil))) (pa_cons (pe_lst (pa_cons (pe_op op_add_str (pv 12) pe_str) pa_nil)) (pa_cons (pe_lst (pa_cons (pe_slice sl_str (pv 12) po_none (po_some (pe_un un_neg pe_int))) pa_nil)) pa_nil)))))))))) (pss_cons (ps_set (i := 13) sc_bent.nd rfl (by first | exact .inl rfl | exact .inr rfl) (pe_lst (pa_cons pe_str (pa_cons pe_str (pa_cons pe_str (pa_cons pe_str (pa_cons pe_str (pa_cons pe_str (pa_cons pe_str (pa_cons pe_str (pa_cons (pe_op op_repS pe_str pe_int) (pa_cons pe_str (pa_cons pe_str pa_nil))))))))))))) (pss_cons (ps_set (i := 14) sc_bent.nd rfl (by first | exact .inl rfl | exact .inr rfl) (pe_ix ix_list (pv 6) (pe_call (ok_take T) (hr.mono (by decide)) (by rfl) T.g_take T.F_take.kp T.b_take .nil pass0 (pa_cons (pv 0) (pa_cons pe_int pa_nil))) (fun _ _ => rfl))) (C8.pss_cut (ps_if (pt_cmpR op_gt (pv 2) pe_int (nomark _)) (pss_one (ps_set (i := 14) sc_bent.nd rfl (by first | exact .inl rfl | exact .inr rfl) (pe_lst (pa_cons (pe_ix ix_list (pv 13) (pe_call (ok_take T) (hr.mono (by decide)) (by rfl) T.g_take T.F_take.kp T.b_take .nil pass0 (pa_cons (pv 0) (pa_cons pe_int pa_nil))) (fun _ _ => rfl)) pa_nil)))) pss_nil) (pss_cons (ps_set (i := 15) sc_bent.nd rfl (by first | exact .inl rfl | exact .inr rfl) (pe_join pe_str (pe_op op_cat (pe_op op_cat (pe_slice sl_list (pv 10) po_none (po_some (pv 11))) (pv 14)) (pe_slice sl_list (pv 10) (po_some (pe_op op_add (pv 11) pe_int)) po_none)))) (pss_one (ps_ret (pe_join pe_str (pe_op op_cat (pe_op op_cat (pe_slice sl_list (pv 7) po_none (po_some (pv 8))) (pe_lst (pa_cons (pv 15) pa_nil))) (pe_slice sl_list (pv 7) (po_some (pe_op op_add (pv 8) pe_int)) po_none)))))))))))))))))))))), ?_⟩
    have zf : z.length ≤ sizeLine := Nat.le_trans hz (Nat.le_trans hN (by decide))
    refine ⟨.ref d, rfl, d, l, 12, n, rfl, D, by omega, by decide, by decide, fun H1 way D1 f1 w0 w1 => ?_⟩
    refine ⟨.str _, rfl, _, _, rfl, rfl, by decide +kernel, .ref d, rfl, .str _, rfl, _, rfl, by decide +kernel, _, _, rfl, rfl, d, l, _, n + 1, rfl, D1, by omega, by decide +kernel, by decide +kernel, fun H2 v D2 f2 v0 v1 => ?_⟩
    refine ⟨_, v, _, rfl, rfl, v0, Int.lt_of_lt_of_le v1 (by decide +kernel), Int.lt_of_lt_of_le v1 (by decide +kernel), Array.getElem?_eq_getElem ((Int.toNat_lt v0).mpr (Int.lt_of_lt_of_le v1 (by decide +kernel))), ?_⟩
    generalize hsg : (Str.mk #[_] : Str) = sg
    have lsg : sg.length = 1 := by rw [← hsg]; rfl
    clear hsg
    refine ⟨.ref d, rfl, .str z, rfl, z, rfl, zf, _, _, rfl, rfl, d, l, _, n + 1 + 1, rfl, D2, by omega, by omega, by omega, fun H3 at_ D3 f3 a0 a1 => ?_⟩
    have f13 := (f1.trans f2).trans f3
    have D3' : DeckC H3 d l (n + 8) := D3.mono (by omega)
    refine ⟨.int way, rfl, way, 5, rfl, rfl, _, rfl, ite2 (fun _ => ?_) (fun _ => ?_)⟩
    · refine ⟨.str z, rfl, .int at_, rfl, at_, rfl, z, rfl, zf, .str sg, rfl, .int way, rfl, rfl, .inr ⟨_, rfl, sg, _, rfl, rfl, by omega, ?_, ?_, ?_⟩⟩
      · split <;> decide
      · split <;> decide
      have lm : ∀ b : Bool, (Txt.mul sg (if b = true then 1 else 0)).length ≤ 1 := fun b => by
        have := len_mul sg (if b = true then 1 else 0)
        rw [lsg] at this
        cases b
        · simp at this ⊢; omega
        · simp at this ⊢; omega
      have lc := cutS_length z none (some at_)
      refine ⟨_, _, rfl, rfl, ?_, .str z, rfl, .int at_, rfl, .int way, rfl, way, 1, rfl, rfl, .inr ⟨_, rfl, _, _, rfl, rfl, _, rfl, z, rfl, zf, _, _, rfl, rfl, ?_, ?_⟩⟩
      · exact Nat.le_trans (Nat.add_le_add (Nat.le_trans lc (Nat.le_trans hz hN)) (lm _)) (by decide)
      · rw [Str.length_append]
        have l2 := cutS_length z (some (at_ + if decide (way > 1) = true then 1 else 0)) none
        exact Nat.le_trans (Nat.add_le_add (Nat.add_le_add (Nat.le_trans lc (Nat.le_trans hz hN)) (lm _)) (Nat.le_trans (cutS_length z _ _) (Nat.le_trans hz hN))) (by decide)
      · refine q _ _ D3' f13 ?_
        rw [Str.length_append, Str.length_append]
        exact Nat.le_trans (Nat.add_le_add (Nat.add_le_add (Nat.le_trans lc hz) (lm _)) (Nat.le_trans (cutS_length z _ _) hz)) (by omega)
    have l1n : (Str.ofString "\n").length = 1 := by decide +kernel
    have l1s : (Str.ofString " ").length = 1 := by decide +kernel
    refine ⟨.int way, rfl, rfl, _, rfl, ite2 (fun _ => ?_) (fun _ => ?_)⟩
    · have lu := len_upper z
      have fA : ∀ x : Str, x.length = 1 → z.length + x.length ≤ sizeLine := fun x hx => Nat.le_trans (show z.length + x.length ≤ 200000 by omega) (by decide)
      have fB : ∀ x : Str, x.length = 1 → x.length + z.length ≤ sizeLine := fun x hx => Nat.le_trans (show x.length + z.length ≤ 200000 by omega) (by decide)
      refine ⟨.str z, rfl, _, _, rfl, rfl, fA _ l1n, .str z, rfl, _, _, rfl, rfl, fB _ l1n, .str z, rfl, _, _, rfl, rfl, fA _ l1s, .str z, rfl, _, _, rfl, rfl, fB _ l1s, by show 4 ≤ sizeLine; decide, fun p1 n1 => ?_⟩
      refine ⟨.ref p1, rfl, .str z, rfl, rfl, z, rfl, rfl, by omega, .str z, rfl, _, _, rfl, rfl, fA _ l1n, .str z, rfl, _, _, rfl, rfl, ?_, sl2, fun p2 n2 => ?_⟩
      · rw [Str.length_append]
        exact Nat.le_trans (show z.length + (Str.ofString "\n").length + z.length ≤ 300000 by omega) (by decide)
      refine ⟨p1, p2, _, _, rfl, rfl, same_upd n2 _ _ upd_same, upd_same, by show 6 ≤ sizeLine; decide, fun p3 n3 => ?_⟩
      have sA := ((same_upd (o := .lst [.str (z ++ Str.ofString "\n"), .str (Str.ofString "\n" ++ z), .str (z ++ Str.ofString " "), .str (Str.ofString " " ++ z)]) n1).trans (same_upd (o := .lst [.str (Txt.upper z), .str (z ++ Str.ofString "\n" ++ z)]) n2)).trans (same_upd (o := .lst ([.str (z ++ Str.ofString "\n"), .str (Str.ofString "\n" ++ z), .str (z ++ Str.ofString " "), .str (Str.ofString " " ++ z)] ++ [.str (Txt.upper z), .str (z ++ Str.ofString "\n" ++ z)])) n3)
      refine ⟨.ref d, rfl, d, l, 6, n + 1 + 1 + 1, rfl, D3.same sA, by omega, by decide, by decide, fun H4 x D4 f4 x0 x1 => ?_⟩
      have o3 := (D3.same ((same_upd n1).trans (same_upd n2))).off n3
      have h4 := f4 _ _ o3.1 o3.2 upd_same
      have pick : ∃ y : Str, atI ([V.str (z ++ Str.ofString "\n"), .str (Str.ofString "\n" ++ z), .str (z ++ Str.ofString " "), .str (Str.ofString " " ++ z)] ++ [.str (Txt.upper z), .str (z ++ Str.ofString "\n" ++ z)]) x = some (.str y) ∧ y.length ≤ 6 * N + 60 := by
        have : x = 0 ∨ x = 1 ∨ x = 2 ∨ x = 3 ∨ x = 4 ∨ x = 5 := by omega
        rcases this with rfl | rfl | rfl | rfl | rfl | rfl
        · exact ⟨_, rfl, by rw [Str.length_append]; omega⟩
        · exact ⟨_, rfl, by rw [Str.length_append]; omega⟩
        · exact ⟨_, rfl, by rw [Str.length_append]; omega⟩
        · exact ⟨_, rfl, by rw [Str.length_append]; omega⟩
        · exact ⟨_, rfl, by omega⟩
        · exact ⟨_, rfl, by rw [Str.length_append, Str.length_append]; omega⟩
      obtain ⟨y, hy, ly⟩ := pick
      exact ⟨p3, _, _, .str y, rfl, rfl, SqL.of h4, hy, q _ _ (D4.mono (by omega)) (f13.trans ((Fr.of sA).trans f4)) ly⟩
    · refine ⟨.str z, rfl, rfl, z, _, rfl, rfl, by decide +kernel, Nat.le_trans (show z.length + 2 ≤ 200000 by omega) (by decide), fun p4 n4 => ?_⟩
      have w4 : wt (Txt.split z (Str.ofString "\n")) ≤ N + 1 := Nat.le_trans (wt_split z _ (by rw [l1n]; exact Nat.le_refl 1)) (by omega)
      have sp := split_pos z (Str.ofString "\n")
      have o4 := D3.off n4
      have s4 := same_upd (o := .lst ((Txt.split z (Str.ofString "\n")).map V.str)) n4
      have h4 := upd_same (H := H3) (a := p4) (o := .lst ((Txt.split z (Str.ofString "\n")).map V.str))
      generalize upd H3 p4 (.lst ((Txt.split z (Str.ofString "\n")).map V.str)) = H4 at s4 h4 ⊢
      generalize Txt.split z (Str.ofString "\n") = ls at w4 sp h4
      have D4 := D3.same s4
      have ll : ls.length ≤ 20001 := by unfold wt at w4; omega
      refine ⟨.ref d, rfl, .ref p4, rfl, p4, _, rfl, .inl (SqL.of h4), d, l, _, n + 1 + 1 + 1, rfl, D4, by omega, by rw [List.length_map]; omega, by rw [List.length_map]; omega, fun H5 k D5 f5 k0 k1 => ?_⟩
      rw [List.length_map] at k1
      have h5 := f5 _ _ o4.1 o4.2 h4
      have f15 := f13.trans ((Fr.of s4).trans f5)
      have L5 : LT H5 p4 (N + 1) := ⟨ls, h5, w4⟩
      refine ⟨.int way, rfl, way, 8, rfl, rfl, _, rfl, ite2 (fun _ => ?_) (fun _ => ?_)⟩
      · refine ⟨.ref d, rfl, .ref p4, rfl, p4, _, rfl, .inl (SqL.of h5), d, l, _, n + 1 + 1 + 1 + 1, rfl, D5, by omega, by rw [List.length_map]; omega, by rw [List.length_map]; omega, fun H6 ot D6 f6 o0 o1 => ?_⟩
        rw [List.length_map] at o1
        have h6 := f6 _ _ o4.1 o4.2 h5
        have L6 : LT H6 p4 (N + 1) := ⟨ls, h6, w4⟩
        have f16 := f15.trans f6
        refine ⟨.ref p4, rfl, .int k, rfl, k, rfl, slL L6 (fun pa Ha na sa La => ?_)⟩
        refine ⟨.ref p4, rfl, .int k, rfl, _, _, rfl, rfl, _, rfl, slLn (L6.same sa) (fun pb Hb nb sb Lb => catL (La.same sb) Lb (by omega) (fun p7 H7 n7 s7 L7 => ?_))⟩
        have t7 := (sa.trans sb).trans s7
        refine ⟨.ref p4, rfl, .int k, rfl, _, _, rfl, rfl, _, rfl, slL (L6.same t7) (fun pc Hc nc sc Lc => ?_)⟩
        refine ⟨.ref p4, rfl, .int k, rfl, k, rfl, slLn ((L6.same t7).same sc) (fun pd Hd nd sd Ld => catL (Lc.same sd) Ld (by omega) (fun p8 H8 n8 s8 L8 => ?_))⟩
        have t8 := (t7.trans (sc.trans sd)).trans s8
        obtain ⟨ko, xo, hko, hxo, hao, _, _⟩ := at_some (xs := ls.map V.str) o0 (by rw [List.length_map]; exact o1)
        obtain ⟨xt, hxt, rfl⟩ : ∃ y, ls[ko]? = some y ∧ xo = V.str y := by
          rw [List.getElem?_map] at hxo
          cases hq : ls[ko]? with
          | none => rw [hq] at hxo; cases hxo
          | some u => rw [hq] at hxo; exact ⟨u, rfl, (Option.some.inj hxo).symm⟩
        have wx := wt_at hxt
        refine ⟨.ref p4, rfl, .int k, rfl, k, rfl, slL (L6.same t8) (fun pe He ne se Le => ?_)⟩
        have t9 := t8.trans se
        refine ⟨.ref p4, rfl, .int ot, rfl, p4, _, _, .str xt, rfl, rfl, SqL.of (t9 _ _ h6), hao, sl1, fun pf nf => ?_⟩
        have sf := same_upd (o := .lst [V.str xt]) nf
        have Lf : LT (upd He pf (.lst [V.str xt])) pf (xt.length + 1) := ⟨[xt], upd_same, by rw [wt_cons, wt_nil]; omega⟩
        refine catL (Le.same sf) Lf (by omega) (fun pg Hg ng sg' Lg => ?_)
        have t10 := (t9.trans sf).trans sg'
        refine ⟨.ref p4, rfl, .int k, rfl, _, _, rfl, rfl, _, rfl, slLn (L6.same t10) (fun ph Hh nh sh Lh => catL (Lg.same sh) Lh (by omega) (fun p9 H9 n9 s9 L9 => ?_))⟩
        have t11 := (t10.trans sh).trans s9
        refine ⟨sl3, fun ps nps => ?_⟩
        have sS := same_upd (o := .lst [V.ref p7, .ref p8, .ref p9]) nps
        have t12 := t11.trans sS
        have hps := upd_same (H := H9) (a := ps) (o := .lst [V.ref p7, .ref p8, .ref p9])
        have o7 := (D6.same (sa.trans sb)).off n7
        have o8 := (D6.same (t7.trans (sc.trans sd))).off n8
        have o9 := (D6.same (t10.trans sh)).off n9
        have ops := (D6.same t11).off nps
        have u7 : Same H7 H9 := (((((sc.trans sd).trans s8).trans se).trans sf).trans sg').trans (sh.trans s9)
        have u8 : Same H8 H9 := ((se.trans sf).trans sg').trans (sh.trans s9)
        have M : ∀ x : Int, 0 ≤ x → x < 3 → ∃ pi, atI [V.ref p7, .ref p8, .ref p9] x = some (.ref pi) ∧ (pi ≠ d ∧ pi ≠ l) ∧ ∃ W, W ≤ 3 * N + 50 ∧ LT (upd H9 ps (.lst [V.ref p7, .ref p8, .ref p9])) pi W := fun x x0 x1 => by
          have : x = 0 ∨ x = 1 ∨ x = 2 := by omega
          rcases this with rfl | rfl | rfl
          · exact ⟨p7, rfl, o7, _, by omega, (L7.same u7).same sS⟩
          · exact ⟨p8, rfl, o8, _, by omega, (L8.same u8).same sS⟩
          · exact ⟨p9, rfl, o9, _, by omega, L9.same sS⟩
        refine ⟨⟨_, rfl⟩, .ref ps, rfl, .ref d, rfl, d, l, 3, n + 1 + 1 + 1 + 1 + 1, rfl, D6.same t12, by omega, by decide, by decide, fun Hx x Dx fx x0 x1 => ?_⟩
        obtain ⟨pi, hpi, opi, W, hW, LW⟩ := M x x0 x1
        obtain ⟨zs, hzs, wz⟩ := LW.fr fx opi
        refine ⟨ps, _, _, .ref pi, rfl, rfl, SqL.of (fx _ _ ops.1 ops.2 hps), hpi, _, pi, zs, rfl, rfl, .inl (SqL.of hzs), wt_fit _ l1n _ (by omega), ?_⟩
        exact q _ _ (Dx.mono (by omega)) (f16.trans ((Fr.of t12).trans fx)) (Nat.le_trans (wt_join _ l1n _) (by omega))
      · obtain ⟨kkn, xk0, kkh, kkx, hak, _, _⟩ := at_some (xs := ls.map V.str) k0 (by rw [List.length_map]; exact k1)
        obtain ⟨xk, kkx', rfl⟩ : ∃ y, ls[kkn]? = some y ∧ xk0 = V.str y := by
          rw [List.getElem?_map] at kkx
          cases hq : ls[kkn]? with
          | none => rw [hq] at kkx; cases kkx
          | some u => rw [hq] at kkx; exact ⟨u, rfl, (Option.some.inj kkx).symm⟩
        have wk := wt_at kkx'
        have lk : xk.length ≤ N := by omega
        refine ⟨.ref p4, rfl, .int k, rfl, p4, _, _, .str xk, rfl, rfl, SqL.of h5, hak, rfl, xk, _, rfl, rfl, by decide +kernel, Nat.le_trans (show xk.length + 2 ≤ 200000 by omega) (by decide), fun p6 n6 => ?_⟩
        have w6 : wt (Txt.split xk (Str.ofString " ")) ≤ N + 1 := Nat.le_trans (wt_split xk _ (by rw [l1s]; exact Nat.le_refl 1)) (by omega)
        have sp6 := split_pos xk (Str.ofString " ")
        have o6 := D5.off n6
        have s6 := same_upd (o := .lst ((Txt.split xk (Str.ofString " ")).map V.str)) n6
        have h6 := upd_same (H := H5) (a := p6) (o := .lst ((Txt.split xk (Str.ofString " ")).map V.str))
        generalize upd H5 p6 (.lst ((Txt.split xk (Str.ofString " ")).map V.str)) = H6 at s6 h6 ⊢
        generalize Txt.split xk (Str.ofString " ") = ws at w6 sp6 h6
        have D6 := D5.same s6
        have lw : ws.length ≤ 20001 := by unfold wt at w6; omega
        refine ⟨.ref d, rfl, .ref p6, rfl, p6, _, rfl, .inl (SqL.of h6), d, l, _, n + 1 + 1 + 1 + 1, rfl, D6, by omega, by rw [List.length_map]; omega, by rw [List.length_map]; omega, fun H7 j D7 f7 j0 j1 => ?_⟩
        rw [List.length_map] at j1
        have h7 := f7 _ _ o6.1 o6.2 h6
        have h7l := f7 _ _ o4.1 o4.2 (s6 _ _ h5)
        have f17 := f15.trans ((Fr.of s6).trans f7)
        obtain ⟨jjn, xw0, jjh, jjx, haj, _, _⟩ := at_some (xs := ws.map V.str) j0 (by rw [List.length_map]; exact j1)
        obtain ⟨xw, jjx', rfl⟩ : ∃ y, ws[jjn]? = some y ∧ xw0 = V.str y := by
          rw [List.getElem?_map] at jjx
          cases hq : ws[jjn]? with
          | none => rw [hq] at jjx; cases jjx
          | some u => rw [hq] at jjx; exact ⟨u, rfl, (Option.some.inj jjx).symm⟩
        have wj := wt_at jjx'
        have lj : xw.length ≤ N := by omega
        refine ⟨.ref p6, rfl, .int j, rfl, p6, _, _, .str xw, rfl, rfl, SqL.of h7, haj, ?_⟩
        have fA : ∀ x : Str, x.length = 1 → xw.length + x.length ≤ sizeLine := fun x hx => Nat.le_trans (show xw.length + x.length ≤ 200000 by omega) (by decide)
        have fB : ∀ x : Str, x.length = 1 → x.length + xw.length ≤ sizeLine := fun x hx => Nat.le_trans (show x.length + xw.length ≤ 200000 by omega) (by decide)
        have lz : ∀ x : Str, x.length = 1 → wt [x ++ xw] ≤ 2 * N + 41 := fun x hx => by rw [wt_cons, wt_nil, Str.length_append]; omega
        have g0 := Same.refl H7
        refine ⟨Nat.zero_le _, fun q0 m0 => ?_⟩
        have e0 := same_upd (o := .lst []) m0
        have E0 : LT (upd H7 q0 (.lst [])) q0 (2 * N + 41) := ⟨[], upd_same, by rw [wt_nil]; omega⟩
        have c0 := (D7.same g0).off m0
        have g1 := g0.trans e0
        generalize upd H7 q0 (.lst []) = G0 at e0 E0 g1 ⊢
        refine ⟨.str xw, rfl, .str xw, rfl, sl2, fun q1 m1 => ?_⟩
        have e1 := same_upd (o := .lst [V.str (xw), V.str (xw)]) m1
        have E1 : LT (upd G0 q1 (.lst [V.str (xw), V.str (xw)])) q1 (2 * N + 41) := ⟨[xw, xw], upd_same, by rw [wt_cons, wt_cons, wt_nil]; omega⟩
        have c1 := (D7.same g1).off m1
        have g2 := g1.trans e1
        generalize upd G0 q1 (.lst [V.str (xw), V.str (xw)]) = G1 at e1 E1 g2 ⊢
        refine ⟨.str xw, rfl, _, _, rfl, rfl, fB _ (by decide +kernel), sl1, fun q2 m2 => ?_⟩
        have e2 := same_upd (o := .lst [V.str (Str.ofString "0" ++ xw)]) m2
        have E2 : LT (upd G1 q2 (.lst [V.str (Str.ofString "0" ++ xw)])) q2 (2 * N + 41) := ⟨[Str.ofString "0" ++ xw], upd_same, lz _ (by decide +kernel)⟩
        have c2 := (D7.same g2).off m2
        have g3 := g2.trans e2
        generalize upd G1 q2 (.lst [V.str (Str.ofString "0" ++ xw)]) = G2 at e2 E2 g3 ⊢
        refine ⟨.str xw, rfl, _, _, rfl, rfl, fB _ (by decide +kernel), sl1, fun q3 m3 => ?_⟩
        have e3 := same_upd (o := .lst [V.str (Str.ofString "-" ++ xw)]) m3
        have E3 : LT (upd G2 q3 (.lst [V.str (Str.ofString "-" ++ xw)])) q3 (2 * N + 41) := ⟨[Str.ofString "-" ++ xw], upd_same, lz _ (by decide +kernel)⟩
        have c3 := (D7.same g3).off m3
        have g4 := g3.trans e3
        generalize upd G2 q3 (.lst [V.str (Str.ofString "-" ++ xw)]) = G3 at e3 E3 g4 ⊢
        refine ⟨.str xw, rfl, _, _, rfl, rfl, fB _ (by decide +kernel), sl1, fun q4 m4 => ?_⟩
        have e4 := same_upd (o := .lst [V.str (Str.ofString "+" ++ xw)]) m4
        have E4 : LT (upd G3 q4 (.lst [V.str (Str.ofString "+" ++ xw)])) q4 (2 * N + 41) := ⟨[Str.ofString "+" ++ xw], upd_same, lz _ (by decide +kernel)⟩
        have c4 := (D7.same g4).off m4
        have g5 := g4.trans e4
        generalize upd G3 q4 (.lst [V.str (Str.ofString "+" ++ xw)]) = G4 at e4 E4 g5 ⊢
        refine ⟨.str xw, rfl, sl2, fun q5 m5 => ?_⟩
        have e5 := same_upd (o := .lst [V.str (Str.ofString ""), V.str (xw)]) m5
        have E5 : LT (upd G4 q5 (.lst [V.str (Str.ofString ""), V.str (xw)])) q5 (2 * N + 41) := ⟨[Str.ofString "", xw], upd_same, by rw [wt_cons, wt_cons, wt_nil, show (Str.ofString "").length = 0 by decide +kernel]; omega⟩
        have c5 := (D7.same g5).off m5
        have g6 := g5.trans e5
        generalize upd G4 q5 (.lst [V.str (Str.ofString ""), V.str (xw)]) = G5 at e5 E5 g6 ⊢
        refine ⟨.str xw, rfl, _, _, rfl, rfl, fA _ (by decide +kernel), sl1, fun q6 m6 => ?_⟩
        have e6 := same_upd (o := .lst [V.str (xw ++ Str.ofString "0")]) m6
        have E6 : LT (upd G5 q6 (.lst [V.str (xw ++ Str.ofString "0")])) q6 (2 * N + 41) := ⟨[xw ++ Str.ofString "0"], upd_same, by rw [wt_cons, wt_nil, Str.length_append, show (Str.ofString "0").length = 1 by decide +kernel]; omega⟩
        have c6 := (D7.same g6).off m6
        have g7 := g6.trans e6
        generalize upd G5 q6 (.lst [V.str (xw ++ Str.ofString "0")]) = G6 at e6 E6 g7 ⊢
        refine ⟨.str xw, rfl, _, rfl, _, rfl, xw, rfl, Nat.le_trans (show xw.length ≤ 200000 by omega) (by decide), sl1, fun q7 m7 => ?_⟩
        have e7 := same_upd (o := .lst [V.str (cutS xw none (some (-1)))]) m7
        have E7 : LT (upd G6 q7 (.lst [V.str (cutS xw none (some (-1)))])) q7 (2 * N + 41) := ⟨[cutS xw none (some (-1))], upd_same, by rw [wt_cons, wt_nil]; have := cutS_length xw none (some (-1)); omega⟩
        have c7 := (D7.same g7).off m7
        have g8 := g7.trans e7
        generalize upd G6 q7 (.lst [V.str (cutS xw none (some (-1)))]) = G7 at e7 E7 g8 ⊢
        refine ⟨by show 8 ≤ sizeLine; decide, fun qs ms => ?_⟩
        have e8 := same_upd (o := .lst [V.ref q0, V.ref q1, V.ref q2, V.ref q3, V.ref q4, V.ref q5, V.ref q6, V.ref q7]) ms
        have hqs := upd_same (H := G7) (a := qs) (o := .lst [V.ref q0, V.ref q1, V.ref q2, V.ref q3, V.ref q4, V.ref q5, V.ref q6, V.ref q7])
        have c8 := (D7.same g8).off ms
        have g9 := g8.trans e8
        generalize upd G7 qs (.lst [V.ref q0, V.ref q1, V.ref q2, V.ref q3, V.ref q4, V.ref q5, V.ref q6, V.ref q7]) = G8 at e8 hqs g9 ⊢
        refine ⟨_, 40, rfl, rfl, by decide +kernel, by decide, by decide, by show 11 ≤ sizeLine; decide, fun pm nm => ?_⟩
        have e9 := same_upd (o := .lst (moreL.map V.str)) nm
        have hpm := upd_same (H := G8) (a := pm) (o := .lst (moreL.map V.str))
        have c9 := (D7.same g9).off nm
        have g10 := g9.trans e9
        change tSeq _ _ _ _ (upd G8 pm (.lst (moreL.map V.str)))
        generalize upd G8 pm (.lst (moreL.map V.str)) = G9 at e9 hpm g10 ⊢
        have M : ∀ x : Int, 0 ≤ x → x < 8 → ∃ pi, atI [V.ref q0, V.ref q1, V.ref q2, V.ref q3, V.ref q4, V.ref q5, V.ref q6, V.ref q7] x = some (.ref pi) ∧ (pi ≠ d ∧ pi ≠ l) ∧ LT G9 pi (2 * N + 41) := fun x x0 x1 => by
          have : x = 0 ∨ x = 1 ∨ x = 2 ∨ x = 3 ∨ x = 4 ∨ x = 5 ∨ x = 6 ∨ x = 7 := by omega
          rcases this with rfl | rfl | rfl | rfl | rfl | rfl | rfl | rfl
          · exact ⟨q0, rfl, c0, ((((((((E0.same e1).same e2).same e3).same e4).same e5).same e6).same e7).same e8).same e9⟩
          · exact ⟨q1, rfl, c1, (((((((E1.same e2).same e3).same e4).same e5).same e6).same e7).same e8).same e9⟩
          · exact ⟨q2, rfl, c2, ((((((E2.same e3).same e4).same e5).same e6).same e7).same e8).same e9⟩
          · exact ⟨q3, rfl, c3, (((((E3.same e4).same e5).same e6).same e7).same e8).same e9⟩
          · exact ⟨q4, rfl, c4, ((((E4.same e5).same e6).same e7).same e8).same e9⟩
          · exact ⟨q5, rfl, c5, (((E5.same e6).same e7).same e8).same e9⟩
          · exact ⟨q6, rfl, c6, ((E6.same e7).same e8).same e9⟩
          · exact ⟨q7, rfl, c7, (E7.same e8).same e9⟩
        refine ⟨.ref qs, rfl, .ref d, rfl, d, l, 8, n + 1 + 1 + 1 + 1 + 1, rfl, D7.same g10, by omega, by decide, by decide, fun H10 x D10 f10 x0 x1 => ?_⟩
        obtain ⟨pi, hpi, opi, Lpi⟩ := M x x0 x1
        refine ⟨qs, _, _, .ref pi, rfl, rfl, SqL.of (f10 _ _ c8.1 c8.2 (e9 _ _ hqs)), hpi, ?_⟩
        have F10 := f17.trans ((Fr.of g10).trans f10)
        have k4 := f10 _ _ o4.1 o4.2 (g10 _ _ h7l)
        have k6 := f10 _ _ o6.1 o6.2 (g10 _ _ h7)
        refine ⟨fun σ H' => ∃ pp, σ = [some (.ref d), some (.str z), some (.int way), some (.str (Str.ofString "0123456789 0101inputs abzABZ_-+.,;:=(){}[]<>/!?#$&*'~^|")), some (.str sg), some (.int at_), some (.ref qs), some (.ref p4), some (.int k), none, some (.ref p6), some (.int j), some (.str xw), some (.ref pm), some (.ref pp), none] ∧ DeckC H' d l (n + 8) ∧ Fr d l H H' ∧ LT H' pp (2 * N + 41) ∧ H' p4 = some (.lst (ls.map V.str)) ∧ H' p6 = some (.lst (ws.map V.str)), ?_, ?_⟩
        · refine ⟨.int way, rfl, way, 9, rfl, rfl, _, rfl, ite2 (fun _ => ?_) (fun _ => ?_)⟩
          · refine ⟨.ref pm, rfl, .ref d, rfl, d, l, 11, n + 1 + 1 + 1 + 1 + 1 + 1, rfl, D10, by omega, by decide, by decide, fun H11 y D11 f11 y0 y1 => ?_⟩
            obtain ⟨yt, hyt, lyt⟩ := more_at y y0 y1
            refine ⟨pm, _, _, .str yt, rfl, rfl, SqL.of (f11 _ _ c9.1 c9.2 (f10 _ _ c9.1 c9.2 hpm)), hyt, sl1, fun pp np => ⟨pp, rfl, (D11.mono (by omega)).same (same_upd np), (F10.trans f11).trans (Fr.new np), ⟨[yt], upd_same, by rw [wt_cons, wt_nil]; omega⟩, same_upd np _ _ (f11 _ _ o4.1 o4.2 k4), same_upd np _ _ (f11 _ _ o6.1 o6.2 k6)⟩⟩
          · exact ⟨pi, rfl, D10.mono (by omega), F10, Lpi.fr f10 opi, k4, k6⟩
        rintro σ H12 ⟨pp, rfl, D12, F12, L12, i4, i6⟩
        have L4 : LT H12 p4 (N + 1) := ⟨ls, i4, w4⟩
        have L6 : LT H12 p6 (N + 1) := ⟨ws, i6, w6⟩
        refine ⟨⟨_, rfl⟩, .ref p6, rfl, .int j, rfl, j, rfl, slL L6 (fun pa Ha na sa La => ?_)⟩
        refine ⟨.ref pp, rfl, catL La (L12.same sa) (by omega) (fun pb Hb nb sb Lb => ?_)⟩
        refine ⟨.ref p6, rfl, .int j, rfl, _, _, rfl, rfl, _, rfl, slLn ((L6.same sa).same sb) (fun pc Hc nc sc' Lc => catL (Lb.same sc') Lc (by omega) (fun pd Hd nd sd Ld => ?_))⟩
        have t4 := ((sa.trans sb).trans sc').trans sd
        obtain ⟨zs, hzs, wz⟩ := Ld
        refine ⟨_, pd, zs, rfl, rfl, .inl (SqL.of hzs), wt_fit _ l1s _ (by omega), ?_⟩
        have ll := Nat.le_trans (wt_join _ l1s zs) wz
        generalize Txt.join (Str.ofString " ") zs = line at ll ⊢
        refine ⟨⟨_, rfl⟩, .ref p4, rfl, .int k, rfl, k, rfl, slL (L4.same t4) (fun pe He ne se Le => ?_)⟩
        refine ⟨.str line, rfl, sl1, fun pf nf => ?_⟩
        have sf := same_upd (o := .lst [V.str line]) nf
        have Lf : LT (upd He pf (.lst [V.str line])) pf (line.length + 1) := ⟨[line], upd_same, by rw [wt_cons, wt_nil]; omega⟩
        refine catL (Le.same sf) Lf (by omega) (fun pg Hg ng sg' Lg => ?_)
        have t5 := ((t4.trans se).trans sf).trans sg'
        refine ⟨.ref p4, rfl, .int k, rfl, _, _, rfl, rfl, _, rfl, slLn (L4.same t5) (fun ph Hh nh sh Lh => catL (Lg.same sh) Lh (by omega) (fun p9 H9 n9 s9 L9 => ?_))⟩
        obtain ⟨zs2, hzs2, wz2⟩ := L9
        have t6 := (t5.trans sh).trans s9
        refine ⟨_, p9, zs2, rfl, rfl, .inl (SqL.of hzs2), wt_fit _ l1n _ (by omega), ?_⟩
        exact q _ _ (D12.same t6) (F12.trans (Fr.of t6)) (Nat.le_trans (wt_join _ l1n _) (by omega))
end

end Gk

set_option Elab.async false
set_option linter.all false
set_option maxRecDepth 100000
set_option maxHeartbeats 1000000
set_option pp.maxSteps 1500
set_option pp.deepTerms false
namespace Gk
open PySem PySem.Spec PyProof.Rows L2
/-! ### a net's own text, read -/
theorem dig_num {n : Nat} (h : n < 1000) : numK 40 (dig n) = some (n : Int) := by
  obtain ⟨d1, d3, dc, di, dh⟩ := dig_ok h
  have hf : (dig n).all figB = true := List.all_eq_true.mpr fun c hc => by
    have := dc c hc
    unfold figB
    rw [decide_eq_true this.1, decide_eq_true this.2]
    rfl
  have e := SX.int_S (a := dig n) hf (fun z => by rw [z] at d1; cases d1) (by omega)
  rw [di] at e
  have ev : (n : Int) = ((valN (dig n) : Nat) : Int) := Option.some.inj e
  have n0 : ¬ ((dig n).head? = some 48 ∧ dig n ≠ [48]) := fun ⟨a, b⟩ => b (dh a)
  rw [numK_of d1 (by omega) hf n0, ev]
theorem inW_dig {m : Nat} (h : m < 1000) : headP (inpL ++ dig m) = some (m : Int) := by
  rw [headP_eq]
  have e : (inpL ++ dig m).take 7 = inS7 := rfl
  have e2 : (inpL ++ dig m).drop 7 = dig m := rfl
  rw [if_pos e, e2]
  exact dig_num h
theorem wds_line {g : Gt} (h : GtS g) : wds (lineL g) = g.1.map sgn :: g.2.map dig := by
  unfold wds lineL
  refine TL.spl_join (by simp) fun p hp z => ?_
  have := (line_parts h p hp 32 z).1
  omega
theorem gate_line {g : Gt} (h : GtS g) : gateP (lineL g) = gD g := by
  unfold gateP
  rw [wds_line h]
  show PyData.tuple [.str (SX.S (g.1.map sgn)), .tuple ((g.2.map dig).map fun w => optD (numK 40 w))] = .tuple [.str (tabOf g.1), .tuple ((g.2.map Int.ofNat).map PyData.int)]
  have e : ((g.2.map dig).map fun w => optD (numK 40 w)) = (g.2.map Int.ofNat).map PyData.int := by
    rw [List.map_map, List.map_map]
    refine List.map_congr_left fun i hi => ?_
    show optD (numK 40 (dig i)) = PyData.int (Int.ofNat i)
    rw [dig_num (h.2.2 i hi)]
    rfl
  rw [e]
  rfl
theorem net_back {m : Nat} {gs : List Gt} (ok : NetOk m gs) (m6 : m ≤ 6) (h : gs.length ≤ 400) : netPD (netL m gs) = netD m gs := by
  have gS := netS ok m6 h
  have e : lns (netL m gs) = (inpL ++ dig m) :: gs.map lineL := by
    unfold lns netL
    refine TL.spl_join (by simp) fun p hp z => ?_
    rcases List.mem_cons.mp hp with y | y
    · rw [y] at z
      exact head_signs (m := m) (by omega) 10 z rfl
    · obtain ⟨g, hg, rfl⟩ := List.mem_map.mp y
      exact line_signs (gS g hg) 10 z rfl
  rw [net_val e, inW_dig (m := m) (by omega)]
  show PyData.tuple [.int (m : Int), .tuple ((gs.map lineL).map gateP)] = .tuple [.int (m : Int), .tuple (gs.map gD)]
  have e2 : (gs.map lineL).map gateP = gs.map gD := by
    rw [List.map_map]
    exact List.map_congr_left fun g hg => gate_line (gS g hg)
  rw [e2]
theorem sg01_tab (bs : List Bool) : (tabOf bs).cps.toList.all sgB = true := by
  refine List.all_eq_true.mpr fun c hc => ?_
  have e : (tabOf bs).cps.toList = bs.map sgn := by
    rw [tab_S]
  rw [e] at hc
  obtain ⟨b, _, rfl⟩ := List.mem_map.mp hc
  cases b <;> decide +kernel
theorem isGate_ok {n : Nat} {g : Gt} (h : GtOk n g) : isGateD (n : Int) (gD g) = true := by
  have l : ((g.2.map Int.ofNat).map PyData.int).length = g.2.length := by rw [List.length_map, List.length_map]
  show ((decide (1 ≤ ((g.2.map Int.ofNat).map PyData.int).length) && decide (((g.2.map Int.ofNat).map PyData.int).length ≤ 3)) && ((decide (((tabOf g.1).length : Int) = 2 ^ ((g.2.map Int.ofNat).map PyData.int).length) && (tabOf g.1).cps.toList.all sgB) && ((g.2.map Int.ofNat).map PyData.int).all (wireD n))) = true
  rw [l, decide_eq_true h.2.1, decide_eq_true h.2.2.1, sg01_tab]
  have e1 : ((tabOf g.1).length : Int) = 2 ^ g.2.length := by
    have : (tabOf g.1).length = g.1.length := by simp [tabOf, Str.length]
    rw [this, h.1]
    simp
  rw [decide_eq_true e1]
  simp only [Bool.true_and, Bool.and_true]
  refine List.all_eq_true.mpr fun x hx => ?_
  obtain ⟨y, hy, rfl⟩ := List.mem_map.mp hx
  obtain ⟨i, hi, rfl⟩ := List.mem_map.mp hy
  have := h.2.2.2 i hi
  show (decide (0 ≤ Int.ofNat i) && decide (Int.ofNat i < (n : Int))) = true
  have a : decide ((0 : Int) ≤ Int.ofNat i) = true := decide_eq_true (Int.natCast_nonneg i)
  have b : decide (Int.ofNat i < (n : Int)) = true := decide_eq_true (Int.ofNat_lt.mpr this)
  rw [a, b]
  rfl
theorem isNet_ok {m : Nat} {gs : List Gt} (h : NetOk m gs) (m1 : 1 ≤ m) (m6 : m ≤ 6) (hl : 1 ≤ gs.length) : isNetD (netD m gs) = true := by
  show ((decide (1 ≤ (m : Int)) && decide ((m : Int) ≤ 6)) && (decide ((gs.map gD).length ≠ 0) && gatesD m (gs.map gD))) = true
  rw [decide_eq_true (show 1 ≤ (m : Int) by omega), decide_eq_true (show (m : Int) ≤ 6 by omega), decide_eq_true (show (gs.map gD).length ≠ 0 by rw [List.length_map]; omega)]
  simp only [Bool.true_and]
  refine gates_all fun k g hg => ?_
  rw [List.getElem?_map] at hg
  obtain ⟨g', hg', rfl⟩ := Option.map_eq_some_iff.mp hg
  have := isGate_ok (h k g' hg')
  rw [Int.natCast_add] at this
  exact this
mutual
theorem Tk.sh {H : Hp} : ∀ {v : V} {d : PyData}, Tk H v d → noL d = true → Sh H v d
  | _, _, .bl b, _ => .bl b
  | _, _, .int i, _ => .int i
  | _, _, .str x, _ => .str x
  | _, _, .lst h t, n => by cases n
  | _, _, .tup h t, n => .tup h (t.sh n)
theorem TkAll.sh {H : Hp} : ∀ {vs : List V} {ds : List PyData}, TkAll H vs ds → noLs ds = true → ShAll H vs ds
  | _, _, .nil, _ => .nil
  | _, _, .cons h t, n => .cons (h.sh (Bool.and_eq_true_iff.mp n).1) (t.sh (Bool.and_eq_true_iff.mp n).2)
end
theorem Tabs.fr {H H' : Hp} {Ps : List Addr} {d l : Addr} {n : Int} (t : Tabs H Ps) (D : DeckC H d l n) (f : Fr d l H H') : Tabs H' Ps := fun P hP => tab_frC D f (t P hP)
theorem netL_small {m : Nat} {gs : List Gt} (ok : NetOk m gs) (m6 : m ≤ 6) (h : gs.length ≤ 400) : ∀ c ∈ netL m gs, c < 128 := by
  have gS := netS ok m6 h
  intro c hc
  unfold netL at hc
  rcases mem_joinL hc with z | ⟨p, hp, z⟩
  · rw [List.mem_singleton.mp z]; decide
  · rcases List.mem_cons.mp hp with y | y
    · rw [y] at z
      rcases List.mem_append.mp z with w | w
      · unfold inpL at w
        simp at w
        omega
      · have := (dig_ok (n := m) (by omega)).2.2.1 c w
        omega
    · obtain ⟨g, hg, rfl⟩ := List.mem_map.mp y
      unfold lineL at z
      rcases mem_joinL z with w | ⟨q, hq, w⟩
      · rw [List.mem_singleton.mp w]; decide
      · have := line_parts (gS g hg) q hq c w
        omega
/-- long numbers write no net -/
theorem num40 {w : List Nat} (h : 40 < w.length) : numK 40 w = none := by
  unfold numK
  rw [if_neg fun z => by have := z.1.2.1; omega]

end Gk

set_option Elab.async false
set_option linter.all false
set_option maxRecDepth 100000
set_option maxHeartbeats 1000000
set_option pp.maxSteps 1500
set_option pp.deepTerms false
namespace Gk
open PySem PySem.Spec PyProof.Rows L2
/-! ### long numbers -/
theorem fold_rep (c : Nat) : ∀ (k : Nat) (acc : Array Nat), (List.replicate k #[c]).foldl (· ++ ·) acc = (acc.toList ++ List.replicate k c).toArray
  | 0, acc => by simp
  | k + 1, acc => by
    rw [List.replicate_succ, List.foldl_cons, fold_rep c k, List.replicate_succ]
    simp
theorem mul_rep (c k : Nat) (h : 2 ≤ k) : Txt.mul (⟨#[c]⟩ : Str) (k : Int) = SX.S (List.replicate k c) := by
  unfold Txt.mul
  rw [if_neg (by omega)]
  have e1 : ((k : Int) == 1 || (⟨#[c]⟩ : Str).length == 0) = false := by
    have a : ((k : Int) == 1) = false := by
      rw [beq_eq_false_iff_ne]
      omega
    rw [a]
    rfl
  rw [if_neg (by rw [e1]; exact Bool.false_ne_true), Int.toNat_natCast, fold_rep]
  rfl
theorem rep_free {c k s : Nat} (h : c ≠ s) : s ∉ List.replicate k c := fun z => h (List.eq_of_mem_replicate z).symm
theorem gate_bad {l t : List Nat} {ws : List (List Nat)} {W : Int} {w : List Nat} (hw : wds l = t :: ws) (h : w ∈ ws) (n : numK 40 w = none) : isGateD W (gateP l) = false := by
  have e : (ws.all fun w => wireD W (optD (numK 40 w))) = false := by
    cases z : (ws.all fun w => wireD W (optD (numK 40 w))) with
    | false => rfl
    | true =>
      have := List.all_eq_true.mp z w h
      rw [n] at this
      cases this
  rw [gate_val hw, e, Bool.and_false, Bool.and_false]
def tx1 (w : List Nat) : List Nat := TL.joinL [10] [inS7 ++ w, [48, 49, 32, 48]]
def tx2 (w : List Nat) : List Nat := TL.joinL [10] [inS7 ++ [49], [48, 49, 32] ++ w]
def tx3 (w : List Nat) : List Nat := TL.joinL [10] [inS7 ++ [50], [48, 49, 49, 48, 32, 48, 32] ++ w]
theorem no1 {w : List Nat} (h10 : 10 ∉ w) (l : 40 < w.length) : isNetD (netPD (tx1 w)) = false := by
  have e : lns (tx1 w) = [inS7 ++ w, [48, 49, 32, 48]] := TL.spl_join (by simp) fun p hp z => by
    simp only [List.mem_cons, List.not_mem_nil, or_false] at hp
    rcases hp with rfl | rfl
    · rcases List.mem_append.mp z with y | y
      · exact absurd y (by decide)
      · exact h10 y
    · exact absurd z (by decide)
  rw [net_val e, headP_eq]
  have e1 : (inS7 ++ w).take 7 = inS7 := rfl
  have e2 : (inS7 ++ w).drop 7 = w := rfl
  rw [if_pos e1, e2, num40 l]
  rfl
theorem no2 {w : List Nat} (h10 : 10 ∉ w) (h32 : 32 ∉ w) (l : 40 < w.length) : isNetD (netPD (tx2 w)) = false := by
  have e : lns (tx2 w) = [inS7 ++ [49], [48, 49, 32] ++ w] := TL.spl_join (by simp) fun p hp z => by
    simp only [List.mem_cons, List.not_mem_nil, or_false] at hp
    rcases hp with rfl | rfl
    · exact absurd z (by decide)
    · rcases List.mem_append.mp z with y | y
      · exact absurd y (by decide)
      · exact h10 y
  have hw : wds ([48, 49, 32] ++ w) = [[48, 49], w] := by
    have := TL.spl_join (s := 32) (S := []) (parts := [[48, 49], w]) (by simp) fun p hp z => by
      simp only [List.mem_cons, List.not_mem_nil, or_false] at hp
      rcases hp with rfl | rfl
      · exact absurd z (by decide)
      · exact h32 z
    exact this
  have eh : headL (inS7 ++ [49]) = some 1 := by decide +kernel
  rw [net_val e, net_body eh (by decide) (by decide)]
  have g : isGateD (1 + ((0 : Nat) : Int)) (gateP ([48, 49, 32] ++ w)) = false := by
    exact gate_bad hw (List.mem_singleton.mpr rfl) (num40 l)
  rw [gates_no (k := 0) (g := gateP ([48, 49, 32] ++ w)) rfl (by rw [g]; exact Bool.false_ne_true), Bool.and_false]
theorem no3 {w : List Nat} (h10 : 10 ∉ w) (h32 : 32 ∉ w) (l : 40 < w.length) : isNetD (netPD (tx3 w)) = false := by
  have e : lns (tx3 w) = [inS7 ++ [50], [48, 49, 49, 48, 32, 48, 32] ++ w] := TL.spl_join (by simp) fun p hp z => by
    simp only [List.mem_cons, List.not_mem_nil, or_false] at hp
    rcases hp with rfl | rfl
    · exact absurd z (by decide)
    · rcases List.mem_append.mp z with y | y
      · exact absurd y (by decide)
      · exact h10 y
  have hw : wds ([48, 49, 49, 48, 32, 48, 32] ++ w) = [[48, 49, 49, 48], [48], w] := by
    have := TL.spl_join (s := 32) (S := []) (parts := [[48, 49, 49, 48], [48], w]) (by simp) fun p hp z => by
      simp only [List.mem_cons, List.not_mem_nil, or_false] at hp
      rcases hp with rfl | rfl | rfl
      · exact absurd z (by decide)
      · exact absurd z (by decide)
      · exact h32 z
    exact this
  have eh : headL (inS7 ++ [50]) = some 2 := by decide +kernel
  rw [net_val e, net_body eh (by decide) (by decide)]
  have g : isGateD (2 + ((0 : Nat) : Int)) (gateP ([48, 49, 49, 48, 32, 48, 32] ++ w)) = false := by
    exact gate_bad hw (List.mem_cons_of_mem _ (List.mem_singleton.mpr rfl)) (num40 l)
  rw [gates_no (k := 0) (g := gateP ([48, 49, 49, 48, 32, 48, 32] ++ w)) rfl (by rw [g]; exact Bool.false_ne_true), Bool.and_false]
theorem no4 : isNetD (netPD (TL.tl (Str.ofString "inputs 4\n0110100110010110 0 1 2 3"))) = false ∧ isNetD (netPD (TL.tl (Str.ofString "inputs 1\n0"))) = false ∧ isNetD (netPD (TL.tl (Str.ofString "inputs 2\n1\n0110 0 1"))) = false ∧ isNetD (netPD (TL.tl (Str.ofString ""))) = false ∧ isNetD (netPD (TL.tl (Str.ofString "inputs 1"))) = false := by decide +kernel
/-! ### the things at the end -/
def odd05 (t : Str) (c : PyData) : List PyData := [.none, .int 7, .bool true, .tuple [], .list [], .dict [], .tuple [.str t], .list [.str t, .str "b", .str "a"], c, .dict [(.str "b", .str t), (.str "a", .list [.str t])]]
theorem t_fine {t : Str} (h : t.length ≤ 3000) (hc : ∀ c ∈ t.cps.toList, c < 200) : fineB 3000 0 (.str t) = true := by
  refine fine_iff.mpr ⟨rfl, ?_, ?_, Nat.zero_le _⟩
  · exact List.all_eq_true.mpr fun c k => decide_eq_true (Nat.lt_trans (hc c k) (by decide))
  · exact h
theorem odd05_fine {t : Str} {c : PyData} (h : t.length ≤ 3000) (hc : ∀ x ∈ t.cps.toList, x < 200) (fc : fineB 40000 4 c = true) : ∀ e ∈ odd05 t c, fineB 40000 10 e = true := by
  have ft := t_fine h hc
  have f1 : fineB 3000 0 (.str "b") = true := by decide +kernel
  have f2 : fineB 3000 0 (.str "a") = true := by decide +kernel
  have g1 := fine_tup (n := 3000) (m := 0) (k := 1) (ds := [.str t]) (fun d hd => by rw [List.mem_singleton.mp hd]; exact ft) (Nat.le_refl _)
  have g0 := fine_lst (n := 3000) (m := 0) (k := 1) (ds := [.str t]) (fun d hd => by rw [List.mem_singleton.mp hd]; exact ft) (Nat.le_refl _)
  have g2 := fine_lst (n := 3000) (m := 0) (k := 3) (ds := [.str t, .str "b", .str "a"]) (fun d hd => by
    rcases List.mem_cons.mp hd with rfl | hd
    · exact ft
    · rcases List.mem_cons.mp hd with rfl | hd
      · exact f1
      · rw [List.mem_singleton.mp hd]; exact f2) (Nat.le_refl _)
  have g3 : fineB 40000 10 (.dict [(.str "b", .str t), (.str "a", .list [.str t])]) = true := by
    obtain ⟨_, a2, a3, _⟩ := fine_iff.mp ft
    obtain ⟨_, b2, b3, _⟩ := fine_iff.mp g0
    obtain ⟨_, c2, c3, _⟩ := fine_iff.mp f1
    obtain ⟨_, d2, d3, _⟩ := fine_iff.mp f2
    refine fine_iff.mpr ⟨rfl, ?_, ?_, ?_⟩
    · simp only [PyData.leavesShort, PyData.leavesShortKv] at a2 b2 c2 d2 ⊢
      simp only [a2, b2, c2, d2, Bool.and_true, Bool.true_and]
    · simp only [PyData.weight, PyData.weightKv] at a3 b3 c3 d3 ⊢
      omega
    · simp only [PyData.depth, PyData.depthKv, PyData.depthAll]
      omega
  intro e he
  unfold odd05 at he
  simp only [List.mem_cons, List.not_mem_nil, or_false] at he
  rcases he with rfl | rfl | rfl | rfl | rfl | rfl | rfl | rfl | rfl | rfl
  · decide +kernel
  · decide +kernel
  · decide +kernel
  · decide +kernel
  · decide +kernel
  · decide +kernel
  · exact fine_mono g1 (by decide) (by decide)
  · exact fine_mono g2 (by decide) (by decide)
  · exact fine_mono fc (by decide) (by decide)
  · exact g3
theorem odd05_told {t : Str} {m : Int} {gs : List Gt} : ∀ e ∈ odd05 t (netD m gs), toldV e = .bl true ∧ ∀ z, e ≠ .str z := by
  intro e he
  unfold odd05 at he
  simp only [List.mem_cons, List.not_mem_nil, or_false] at he
  rcases he with rfl | rfl | rfl | rfl | rfl | rfl | rfl | rfl | rfl | rfl <;> exact ⟨rfl, fun z k => by cases k⟩

end Gk

set_option Elab.async false
set_option linter.all false
set_option maxRecDepth 100000
set_option maxHeartbeats 1000000
set_option pp.maxSteps 1500
set_option pp.deepTerms false
namespace Gk
open PySem PySem.Spec PyProof.Rows L2
section
variable {P : Program} {w : World} {K : PySem.W.Frag} {mg : Str → Option Value} {base : Heap}
/-! ### the law -/
def NetP (H : Hp) (c : Addr) (m : Nat) (gs : List Gt) : Prop := Tk H (.ref c) (netD (m : Nat) gs) ∧ NetOk m gs ∧ 1 ≤ m ∧ m ≤ 6 ∧ 1 ≤ gs.length ∧ gs.length ≤ 120
theorem NetP.ts {H H' : Hp} {c : Addr} {m : Nat} {gs : List Gt} (n : NetP H c m gs) (t : Ts H H') : NetP H' c m gs := ⟨n.1.ts t (noL_net _ _), n.2⟩
theorem NetP.gr {H H' : Hp} {c : Addr} {m : Nat} {gs : List Gt} (n : NetP H c m gs) (g : Gr H H') : NetP H' c m gs := ⟨n.1.gr g, n.2⟩
def Bd : Nat → Nat
  | 0 => 2660
  | n + 1 => 6 * Bd n + 60
theorem netL_b {m : Nat} {gs : List Gt} (ok : NetOk m gs) (m6 : m ≤ 6) (l : gs.length ≤ 120) : (netL m gs).length ≤ 2660 := by
  have := netL_len (m := m) (by omega) (netS ok m6 (by omega))
  omega
theorem net_fine {m : Nat} {gs : List Gt} (ok : NetOk m gs) (m1 : 1 ≤ m) (m6 : m ≤ 6) (l1 : 1 ≤ gs.length) (l : gs.length ≤ 120) : Fit (10 ^ 40) 40000 4 (netD m gs) ∧ toldV (.str (SX.S (netL m gs))) = .str (netD m gs).shown := by
  have b := netL_b ok m6 l
  have e := net_back ok m6 (by omega)
  have i := isNet_ok ok m1 m6 l1
  have etl : TL.tl (SX.S (netL m gs)) = netL m gs := by simp [TL.tl]
  refine ⟨?_, ?_⟩
  · have := netPD_fit (L := netL m gs) (by omega) (by rw [e]; exact i)
    rw [e] at this
    exact this
  · rw [told_yes (by rw [etl, e]; exact i), etl, e]
def sp_law (K : PySem.W.Frag) (Ps : List Addr) : Sp := fun vs H Q _ => ∃ (a : Addr) (ns : List Int), vs = [.ref a] ∧ SqL K H a (ns.map V.int) ∧ ns.length ≤ 63 ∧ Tabs H Ps ∧ ∀ H', Q (.bl true) H'
theorem ok_law (T : Tx K mg) (B : Tb base T) : FnG P w K mg base CX0 9 T.f_law T.fd_law ["_law_script"] (sp_law K T.tabs) := by
  refine okG0 T.F_law sc_law (fun vs H Q E h => ?_) (fun cdv A outer s H vs Q E nothing hr h => ?_)
  · obtain ⟨a, ns, rfl, _⟩ := h
    rfl
  · obtain ⟨a, ns, rfl, hS, hlen, tabs, q⟩ := h
    refine ⟨_, (pss_cons (ps_set (i := 1) sc_law.nd rfl (by first | exact .inl rfl | exact .inr rfl) (pe_call (ok_deck T) (hr.mono (by decide)) (by rfl) T.g_deck T.F_deck.kp T.b_deck .nil pass0 (pa_cons (pv 0) pa_nil))) (pss_cons (ps_for PassesOwn.never rfl (pi_range1 (by rfl) T.m_range (pa_cons pe_int pa_nil)) (pg_name (i := 2) sc_law.nd rfl (by first | exact .inl rfl | exact .inr rfl)) (pss_cons (ps_set (i := 3) sc_law.nd rfl (by first | exact .inl rfl | exact .inr rfl) (pe_op op_add pe_int (pe_call (ok_take T) (hr.mono (by decide)) (by rfl) T.g_take T.F_take.kp T.b_take .nil pass0 (pa_cons (pv 1) (pa_cons pe_int pa_nil))))) (pss_cons (ps_set (i := 4) sc_law.nd rfl (by first | exact .inl rfl | exact .inr rfl) (pe_call (ok_net T) (hr.mono (by decide)) (by rfl) T.g_net T.F_net.kp T.b_net .nil pass0 (pa_cons (pv 1) pa_nil))) (pss_cons (ps_set (i := 5) sc_law.nd rfl (by first | exact .inl rfl | exact .inr rfl) (pe_call (ok_shown T) (hr.mono (by decide)) (by rfl) T.g_shown T.F_shown.kp T.b_shown .nil pass0 (pa_cons (pv 4) pa_nil))) (pss_one (ps_for PassesOwn.never rfl (pi_range1 (by rfl) T.m_range (pa_cons pe_int pa_nil)) (pg_name (i := 6) sc_law.nd rfl (by first | exact .inl rfl | exact .inr rfl)) (pss_cons (ps_set (i := 7) sc_law.nd rfl (by first | exact .inl rfl | exact .inr rfl) (pv 5)) (pss_cons (ps_for PassesOwn.never rfl (pi_range1 (by rfl) T.m_range (pa_cons (pv 3) pa_nil)) (pg_name (i := 8) sc_law.nd rfl (by first | exact .inl rfl | exact .inr rfl)) (pss_one (ps_set (i := 7) sc_law.nd rfl (by first | exact .inl rfl | exact .inr rfl) (pe_call (ok_bent T) (hr.mono (by decide)) (by rfl) T.g_bent T.F_bent.kp T.b_bent .nil pass0 (pa_cons (pv 1) (pa_cons (pv 7) pa_nil)))))) (pss_one (ps_if (pw_or (pw_and (pt_cmpR op_lt (pe_callB call_len_str (by rfl) T.m_len PySem.boot_len (pa_cons (pv 7) pa_nil)) pe_int (nomark _)) (pw_and1 (pt_not (pt_val (pe_callG (ok_right T B) nothing (hr.mono (by decide)) (by rfl) T.g_right T.F_right.kp T.b_right .nil pass0 (pa_cons (pv 7) pa_nil)))))).pt (pw_or1 (pt_cmpR op_ne (pe_callG (ok_told T B) nothing (hr.mono (by decide)) (by rfl) T.g_told T.F_told.kp T.b_told .nil pass0 (pa_cons (pv 5) pa_nil)) (pe_callB (call_repr nothing hr.units) (by rfl) T.m_repr (by decide +kernel) (pa_cons (pv 4) pa_nil)) (nomark _)))).pt (pss_one (ps_ret pe_bl)) pss_nil)))))))))) (pss_cons (ps_for PassesOwn.never rfl (pi_list (pe_lstN (pa_cons pe_non (pa_cons pe_int (pa_cons pe_bl (pa_cons (pe_tup pa_nil) (pa_cons (pe_lstN pa_nil) (pa_cons pe_dnewK (pa_cons (pe_tup (pa_cons (pv 5) pa_nil)) (pa_cons (pe_lstN (pa_cons (pv 5) (pa_cons pe_str (pa_cons pe_str pa_nil)))) (pa_cons (pv 4) (pa_cons (pe_disp (pps_cons pe_str (pv 5) (pps_cons pe_str (pe_lstN (pa_cons (pv 5) pa_nil)) pps_nil)) (by rfl) (by rfl) (fun z => by cases z) (by decide)) pa_nil)))))))))))) (pg_name (i := 9) sc_law.nd rfl (by first | exact .inl rfl | exact .inr rfl)) (pss_cons (ps_set (i := 10) sc_law.nd rfl (by first | exact .inl rfl | exact .inr rfl) (pe_callB (call_repr nothing hr.units) (by rfl) T.m_repr (by decide +kernel) (pa_cons (pv 9) pa_nil))) (pss_one (ps_if (pw_or (pt_cmpR op_isnot_bl (pe_callG (ok_told T B) nothing (hr.mono (by decide)) (by rfl) T.g_told T.F_told.kp T.b_told .nil pass0 (pa_cons (pv 9) pa_nil)) pe_bl (nomark _)) (pw_or1 (pt_cmpR op_ne (pe_callB (call_repr nothing hr.units) (by rfl) T.m_repr (by decide +kernel) (pa_cons (pv 9) pa_nil)) (pv 10) (nomark _)))).pt (pss_one (ps_ret pe_bl)) pss_nil)))) (C8.pss_cut (ps_if (pt_cmpR op_eq (pe_call (ok_take T) (hr.mono (by decide)) (by rfl) T.g_take T.F_take.kp T.b_take .nil pass0 (pa_cons (pv 1) (pa_cons pe_int pa_nil))) pe_int (nomark _)) (pss_cons (ps_set (i := 8) sc_law.nd rfl (by first | exact .inl rfl | exact .inr rfl) (pe_op op_add pe_int (pe_call (ok_take T) (hr.mono (by decide)) (by rfl) T.g_take T.F_take.kp T.b_take .nil pass0 (pa_cons (pv 1) (pa_cons pe_int pa_nil))))) (pss_cons (ps_setLc (i := 11) (own := [("_law_k", 16)]) (by rfl) sc_law.nd rfl rfl (sw_true rfl rfl rfl (by decide +kernel)) (pi_range1 (by rfl) T.m_range (pa_cons (pe_op op_add pe_int (pe_call (ok_take T) (hr.mono (by decide)) (by rfl) T.g_take T.F_take.kp T.b_take .nil pass0 (pa_cons (pv 1) (pa_cons pe_int pa_nil)))) pa_nil)) (blkOk_by (own := [("_law_k", 16)]) (N := ["_law_script", "_law_deck_here", "_law_turn", "_law_steps", "_law_net_here", "_law_text", "_law_again", "_law_other", "_law_step", "_law_thing", "_law_kept", "_law_lines", "_law_last", "_law_row", "_law_long", "_law_some", "_law_k"]) (sc := defScope s_law) (by decide +kernel)) (fun _ _ _ _ _ => (pg_name (i := 16) sc_law.nd rfl (by first | exact .inl rfl | exact .inr rfl))) (fun _ _ _ _ _ => pts_nil) (fun _ _ _ _ _ => (pe_ix (show IxR _ (rIxL K) from ix_list) (pe_lst (pa_cons pe_str (pa_cons pe_str pa_nil))) (pe_callTy call_int1 (by rfl) T.m_int (by decide +kernel) (pa_cons (pe_and (pe_cmpR op_gt (pv 16) pe_int (nomark _)) (pe_one (pe_cmpR op_eq (pe_op op_mod (pv 16) (pv 8)) pe_int (nomark _)))) pa_nil)) (fun _ _ => rfl)))) (pss_cons (ps_set (i := 12) sc_law.nd rfl (by first | exact .inl rfl | exact .inr rfl) (pe_ix ix_list (pe_lst (pa_cons pe_str (pa_cons pe_str (pa_cons pe_str (pa_cons pe_str (pa_cons pe_str pa_nil)))))) (pe_call (ok_take T) (hr.mono (by decide)) (by rfl) T.g_take T.F_take.kp T.b_take .nil pass0 (pa_cons (pv 1) (pa_cons pe_int pa_nil))) (fun _ _ => rfl))) (pss_one (ps_for PassesOwn.never rfl (pi_tup (pe_tup (pa_cons (pv 11) (pa_cons (pe_op op_cat (pe_slice sl_list (pv 11) po_none (po_some (pe_un un_neg pe_int))) (pe_lst (pa_cons (pv 12) pa_nil))) pa_nil)))) (pg_name (i := 13) sc_law.nd rfl (by first | exact .inl rfl | exact .inr rfl)) (pss_one (ps_if (pt_not (pt_val (pe_callG (ok_right T B) nothing (hr.mono (by decide)) (by rfl) T.g_right T.F_right.kp T.b_right .nil pass0 (pa_cons (pe_join pe_str (pe_op op_cat (pe_lst (pa_cons pe_str pa_nil)) (pv 13))) pa_nil)))) (pss_one (ps_ret pe_bl)) pss_nil))))))) pss_nil) (pss_cons (ps_set (i := 14) sc_law.nd rfl (by first | exact .inl rfl | exact .inr rfl) (pe_op op_repS (pe_item_str pe_str (pe_call (ok_take T) (hr.mono (by decide)) (by rfl) T.g_take T.F_take.kp T.b_take .nil pass0 (pa_cons (pv 1) (pa_cons pe_int pa_nil))) (fun _ _ => rfl)) (pe_op op_add pe_int (pe_call (ok_take T) (hr.mono (by decide)) (by rfl) T.g_take T.F_take.kp T.b_take .nil pass0 (pa_cons (pv 1) (pa_cons pe_int pa_nil)))))) (pss_cons (ps_set (i := 15) sc_law.nd rfl (by first | exact .inl rfl | exact .inr rfl) (pe_lst (pa_cons pe_str (pa_cons pe_str (pa_cons pe_str pa_nil))))) (pss_cons (ps_for PassesOwn.never rfl (pi_list (pe_op op_cat (pv 15) (pe_lst (pa_cons (pe_op op_add_str (pe_op op_add_str pe_str (pv 14)) pe_str) (pa_cons (pe_op op_add_str pe_str (pv 14)) (pa_cons (pe_op op_add_str pe_str (pv 14)) pa_nil)))))) (pg_name (i := 9) sc_law.nd rfl (by first | exact .inl rfl | exact .inr rfl)) (pss_one (ps_if (pt_cmpR op_isnot_bl (pe_callG (ok_told T B) nothing (hr.mono (by decide)) (by rfl) T.g_told T.F_told.kp T.b_told .nil pass0 (pa_cons (pv 9) pa_nil)) pe_bl (nomark _)) (pss_one (ps_ret pe_bl)) pss_nil))) (pss_one (ps_ret (pe_and (pe_cmpR op_is_bl (pe_callG (ok_told T B) nothing (hr.mono (by decide)) (by rfl) T.g_told T.F_told.kp T.b_told .nil pass0 (pa_cons pe_str pa_nil)) pe_bl (nomark _)) (pe_one (pe_cmpR op_is_bl (pe_callG (ok_told T B) nothing (hr.mono (by decide)) (by rfl) T.g_told T.F_told.kp T.b_told .nil pass0 (pa_cons pe_str pa_nil)) pe_bl (nomark _))))))))))))), ?_⟩
    refine ⟨.ref a, rfl, a, ns, rfl, hS, hlen, fun H1 d l s1 D1 => ?_⟩
    have t1 : Tabs H1 T.tabs := tabs.gr' (Gr.of s1)
    refine ⟨6, rfl, by decide, by decide, for_range (lo := 0) (n := (6 : Int).toNat) (fun i σ H' => ∃ y2 y3 y4 y5 y6 y7 y8 y9 y10 y11 y12 y13 y14 y15 y16, σ = [some (.ref a), some (.ref d), y2, y3, y4, y5, y6, y7, y8, y9, y10, y11, y12, y13, y14, y15, y16] ∧ DeckC H' d l (3000 * i) ∧ Tabs H' T.tabs ∧ (i = 0 ∨ ∃ c m gs, y4 = some (.ref c) ∧ y5 = some (.str (SX.S (netL m gs))) ∧ NetP H' c m gs))
      ⟨_, _, _, _, _, _, _, _, _, _, _, _, _, _, _, rfl, D1.mono (by omega), t1, .inl rfl⟩ ?_ ?_⟩
    · rintro i σ H2 hi ⟨y2, y3, y4, y5, y6, y7, y8, y9, y10, y11, y12, y13, y14, y15, y16, rfl, D2, t2, _⟩
      have hi' : i < 6 := hi
      refine ⟨.ref d, rfl, d, l, 2, _, rfl, D2, by omega, by decide, by decide, fun H3 x D3 fr3 x0 x1 => ⟨_, _, rfl, rfl, ?_⟩⟩
      obtain ⟨st, est, st1, st2⟩ : ∃ st : Nat, (fun i j : Int => V.int (i + j)) 1 x = V.int (st : Nat) ∧ 1 ≤ st ∧ st ≤ 2 := by
        obtain ⟨k, rfl⟩ := Int.eq_ofNat_of_zero_le x0
        refine ⟨1 + k, ?_, by omega, by omega⟩
        show V.int (1 + (k : Int)) = _
        congr 1
      rw [est]
      have t3 := t2.fr D2 fr3
      refine ⟨.ref d, rfl, d, l, _, rfl, D3, by omega, fun c H4 m gs D4 fr4 tk4 m1 m6 l1 l120 ok => ?_⟩
      have t4 := t3.fr D3 fr4
      have np4 : NetP H4 c m gs := ⟨tk4, ok, m1, m6, l1, l120⟩
      obtain ⟨fN, tNet⟩ := net_fine ok m1 m6 l1 l120
      obtain ⟨f1, f2, f3⟩ := fN.fine (by decide) (by decide) (by decide)
      have bN := netL_b ok m6 l120
      have short : ∀ z', PyData.str (SX.S (netL m gs)) = .str z' → z'.length ≤ 9000 := fun z' e => by
        rw [← PyData.str.inj e, SX.S_len]
        omega
      refine ⟨.ref c, rfl, .ref c, m, gs, rfl, tk4, m1, m6, by omega, ok, fun H5 s5 => ?_⟩
      refine ⟨5, rfl, by decide, by decide, for_range (lo := 0) (n := (5 : Int).toNat) (fun j σ H' => ∃ y6 y7 y8, σ = [some (.ref a), some (.ref d), some (.int (0 + (i : Nat))), some (.int (st : Nat)), some (.ref c), some (.str (SX.S (netL m gs))), y6, y7, y8, y9, y10, y11, y12, y13, y14, y15, y16] ∧ DeckC H' d l (3000 * i + 2001 + 40 * j) ∧ Tabs H' T.tabs ∧ NetP H' c m gs)
        ⟨_, _, _, rfl, (D4.same s5).mono (by omega), t4.gr' (Gr.of s5), np4.gr (Gr.of s5)⟩ ?_ ?_⟩
      · rintro j σ H6 hj ⟨y6, y7, y8, rfl, D6, t6, np6⟩
        have hj' : j < 5 := hj
        refine ⟨.str _, rfl, ?_⟩
        refine ⟨.int (st : Nat), rfl, st, rfl, by omega, by omega, for_range (lo := 0) (n := (st : Int).toNat) (fun k σ H' => ∃ y8 z, σ = [some (.ref a), some (.ref d), some (.int (0 + (i : Nat))), some (.int (st : Nat)), some (.ref c), some (.str (SX.S (netL m gs))), some (.int (0 + (j : Nat))), some (.str z), y8, y9, y10, y11, y12, y13, y14, y15, y16] ∧ DeckC H' d l (3000 * i + 2001 + 40 * j + 8 * k) ∧ Tabs H' T.tabs ∧ NetP H' c m gs ∧ z.length ≤ Bd k)
          ⟨_, _, rfl, D6.mono (by omega), t6, np6, by rw [SX.S_len]; exact bN⟩ ?_ ?_⟩
        · rintro k σ H7 hk ⟨y8, z, rfl, D7, t7, np7, hz⟩
          have hk' : k < st := by have : k < (st : Int).toNat := hk; omega
          have b2 : Bd k ≤ 20000 := by
            have : k = 0 ∨ k = 1 := by omega
            rcases this with rfl | rfl <;> decide
          refine ⟨.ref d, rfl, .str z, rfl, d, l, _, z, Bd k, rfl, D7, by omega, hz, b2, fun H8 y D8 fr8 ly => ?_⟩
          exact ⟨_, y, rfl, D8.mono (by push_cast; omega), t7.fr D7 fr8, np7.ts (Ts.frC D7 fr8), ly⟩
        · rintro σ H7 ⟨y8, z, rfl, D7, t7, np7, hz⟩
          have ek : (st : Int).toNat = st := by omega
          rw [ek] at D7 hz
          have b2 : z.length ≤ 100000 := Nat.le_trans hz (by
            have : st = 1 ∨ st = 2 := by omega
            rcases this with rfl | rfl <;> decide)
          obtain ⟨L, rfl⟩ : ∃ L : List Nat, z = SX.S L := ⟨z.cps.toList, (SX.S_tl z).symm⟩
          refine ⟨.str (SX.S L), rfl, SX.S L, rfl, Nat.le_trans b2 (by decide), _, _, rfl, rfl, _, rfl, ?_⟩
          rw [SX.S_len]
          refine ite2 (fun lt => ?_) (fun _ => ?_)
          · have lt := of_decide_eq_true lt
            refine ⟨.str (SX.S L), rfl, L, rfl, by omega, t7, fun H8 g8 => ⟨true, rfl, iteF ?_⟩⟩
            have np8 := np7.gr g8
            refine ⟨.str _, rfl, .str (SX.S (netL m gs)), .str (SX.S (netL m gs)), rfl, .str _, short, t7.gr' g8, fun Hp gp => ?_⟩
            have np := np8.gr gp
            rw [tNet]
            refine ⟨.ref c, rfl, .ref c, _, rfl, np.1.sh (noL_net _ _), f1, f2, f3, rfl, false, ?_, iteF ?_⟩
            · rw [decide_eq_true rfl]
              rfl
            exact ⟨_, _, _, rfl, ((D7.gr g8).gr gp).mono (by push_cast; omega), (t7.gr' g8).gr' gp, np⟩
          · refine ⟨.str _, rfl, .str (SX.S (netL m gs)), .str (SX.S (netL m gs)), rfl, .str _, short, t7, fun Hp gp => ?_⟩
            have np := np7.gr gp
            rw [tNet]
            refine ⟨.ref c, rfl, .ref c, _, rfl, np.1.sh (noL_net _ _), f1, f2, f3, rfl, false, ?_, iteF ?_⟩
            · rw [decide_eq_true rfl]
              rfl
            exact ⟨_, _, _, rfl, (D7.gr gp).mono (by push_cast; omega), t7.gr' gp, np⟩
      · rintro σ H6 ⟨y6, y7, y8, rfl, D6, t6, np6⟩
        exact ⟨_, _, _, _, _, _, _, _, _, _, _, _, _, _, _, rfl, D6.mono (by push_cast; show 3000 * (i : Int) + 2001 + 40 * ((5 : Int).toNat : Nat) ≤ _; omega), t6, .inr ⟨c, m, gs, rfl, rfl, np6⟩⟩
    rintro σ Ha ⟨y2, y3, y4, y5, y6, y7, y8, y9, y10, y11, y12, y13, y14, y15, y16, rfl, Da, ta, hn⟩
    obtain ⟨c, m, gs, rfl, rfl, npa⟩ : ∃ c m gs, y4 = some (.ref c) ∧ y5 = some (.str (SX.S (netL m gs))) ∧ NetP Ha c m gs := by
      rcases hn with z | z
      · cases z
      · exact z
    obtain ⟨tka, ok, m1, m6, l1, l120⟩ := npa
    obtain ⟨fN, tNet⟩ := net_fine ok m1 m6 l1 l120
    have bN := netL_b ok m6 l120
    have shc : Sh Ha (.ref c) (netD m gs) := tka.sh (noL_net _ _)
    have fic : fineB 40000 4 (netD m gs) = true := by
      have s := gd_show (by decide : 10 ^ 40 < 2 ^ 190) fN.1
      exact fine_iff.mpr ⟨s.1, s.2, fN.2.1, fN.2.2⟩
    have cS : ∀ x ∈ (SX.S (netL m gs)).cps.toList, x < 200 := fun x hx => by
      have := netL_small ok m6 (by omega) x (by simpa [SX.S] using hx)
      omega
    have fo := odd05_fine (t := SX.S (netL m gs)) (c := netD m gs) (by rw [SX.S_len]; omega) cS fic
    have to_ := odd05_told (t := SX.S (netL m gs)) (m := (m : Int)) (gs := gs)
    generalize SX.S (netL m gs) = t at fo to_ ⊢
    generalize netD (m : Int) gs = ch at shc fo to_
    refine ⟨Nat.zero_le _, fun q1 n1 => ⟨Nat.zero_le _, fun q2 n2 k2 => fun q3 n3 => ⟨.str t, rfl, sl1, fun q4 n4 => ⟨.str t, rfl, sl3, fun q5 n5 k5 => ⟨.ref c, rfl, fun q6 n6 => ⟨.str t, rfl, .str t, rfl, sl1, fun q7 n7 k7 => ?_⟩⟩⟩⟩⟩⟩
    have s1' := same_upd (o := .tup []) n1
    have s2' := same_upd (o := .lst []) n2
    have s3' := same_upd (o := .dK []) n3
    have s4' := same_upd (o := .tup [V.str t]) n4
    have s5' := same_upd (o := .lst [V.str t, .str "b", .str "a"]) n5
    have s6' := same_upd (o := .dK []) n6
    have s7' := same_upd (o := .lst [V.str t]) n7
    have g1 := upd_same (H := Ha) (a := q1) (o := .tup [])
    have g2 := upd_same (H := upd Ha q1 (.tup [])) (a := q2) (o := .lst [])
    generalize upd Ha q1 (.tup []) = Hb at *
    generalize upd Hb q2 (.lst []) = Hc at *
    have g3 := upd_same (H := Hc) (a := q3) (o := .dK [])
    generalize upd Hc q3 (.dK []) = Hd at *
    have g4 := upd_same (H := Hd) (a := q4) (o := .tup [V.str t])
    generalize upd Hd q4 (.tup [V.str t]) = He at *
    have g5 := upd_same (H := He) (a := q5) (o := .lst [V.str t, .str "b", .str "a"])
    generalize upd He q5 (.lst [V.str t, .str "b", .str "a"]) = Hf at *
    have g6 := upd_same (H := Hf) (a := q6) (o := .dK [])
    generalize upd Hf q6 (.dK []) = Hg at *
    have g7 := upd_same (H := Hg) (a := q7) (o := .lst [V.str t])
    generalize upd Hg q7 (.lst [V.str t]) = Hh at *
    have ne76 : q7 ≠ q6 := (ne_of_none g6 n7).symm
    refine ⟨s7' _ _ g6, [(Sum.inr "b", .str t), (Sum.inr "a", .ref q7)], rfl, by show 2 ≤ 15; decide, by show 10 ≤ sizeLine; decide, fun ls nls kls => ?_⟩
    have hKV : mergeK [] [((Sum.inr "b" : Key), V.str t), (Sum.inr "a", .ref q7)] = [((Sum.inr "b" : Key), V.str t), (Sum.inr "a", .ref q7)] := by rfl
    rw [hKV] at nls ⊢
    have sF : Same Hf (upd Hh q6 (.dK [((Sum.inr "b" : Key), V.str t), (Sum.inr "a", .ref q7)])) := fun b o e => by
      rw [upd_ne (ne_of_none e n6)]
      exact s7' _ _ (s6' _ _ e)
    have h6 := upd_same (H := Hh) (a := q6) (o := .dK [((Sum.inr "b" : Key), V.str t), (Sum.inr "a", .ref q7)])
    have h7 : upd Hh q6 (.dK [((Sum.inr "b" : Key), V.str t), (Sum.inr "a", .ref q7)]) q7 = some (.lst [V.str t]) := by
      rw [upd_ne ne76]
      exact g7
    generalize upd Hh q6 (.dK [((Sum.inr "b" : Key), V.str t), (Sum.inr "a", .ref q7)]) = Hi at *
    have sl' := same_upd (o := .lst [V.non, .int 7, .bl true, .ref q1, .ref q2, .ref q3, .ref q4, .ref q5, .ref c, .ref q6]) nls
    have hls := upd_same (H := Hi) (a := ls) (o := .lst [V.non, .int 7, .bl true, .ref q1, .ref q2, .ref q3, .ref q4, .ref q5, .ref c, .ref q6])
    generalize upd Hi ls (.lst [V.non, .int 7, .bl true, .ref q1, .ref q2, .ref q3, .ref q4, .ref q5, .ref c, .ref q6]) = Hj at *
    have tj : Same Hf Hj := sF.trans sl'
    have te : Same He Hj := s5'.trans tj
    have td : Same Hd Hj := s4'.trans te
    have tc : Same Hc Hj := s3'.trans td
    have tb : Same Hb Hj := s2'.trans tc
    have ta' : Same Ha Hj := s1'.trans tb
    have shA : ShAll Hj [V.non, .int 7, .bl true, .ref q1, .ref q2, .ref q3, .ref q4, .ref q5, .ref c, .ref q6] (odd05 t ch) :=
      .cons .non (.cons (.int _) (.cons (.bl _) (.cons (.tup (tb _ _ g1) .nil) (.cons (.lst (tc _ _ g2) k2 .nil) (.cons (.dic (kvs := []) (td _ _ g3) .nil) (.cons (.tup (te _ _ g4) (.cons (.str _) .nil)) (.cons (.lst (tj _ _ g5) k5 (.cons (.str _) (.cons (.str _) (.cons (.str _) .nil)))) (.cons (shc.same ta') (.cons (.dic (sl' _ _ h6) (.cons (.str _) (.cons (.lst (sl' _ _ h7) k7 (.cons (.str _) .nil)) .nil))) .nil)))))))))
    have tabsJ := ta.gr' (Gr.of ta')
    have DJ := Da.same ta'
    generalize [V.non, .int 7, .bl true, .ref q1, .ref q2, .ref q3, .ref q4, .ref q5, .ref c, .ref q6] = zs at hls shA
    refine ⟨ls, rfl, ⟨_, SqL.of hls⟩, for_list (K := K) (a := ls) (xs := zs) (fun i σ H' => ∃ y9 y10, σ = [some (.ref a), some (.ref d), y2, y3, some (.ref c), some (.str t), y6, y7, y8, y9, y10, y11, y12, y13, y14, y15, y16] ∧ Gr Hj H') ⟨_, _, rfl, Gr.refl⟩ (fun i σ H' _ ⟨_, _, _, z⟩ => SqL.of (z.lst hls)) ?_ ?_⟩
    · rintro i v σ Hk hv ⟨y9, y10, rfl, gk⟩
      obtain ⟨e, he, sh⟩ := shA.get hv
      have hem := List.mem_of_getElem? he
      have fe := fo e hem
      obtain ⟨tv, ns_⟩ := to_ e hem
      obtain ⟨able, _, _, deep⟩ := fine_iff.mp fe
      have fits := fine_fits fe (by decide)
      refine ⟨v, rfl, v, e, rfl, sh.gr gk, able, fits, by omega, ?_⟩
      refine ⟨v, rfl, v, e, rfl, sh.gr gk, (fun z k => absurd k (ns_ z)), tabsJ.gr' gk, fun Hl gl => ?_⟩
      rw [tv]
      have gl := gk.trans gl
      refine ⟨true, true, rfl, rfl, false, rfl, iteF ?_⟩
      refine ⟨v, rfl, v, e, rfl, sh.gr gl, able, fits, by omega, .str e.shown, rfl, rfl, false, ?_, iteF ?_⟩
      · rw [decide_eq_true rfl]
        rfl
      exact ⟨_, _, rfl, gl⟩
    rintro σ Hk ⟨y9, y10, rfl, gk⟩
    have Dk := DJ.gr gk
    have tk := tabsJ.gr' gk
    have nlS : (Str.ofString "\n").length = 1 := by decide +kernel
    refine ⟨fun σ H' => ∃ y8 y9 y10 y11 y12 y13 y16, σ = [some (.ref a), some (.ref d), y2, y3, some (.ref c), some (.str t), y6, y7, y8, y9, y10, y11, y12, y13, y14, y15, y16] ∧ DeckC H' d l 30000 ∧ Tabs H' T.tabs, ?_, ?_⟩
    · refine ⟨.ref d, rfl, d, l, 16, _, rfl, Dk, by show (3000 * ((6 : Int).toNat : Nat) : Int) < 1000000000; decide, by decide, by decide, fun Hl v Dl fl _ _ => ⟨rfl, _, rfl, ite2 (fun _ => ?_) (fun _ => ?_)⟩⟩
      · replace Dl := Dl.mono (show (3000 * ((6 : Int).toNat : Nat) : Int) + 1 ≤ 20000 by decide)
        have tl := tk.fr Dk fl
        refine ⟨.ref d, rfl, d, l, 5, _, rfl, Dl, by decide, by decide, by decide, fun Hm v1 Dm fm u0 u1 => ⟨_, _, rfl, rfl, ?_⟩⟩
        have tm := tl.fr Dl fm
        obtain ⟨st, est, st1⟩ : ∃ st : Nat, (fun i j : Int => V.int (i + j)) 1 v1 = V.int (st : Nat) ∧ 1 ≤ st := by
          obtain ⟨k, rfl⟩ := Int.eq_ofNat_of_zero_le u0
          refine ⟨1 + k, ?_, by omega⟩
          show V.int (1 + (k : Int)) = _
          congr 1
        rw [est]
        refine ⟨.ref d, rfl, d, l, 191, _, rfl, Dm, by decide, by decide, by decide, fun Hn v2 Dn fn w0 w1 => ⟨_, _, rfl, rfl, ?_⟩⟩
        have tn := tm.fr Dm fn
        obtain ⟨cnt, ecn, cn1⟩ : ∃ cn : Nat, (fun i j : Int => V.int (i + j)) 1000 v2 = V.int (cn : Nat) ∧ cn ≤ 1190 := by
          obtain ⟨k, rfl⟩ := Int.eq_ofNat_of_zero_le w0
          refine ⟨1000 + k, ?_, by omega⟩
          show V.int (1000 + (k : Int)) = _
          congr 1
        rw [ecn]
        refine ⟨cnt, rfl, by omega, by omega, fun I nI => ?_⟩
        have oI := Dn.off nI
        refine lc_range (lo := 0) (n := (cnt : Int).toNat) (fun j H' => Same Hn (hd1 I H') ∧ ∃ zs : List Str, H' I = some (.lst (zs.map V.str)) ∧ wt zs ≤ 5 * j ∧ zs.length = j) ⟨hd1_of (same_upd nI) nI, [], upd_same, Nat.zero_le _, rfl⟩ ?_ ?_
        · rintro j H3 hj ⟨s3, zs, hI, wz, lz⟩
          have hj' : j < cnt := by have : j < (cnt : Int).toNat := hj; omega
          refine ⟨rfl, sl2, fun p np => ?_⟩
          have s4 := same_upd (o := (HO.lst [V.str (Str.ofString "01 0"), V.str (Str.ofString "10 3")])) np
          have h4 : upd H3 p (HO.lst [V.str (Str.ofString "01 0"), V.str (Str.ofString "10 3")]) p = some (HO.lst [V.str (Str.ofString "01 0"), V.str (Str.ofString "10 3")]) := upd_same
          generalize upd H3 p (HO.lst [V.str (Str.ofString "01 0"), V.str (Str.ofString "10 3")]) = H4 at s4 h4 ⊢
          have hI4 := s4 _ _ hI
          have s34 : Same Hn (hd1 I H4) := s3.trans (hd1_same s4)
          have nx : ∀ b : Bool, ∃ z : Str, atI [V.str (Str.ofString "01 0"), V.str (Str.ofString "10 3")] (if b = true then 1 else 0) = some (.str z) ∧ z.length = 4 := fun b => by
            cases b
            · exact ⟨_, rfl, by decide +kernel⟩
            · exact ⟨_, rfl, by decide +kernel⟩
          have fin : ∀ z : Str, z.length = 4 → ∃ acc, H4 I = some (HO.lst acc) ∧ acc.length < sizeLine ∧ (Same Hn (hd1 I (upd H4 I (.lst (acc ++ [V.str z])))) ∧ ∃ zs : List Str, upd H4 I (.lst (acc ++ [V.str z])) I = some (.lst (zs.map V.str)) ∧ wt zs ≤ 5 * (j + 1) ∧ zs.length = j + 1) := fun z hz => by
            refine ⟨_, hI4, ?_, s34.trans hd1_upd, zs ++ [z], by rw [upd_same, List.map_append]; rfl, ?_, by rw [List.length_append, lz]; rfl⟩
            · rw [List.length_map, lz]
              exact Nat.lt_of_lt_of_le (show j < 2000 by omega) (by decide)
            · rw [wt_app, wt_cons, wt_nil, hz]
              omega
          refine ⟨.int (0 + (j : Nat)), rfl, _, _, rfl, rfl, _, rfl, ite2 (fun _ => ?_) (fun _ => ?_)⟩
          · refine ⟨.int (0 + (j : Nat)), rfl, .int (st : Nat), rfl, _, _, rfl, rfl, (by omega : (0 : Int) < (st : Nat)), rfl, .inr ⟨_, rfl, ?_⟩⟩
            obtain ⟨z, hat, hz⟩ := nx (decide (V.int ((0 + (j : Nat)) % (st : Nat)) = V.int 0))
            exact ⟨p, _, _, _, rfl, rfl, SqL.of h4, hat, fin z hz⟩
          · obtain ⟨z, hat, hz⟩ := nx false
            exact .inr ⟨_, rfl, p, _, _, _, rfl, rfl, SqL.of h4, hat, fin z hz⟩
        rintro H3 ⟨s3, zs, hI, wz, lz⟩
        have s03 : Same Hn H3 := fun b o e => hd1_le _ _ (s3 _ _ e)
        have D3 := Dn.same s03
        have LI : LT H3 I 6000 := ⟨zs, hI, by
          have : (cnt : Int).toNat = cnt := by omega
          omega⟩
        refine ⟨by show 5 ≤ sizeLine; decide, fun p np => ?_⟩
        have s4 := same_upd (o := (HO.lst [V.str (Str.ofString "01 0"), V.str (Str.ofString "01 9999"), V.str (Str.ofString "0 0"), V.str (Str.ofString "10  3"), V.str (Str.ofString "10 03")])) np
        have h4 : upd H3 p (HO.lst [V.str (Str.ofString "01 0"), V.str (Str.ofString "01 9999"), V.str (Str.ofString "0 0"), V.str (Str.ofString "10  3"), V.str (Str.ofString "10 03")]) p = some (HO.lst [V.str (Str.ofString "01 0"), V.str (Str.ofString "01 9999"), V.str (Str.ofString "0 0"), V.str (Str.ofString "10  3"), V.str (Str.ofString "10 03")]) := upd_same
        generalize upd H3 p (HO.lst [V.str (Str.ofString "01 0"), V.str (Str.ofString "01 9999"), V.str (Str.ofString "0 0"), V.str (Str.ofString "10  3"), V.str (Str.ofString "10 03")]) = H4 at s4 h4 ⊢
        have op := D3.off np
        refine ⟨.ref d, rfl, d, l, 5, _, rfl, D3.same s4, by decide, by decide, by decide, fun H5 u D5 f5 u0 u1 => ?_⟩
        obtain ⟨y, hy, ly⟩ : ∃ y : Str, atI [V.str (Str.ofString "01 0"), V.str (Str.ofString "01 9999"), V.str (Str.ofString "0 0"), V.str (Str.ofString "10  3"), V.str (Str.ofString "10 03")] u = some (.str y) ∧ y.length ≤ 7 := by
          have : u = 0 ∨ u = 1 ∨ u = 2 ∨ u = 3 ∨ u = 4 := by omega
          rcases this with rfl | rfl | rfl | rfl | rfl
          · exact ⟨_, rfl, by decide +kernel⟩
          · exact ⟨_, rfl, by decide +kernel⟩
          · exact ⟨_, rfl, by decide +kernel⟩
          · exact ⟨_, rfl, by decide +kernel⟩
          · exact ⟨_, rfl, by decide +kernel⟩
        refine ⟨p, _, u, _, rfl, rfl, SqL.of (f5 _ _ op.1 op.2 h4), hy, ?_⟩
        have t5 := (tn.gr' (Gr.of (s03.trans s4))).fr (D3.same s4) f5
        have LI5 := (LI.same s4).fr f5 oI
        refine ⟨.ref I, rfl, .ref I, rfl, _, rfl, _, rfl, slL LI5 fun q8 H6 nq8 s6 h6 => ?_⟩
        refine ⟨.str y, rfl, sl1, fun e1 ne1 => ?_⟩
        have s7 := same_upd (o := (HO.lst [V.str y])) ne1
        have h7 : upd H6 e1 (HO.lst [V.str y]) e1 = some (HO.lst [V.str y]) := upd_same
        generalize upd H6 e1 (HO.lst [V.str y]) = H7 at s7 h7 ⊢
        have Le : LT H7 e1 8 := ⟨[y], h7, by rw [wt_cons, wt_nil]; omega⟩
        refine catL (h6.same s7) Le (by decide) fun q9 H8 nq9 s8 h8 => ?_
        refine ⟨sl2, fun tt ntt => ?_⟩
        have s9 := same_upd (o := (HO.tup [V.ref I, V.ref q9])) ntt
        have h9 : upd H8 tt (HO.tup [V.ref I, V.ref q9]) tt = some (HO.tup [V.ref I, V.ref q9]) := upd_same
        generalize upd H8 tt (HO.tup [V.ref I, V.ref q9]) = H9 at s9 h9 ⊢
        have s59 := ((s6.trans s7).trans s8).trans s9
        have LI9 := LI5.same s59
        have Lq9 := h8.same s9
        have D9 := D5.same s59
        have t9 := t5.gr' (Gr.of s59)
        refine ⟨tt, rfl, ⟨_, SqT.of h9⟩, for_tup (K := K) (a := tt) (xs := [V.ref I, V.ref q9]) (fun j σ H' => ∃ y13 y16, σ = [some (.ref a), some (.ref d), y2, y3, some (.ref c), some (.str t), y6, y7, some (.int (st : Nat)), y9, y10, some (.ref I), some (.str y), y13, y14, y15, y16] ∧ Gr H9 H') ⟨_, _, rfl, Gr.refl⟩ (fun j σ H' _ ⟨_, _, _, g⟩ => SqT.of (g.tup h9)) ?_ ?_⟩
        · rintro j x σ H10 hx ⟨y13, y16, rfl, g10⟩
          obtain ⟨b, rfl, hb⟩ : ∃ b, x = .ref b ∧ LT H9 b 6008 := by
            rcases j with _ | _ | j
            · obtain rfl := Option.some.inj hx
              obtain ⟨z, h1, h2⟩ := LI9
              exact ⟨I, rfl, z, h1, by omega⟩
            · obtain rfl := Option.some.inj hx
              exact ⟨q9, rfl, Lq9⟩
            · cases hx
          have hb10 : LT H10 b 6008 := by
            obtain ⟨z, h1, h2⟩ := hb
            exact ⟨z, g10.lst h1, h2⟩
          refine ⟨⟨_, rfl⟩, sl1, fun e2 ne2 => ?_⟩
          have s11 := same_upd (o := (HO.lst [V.str (Str.ofString "inputs 1")])) ne2
          have h11 : upd H10 e2 (HO.lst [V.str (Str.ofString "inputs 1")]) e2 = some (HO.lst [V.str (Str.ofString "inputs 1")]) := upd_same
          generalize upd H10 e2 (HO.lst [V.str (Str.ofString "inputs 1")]) = H11 at s11 h11 ⊢
          have Le2 : LT H11 e2 9 := ⟨[Str.ofString "inputs 1"], h11, by decide +kernel⟩
          refine ⟨.ref b, rfl, catL Le2 (hb10.same s11) (by decide) fun q10 H12 nq10 s12 ⟨zs, hz, wz⟩ => ?_⟩
          have t12 := (t9.gr' g10).gr' (Gr.of (s11.trans s12))
          have lj := Nat.le_trans (wt_join (Str.ofString "\n") nlS zs) wz
          refine ⟨Str.ofString "\n", q10, zs, rfl, rfl, .inl (SqL.of hz), wt_fit _ nlS _ (by omega), ?_⟩
          generalize Txt.join (Str.ofString "\n") zs = tx at lj ⊢
          obtain ⟨L, rfl⟩ : ∃ L : List Nat, tx = SX.S L := ⟨tx.cps.toList, (SX.S_tl tx).symm⟩
          rw [SX.S_len] at lj
          refine ⟨L, rfl, by omega, t12, fun H13 g13 => ⟨true, rfl, iteF ?_⟩⟩
          exact ⟨_, _, rfl, (g10.trans (Gr.of (s11.trans s12))).trans g13⟩
        · rintro σ H10 ⟨y13, y16, rfl, g10⟩
          exact ⟨_, _, _, _, _, _, _, rfl, (D9.gr g10).mono (by decide), t9.gr' g10⟩
      · exact ⟨_, _, _, _, _, _, _, rfl, Dl.mono (show (3000 * ((6 : Int).toNat : Nat) : Int) + 1 ≤ 30000 by decide), tk.fr Dk fl⟩
    rintro σ Hz ⟨y8, y9, y10, y11, y12, y13, y16, rfl, Dz, tz⟩
    refine ⟨.ref d, rfl, d, l, 9, _, rfl, Dz, by decide, by decide, by decide, fun Hp x Dp fp x0 x1 => ?_⟩
    have tp := tz.fr Dz fp
    obtain ⟨cg, hcg, cg1, cg2⟩ : ∃ cg : Nat, (Str.ofString "123456789").cps[x.toNat]? = some cg ∧ 49 ≤ cg ∧ cg ≤ 57 := by
      have e : (Str.ofString "123456789").cps = #[49, 50, 51, 52, 53, 54, 55, 56, 57] := by decide +kernel
      rw [e]
      have : x = 0 ∨ x = 1 ∨ x = 2 ∨ x = 3 ∨ x = 4 ∨ x = 5 ∨ x = 6 ∨ x = 7 ∨ x = 8 := by omega
      rcases this with rfl | rfl | rfl | rfl | rfl | rfl | rfl | rfl | rfl
      · exact ⟨49, rfl, by decide, by decide⟩
      · exact ⟨50, rfl, by decide, by decide⟩
      · exact ⟨51, rfl, by decide, by decide⟩
      · exact ⟨52, rfl, by decide, by decide⟩
      · exact ⟨53, rfl, by decide, by decide⟩
      · exact ⟨54, rfl, by decide, by decide⟩
      · exact ⟨55, rfl, by decide, by decide⟩
      · exact ⟨56, rfl, by decide, by decide⟩
      · exact ⟨57, rfl, by decide, by decide⟩
    have l9 : (Str.ofString "123456789").length = 9 := by decide +kernel
    refine ⟨_, _, cg, rfl, rfl, x0, by omega, by rw [l9]; exact x1, hcg, ?_⟩
    refine ⟨.ref d, rfl, d, l, 1600, _, rfl, Dp, by decide, by decide, by decide, fun Hq y Dq fq y0 y1 => ⟨_, _, rfl, rfl, ?_⟩⟩
    have tq := tp.fr Dp fq
    obtain ⟨k, ek, k1, k2⟩ : ∃ k : Nat, (fun i j : Int => V.int (i + j)) 4301 y = V.int (k : Nat) ∧ 4301 ≤ k ∧ k ≤ 5900 := by
      obtain ⟨k, rfl⟩ := Int.eq_ofNat_of_zero_le y0
      refine ⟨4301 + k, ?_, by omega, by omega⟩
      show V.int (4301 + (k : Int)) = _
      congr 1
    rw [ek]
    refine ⟨_, _, rfl, rfl, by show 1 ≤ 16; decide, by omega, by omega, ?_⟩
    rw [mul_rep cg k (by omega)]
    have wl : (List.replicate cg k).length = (List.replicate cg k).length := rfl
    generalize hw : List.replicate k cg = wd
    have lw : wd.length = k := by rw [← hw, List.length_replicate]
    have f10 : 10 ∉ wd := by rw [← hw]; exact rep_free (by omega)
    have f32 : 32 ∉ wd := by rw [← hw]; exact rep_free (by omega)
    refine ⟨sl3, fun p3 n3 => ?_⟩
    have sr := same_upd (o := (HO.lst [V.str (Str.ofString "inputs 4\n0110100110010110 0 1 2 3"), V.str (Str.ofString "inputs 1\n0"), V.str (Str.ofString "inputs 2\n1\n0110 0 1")])) n3
    have hr3 : upd Hq p3 (HO.lst [V.str (Str.ofString "inputs 4\n0110100110010110 0 1 2 3"), V.str (Str.ofString "inputs 1\n0"), V.str (Str.ofString "inputs 2\n1\n0110 0 1")]) p3 = some (HO.lst [V.str (Str.ofString "inputs 4\n0110100110010110 0 1 2 3"), V.str (Str.ofString "inputs 1\n0"), V.str (Str.ofString "inputs 2\n1\n0110 0 1")]) := upd_same
    generalize upd Hq p3 (HO.lst [V.str (Str.ofString "inputs 4\n0110100110010110 0 1 2 3"), V.str (Str.ofString "inputs 1\n0"), V.str (Str.ofString "inputs 2\n1\n0110 0 1")]) = Hr at sr hr3 ⊢
    have ea : Str.ofString "\n01 0" = SX.S [10, 48, 49, 32, 48] := by decide +kernel
    have eb : Str.ofString "inputs 1\n01 " = SX.S ((inS7 ++ [49]) ++ [10, 48, 49, 32]) := by decide +kernel
    have ec : Str.ofString "inputs 2\n0110 0 " = SX.S ((inS7 ++ [50]) ++ [10, 48, 49, 49, 48, 32, 48, 32]) := by decide +kernel
    have x1' : SX.S ((inS7 ++ wd) ++ [10, 48, 49, 32, 48]) = SX.S (tx1 wd) := rfl
    have x2' : SX.S (((inS7 ++ [49]) ++ [10, 48, 49, 32]) ++ wd) = SX.S (tx2 wd) := rfl
    have x3' : SX.S (((inS7 ++ [50]) ++ [10, 48, 49, 49, 48, 32, 48, 32]) ++ wd) = SX.S (tx3 wd) := rfl
    have l1 : (tx1 wd).length ≤ 9000 := by
      show ((inS7 ++ wd) ++ [10, 48, 49, 32, 48]).length ≤ 9000
      rw [List.length_append, List.length_append, lw]
      show 7 + k + 5 ≤ 9000
      omega
    have l2 : (tx2 wd).length ≤ 9000 := by
      show (((inS7 ++ [49]) ++ [10, 48, 49, 32]) ++ wd).length ≤ 9000
      rw [List.length_append, lw]
      show 12 + k ≤ 9000
      omega
    have l3 : (tx3 wd).length ≤ 9000 := by
      show (((inS7 ++ [50]) ++ [10, 48, 49, 49, 48, 32, 48, 32]) ++ wd).length ≤ 9000
      rw [List.length_append, lw]
      show 16 + k ≤ 9000
      omega
    have sz : ∀ n : Nat, n ≤ 9000 → n ≤ sizeLine := fun n h => Nat.le_trans h (by decide)
    refine ⟨.ref p3, rfl, .str (SX.S wd), rfl, _, _, rfl, rfl, ?_, _, _, rfl, rfl, ?_, .str (SX.S wd), rfl, _, _, rfl, rfl, ?_, .str (SX.S wd), rfl, _, _, rfl, rfl, ?_, sl3, fun p4 n4 => ?_⟩
    · rw [inS7_S, SX.S_len, SX.S_len, lw]
      exact sz _ (show 7 + k ≤ 9000 by omega)
    · rw [inS7_S, ea, SX.S_cat, SX.S_len, SX.S_len, List.length_append, lw]
      exact sz _ (show 7 + k + 5 ≤ 9000 by omega)
    · rw [eb, SX.S_len, SX.S_len, lw]
      exact sz _ (show 12 + k ≤ 9000 by omega)
    · rw [ec, SX.S_len, SX.S_len, lw]
      exact sz _ (show 16 + k ≤ 9000 by omega)
    rw [inS7_S, ea, eb, ec, SX.S_cat, SX.S_cat, SX.S_cat, SX.S_cat, x1', x2', x3']
    have ss := same_upd (o := (HO.lst [V.str (SX.S (tx1 wd)), V.str (SX.S (tx2 wd)), V.str (SX.S (tx3 wd))])) n4
    have hs4 : upd Hr p4 (HO.lst [V.str (SX.S (tx1 wd)), V.str (SX.S (tx2 wd)), V.str (SX.S (tx3 wd))]) p4 = some (HO.lst [V.str (SX.S (tx1 wd)), V.str (SX.S (tx2 wd)), V.str (SX.S (tx3 wd))]) := upd_same
    generalize upd Hr p4 (HO.lst [V.str (SX.S (tx1 wd)), V.str (SX.S (tx2 wd)), V.str (SX.S (tx3 wd))]) = Hs at ss hs4 ⊢
    refine ⟨p3, p4, _, _, rfl, rfl, ss _ _ hr3, hs4, by show 6 ≤ sizeLine; decide, fun p5 n5 => ?_⟩
    have zS := same_upd (o := HO.lst ([V.str (Str.ofString "inputs 4\n0110100110010110 0 1 2 3"), V.str (Str.ofString "inputs 1\n0"), V.str (Str.ofString "inputs 2\n1\n0110 0 1")] ++ [V.str (SX.S (tx1 wd)), V.str (SX.S (tx2 wd)), V.str (SX.S (tx3 wd))])) n5
    have hz5 := upd_same (H := Hs) (a := p5) (o := HO.lst ([V.str (Str.ofString "inputs 4\n0110100110010110 0 1 2 3"), V.str (Str.ofString "inputs 1\n0"), V.str (Str.ofString "inputs 2\n1\n0110 0 1")] ++ [V.str (SX.S (tx1 wd)), V.str (SX.S (tx2 wd)), V.str (SX.S (tx3 wd))]))
    generalize upd Hs p5 (HO.lst ([V.str (Str.ofString "inputs 4\n0110100110010110 0 1 2 3"), V.str (Str.ofString "inputs 1\n0"), V.str (Str.ofString "inputs 2\n1\n0110 0 1")] ++ [V.str (SX.S (tx1 wd)), V.str (SX.S (tx2 wd)), V.str (SX.S (tx3 wd))])) = Ht at zS hz5 ⊢
    have tt := tq.gr' (Gr.of ((sr.trans ss).trans zS))
    have etl : ∀ L : List Nat, TL.tl (SX.S L) = L := fun L => by simp [TL.tl]
    have six : ∀ v ∈ ([V.str (Str.ofString "inputs 4\n0110100110010110 0 1 2 3"), V.str (Str.ofString "inputs 1\n0"), V.str (Str.ofString "inputs 2\n1\n0110 0 1")] ++ [V.str (SX.S (tx1 wd)), V.str (SX.S (tx2 wd)), V.str (SX.S (tx3 wd))]), ∃ z : Str, v = V.str z ∧ z.length ≤ 9000 ∧ isNetD (netPD (TL.tl z)) = false := by
      intro v hv
      simp only [List.cons_append, List.nil_append, List.mem_cons, List.not_mem_nil, or_false] at hv
      rcases hv with rfl | rfl | rfl | rfl | rfl | rfl
      · exact ⟨_, rfl, by decide +kernel, no4.1⟩
      · exact ⟨_, rfl, by decide +kernel, no4.2.1⟩
      · exact ⟨_, rfl, by decide +kernel, no4.2.2.1⟩
      · exact ⟨_, rfl, by rw [SX.S_len]; exact l1, by rw [etl]; exact no1 f10 (by omega)⟩
      · exact ⟨_, rfl, by rw [SX.S_len]; exact l2, by rw [etl]; exact no2 f10 f32 (by omega)⟩
      · exact ⟨_, rfl, by rw [SX.S_len]; exact l3, by rw [etl]; exact no3 f10 f32 (by omega)⟩
    generalize [V.str (Str.ofString "inputs 4\n0110100110010110 0 1 2 3"), V.str (Str.ofString "inputs 1\n0"), V.str (Str.ofString "inputs 2\n1\n0110 0 1")] ++ [V.str (SX.S (tx1 wd)), V.str (SX.S (tx2 wd)), V.str (SX.S (tx3 wd))] = xs6 at hz5 six
    refine ⟨p5, rfl, ⟨_, SqL.of hz5⟩, for_list (K := K) (a := p5) (xs := xs6) (fun j σ H' => ∃ y9, σ = [some (.ref a), some (.ref d), y2, y3, some (.ref c), some (.str t), y6, y7, y8, y9, y10, y11, y12, y13, some (.str (SX.S wd)), some (.ref p3), y16] ∧ Gr Ht H') ⟨_, rfl, Gr.refl⟩ (fun j σ H' _ ⟨_, _, g⟩ => SqL.of (g.lst hz5)) ?_ ?_⟩
    · rintro j v σ H10 hv ⟨y9, rfl, g10⟩
      obtain ⟨z, rfl, lz, nz⟩ := six v (List.mem_of_getElem? hv)
      refine ⟨.str z, rfl, .str z, .str z, rfl, .str _, (fun z' e => by rw [← PyData.str.inj e]; exact lz), tt.gr' g10, fun H11 g11 => ?_⟩
      rw [told_no nz]
      exact ⟨true, true, rfl, rfl, false, rfl, iteF ⟨_, rfl, g10.trans g11⟩⟩
    rintro σ H10 ⟨y9, rfl, g10⟩
    refine ⟨.str (Str.ofString ""), .str (Str.ofString ""), rfl, .str _, (fun z' e => by rw [← PyData.str.inj e]; decide +kernel), tt.gr' g10, fun H11 g11 => ?_⟩
    rw [told_no no4.2.2.2.1]
    refine ⟨true, true, rfl, rfl, _, rfl, iteT ?_⟩
    refine ⟨.str (Str.ofString "inputs 1"), .str (Str.ofString "inputs 1"), rfl, .str _, (fun z' e => by rw [← PyData.str.inj e]; decide +kernel), (tt.gr' g10).gr' g11, fun H12 g12 => ?_⟩
    rw [told_no no4.2.2.2.2]
    exact ⟨true, true, rfl, rfl, q _⟩

end
def d_is_whole : He.DefD := ⟨("is_whole", none), "is_whole", "is_whole", defArgs s_is_whole, defBody s_is_whole, defScope s_is_whole, [], []⟩
def d_is_signs : He.DefD := ⟨("is_signs", none), "is_signs", "is_signs", defArgs s_is_signs, defBody s_is_signs, defScope s_is_signs, [], []⟩
def d_is_net : He.DefD := ⟨("is_net", none), "is_net", "is_net", defArgs s_is_net, defBody s_is_net, defScope s_is_net, [], []⟩
def d_is_gate : He.DefD := ⟨("is_gate", none), "is_gate", "is_gate", defArgs s_is_gate, defBody s_is_gate, defScope s_is_gate, [], []⟩
def d_read_net : He.DefD := ⟨("read_net", none), "read_net", "read_net", defArgs s_read_net, defBody s_read_net, defScope s_read_net, [], []⟩
def d_read_head : He.DefD := ⟨("read_head", none), "read_head", "read_head", defArgs s_read_head, defBody s_read_head, defScope s_read_head, [], []⟩
def d_read_gate : He.DefD := ⟨("read_gate", none), "read_gate", "read_gate", defArgs s_read_gate, defBody s_read_gate, defScope s_read_gate, [], []⟩
def d_read_number : He.DefD := ⟨("read_number", none), "read_number", "read_number", defArgs s_read_number, defBody s_read_number, defScope s_read_number, [], []⟩
def d_deck : He.DefD := ⟨("_law_deck", none), "_law_deck", "_law_deck", defArgs s_deck, defBody s_deck, defScope s_deck, [], []⟩
def d_mixed : He.DefD := ⟨("_law_mixed", none), "_law_mixed", "_law_mixed", defArgs s_mixed, defBody s_mixed, defScope s_mixed, [], []⟩
def d_take : He.DefD := ⟨("_law_take", none), "_law_take", "_law_take", defArgs s_take, defBody s_take, defScope s_take, [], []⟩
def d_gate : He.DefD := ⟨("_law_gate", none), "_law_gate", "_law_gate", defArgs s_gate, defBody s_gate, defScope s_gate, [], []⟩
def d_net : He.DefD := ⟨("_law_net", none), "_law_net", "_law_net", defArgs s_net, defBody s_net, defScope s_net, [], []⟩
def d_shown : He.DefD := ⟨("_law_shown", none), "_law_shown", "_law_shown", defArgs s_shown, defBody s_shown, defScope s_shown, [], []⟩
def d_number : He.DefD := ⟨("_law_number", none), "_law_number", "_law_number", defArgs s_number, defBody s_number, defScope s_number, [], []⟩
def d_read : He.DefD := ⟨("_law_read", none), "_law_read", "_law_read", defArgs s_read, defBody s_read, defScope s_read, [], []⟩
def d_kinds : He.DefD := ⟨("_law_kinds", none), "_law_kinds", "_law_kinds", defArgs s_kinds, defBody s_kinds, defScope s_kinds, [], []⟩
def d_refused : He.DefD := ⟨("_law_refused", none), "_law_refused", "_law_refused", defArgs s_refused, defBody s_refused, defScope s_refused, [], []⟩
def d_bent : He.DefD := ⟨("_law_bent", none), "_law_bent", "_law_bent", defArgs s_bent, defBody s_bent, defScope s_bent, [], []⟩
def d_told : He.DefD := ⟨("_law_told", none), "_law_told", "_law_told", defArgs s_told, defBody s_told, defScope s_told, [], []⟩
def d_right : He.DefD := ⟨("_law_right", none), "_law_right", "_law_right", defArgs s_right, defBody s_right, defScope s_right, [], []⟩
def d_law : He.DefD := ⟨("law", none), "law", "law", defArgs s_law, defBody s_law, defScope s_law, [], []⟩
def fn : List He.DefD := [d_is_whole, d_is_signs, d_is_net, d_is_gate, d_read_net, d_read_head, d_read_gate, d_read_number, d_deck, d_mixed, d_take, d_gate, d_net, d_shown, d_number, d_read, d_kinds, d_refused, d_bent, d_told, d_right, d_law]
def fa : List He.Fa := [.glo "is_whole", .glo "is_signs", .glo "is_net", .glo "is_gate", .glo "read_net", .glo "read_head", .glo "read_gate", .glo "read_number", .glo "_law_deck", .glo "_law_mixed", .glo "_law_take", .glo "_law_gate", .glo "_law_net", .glo "_law_shown", .glo "_law_number", .glo "_law_read", .glo "_law_kinds", .glo "_law_refused", .glo "_law_bent", .glo "_law_told", .glo "_law_right", .glo "law", .free "ValueError", .free "all", .free "bool", .free "enumerate", .free "int", .free "isinstance", .free "len", .free "list", .free "max", .free "min", .free "range", .free "repr", .free "reversed", .free "str", .free "sum", .free "tuple", .int "MOST_INPUTS" 6, .int "MOST_INS" 3, .int "MOST_FIGURES" 40, .glo "NetError", .glo "NoText", .glo "TooMany", .glo "NotFormula", .glo "NoTurn", .glo "NoForms", .glo "NoRow", .exc "NoText", .exc "TooMany", .exc "NotFormula", .exc "NoTurn", .exc "NoForms", .exc "NoRow"]
def tf : List He.Defn := [("is_signs", none), ("is_net", none), ("is_gate", none), ("read_number", none)]
abbrev RR : PySem.W.OpenRow := PySem.W.OpenLaw.row PySem.Challenge.rw_glitchnet_k05_texts_that_write_no_net
def yes : PySem.W.Frag → Bool := fun K => (GxE.excCB K (He.ga K "NoText") && (decide (PySem.W.kitOne K (.ref (He.ga K "NoText")) (.type "ValueError") = some true) && (decide (PySem.W.kitOne K (.ref (He.ga K "NoText")) (.ref (He.ga K "NetError")) = some true) && (decide (PySem.W.exmOne K (.ref (He.ga K "NoText")) (.ref (He.ga K "NetError")) = some true) && (decide (PySem.W.kitOne K (.ref (He.ga K "NoText")) (.ref (He.ga K "NoText")) = some true) && (decide (PySem.W.exmOne K (.ref (He.ga K "NoText")) (.ref (He.ga K "NoText")) = some true) && (decide (PySem.W.kitOne K (.ref (He.ga K "NoText")) (.ref (He.ga K "TooMany")) = some false) && (decide (PySem.W.exmOne K (.ref (He.ga K "NoText")) (.ref (He.ga K "TooMany")) = some false) && (decide (PySem.W.kitOne K (.ref (He.ga K "NoText")) (.ref (He.ga K "NotFormula")) = some false) && (decide (PySem.W.exmOne K (.ref (He.ga K "NoText")) (.ref (He.ga K "NotFormula")) = some false) && (decide (PySem.W.kitOne K (.ref (He.ga K "NoText")) (.ref (He.ga K "NoTurn")) = some false) && (decide (PySem.W.exmOne K (.ref (He.ga K "NoText")) (.ref (He.ga K "NoTurn")) = some false) && (decide (PySem.W.kitOne K (.ref (He.ga K "NoText")) (.ref (He.ga K "NoForms")) = some false) && (decide (PySem.W.exmOne K (.ref (He.ga K "NoText")) (.ref (He.ga K "NoForms")) = some false) && (decide (PySem.W.kitOne K (.ref (He.ga K "NoText")) (.ref (He.ga K "NoRow")) = some false) && (decide (PySem.W.exmOne K (.ref (He.ga K "NoText")) (.ref (He.ga K "NoRow")) = some false) && (GxE.excCB K (He.ga K "TooMany") && (decide (PySem.W.kitOne K (.ref (He.ga K "TooMany")) (.type "ValueError") = some true) && (decide (PySem.W.kitOne K (.ref (He.ga K "TooMany")) (.ref (He.ga K "NetError")) = some true) && (decide (PySem.W.exmOne K (.ref (He.ga K "TooMany")) (.ref (He.ga K "NetError")) = some true) && (decide (PySem.W.kitOne K (.ref (He.ga K "TooMany")) (.ref (He.ga K "NoText")) = some false) && (decide (PySem.W.exmOne K (.ref (He.ga K "TooMany")) (.ref (He.ga K "NoText")) = some false) && (decide (PySem.W.kitOne K (.ref (He.ga K "TooMany")) (.ref (He.ga K "TooMany")) = some true) && (decide (PySem.W.exmOne K (.ref (He.ga K "TooMany")) (.ref (He.ga K "TooMany")) = some true) && (decide (PySem.W.kitOne K (.ref (He.ga K "TooMany")) (.ref (He.ga K "NotFormula")) = some false) && (decide (PySem.W.exmOne K (.ref (He.ga K "TooMany")) (.ref (He.ga K "NotFormula")) = some false) && (decide (PySem.W.kitOne K (.ref (He.ga K "TooMany")) (.ref (He.ga K "NoTurn")) = some false) && (decide (PySem.W.exmOne K (.ref (He.ga K "TooMany")) (.ref (He.ga K "NoTurn")) = some false) && (decide (PySem.W.kitOne K (.ref (He.ga K "TooMany")) (.ref (He.ga K "NoForms")) = some false) && (decide (PySem.W.exmOne K (.ref (He.ga K "TooMany")) (.ref (He.ga K "NoForms")) = some false) && (decide (PySem.W.kitOne K (.ref (He.ga K "TooMany")) (.ref (He.ga K "NoRow")) = some false) && (decide (PySem.W.exmOne K (.ref (He.ga K "TooMany")) (.ref (He.ga K "NoRow")) = some false) && (GxE.excCB K (He.ga K "NotFormula") && (decide (PySem.W.kitOne K (.ref (He.ga K "NotFormula")) (.type "ValueError") = some true) && (decide (PySem.W.kitOne K (.ref (He.ga K "NotFormula")) (.ref (He.ga K "NetError")) = some true) && (decide (PySem.W.exmOne K (.ref (He.ga K "NotFormula")) (.ref (He.ga K "NetError")) = some true) && (decide (PySem.W.kitOne K (.ref (He.ga K "NotFormula")) (.ref (He.ga K "NoText")) = some false) && (decide (PySem.W.exmOne K (.ref (He.ga K "NotFormula")) (.ref (He.ga K "NoText")) = some false) && (decide (PySem.W.kitOne K (.ref (He.ga K "NotFormula")) (.ref (He.ga K "TooMany")) = some false) && (decide (PySem.W.exmOne K (.ref (He.ga K "NotFormula")) (.ref (He.ga K "TooMany")) = some false) && (decide (PySem.W.kitOne K (.ref (He.ga K "NotFormula")) (.ref (He.ga K "NotFormula")) = some true) && (decide (PySem.W.exmOne K (.ref (He.ga K "NotFormula")) (.ref (He.ga K "NotFormula")) = some true) && (decide (PySem.W.kitOne K (.ref (He.ga K "NotFormula")) (.ref (He.ga K "NoTurn")) = some false) && (decide (PySem.W.exmOne K (.ref (He.ga K "NotFormula")) (.ref (He.ga K "NoTurn")) = some false) && (decide (PySem.W.kitOne K (.ref (He.ga K "NotFormula")) (.ref (He.ga K "NoForms")) = some false) && (decide (PySem.W.exmOne K (.ref (He.ga K "NotFormula")) (.ref (He.ga K "NoForms")) = some false) && (decide (PySem.W.kitOne K (.ref (He.ga K "NotFormula")) (.ref (He.ga K "NoRow")) = some false) && (decide (PySem.W.exmOne K (.ref (He.ga K "NotFormula")) (.ref (He.ga K "NoRow")) = some false) && (GxE.excCB K (He.ga K "NoTurn") && (decide (PySem.W.kitOne K (.ref (He.ga K "NoTurn")) (.type "ValueError") = some true) && (decide (PySem.W.kitOne K (.ref (He.ga K "NoTurn")) (.ref (He.ga K "NetError")) = some true) && (decide (PySem.W.exmOne K (.ref (He.ga K "NoTurn")) (.ref (He.ga K "NetError")) = some true) && (decide (PySem.W.kitOne K (.ref (He.ga K "NoTurn")) (.ref (He.ga K "NoText")) = some false) && (decide (PySem.W.exmOne K (.ref (He.ga K "NoTurn")) (.ref (He.ga K "NoText")) = some false) && (decide (PySem.W.kitOne K (.ref (He.ga K "NoTurn")) (.ref (He.ga K "TooMany")) = some false) && (decide (PySem.W.exmOne K (.ref (He.ga K "NoTurn")) (.ref (He.ga K "TooMany")) = some false) && (decide (PySem.W.kitOne K (.ref (He.ga K "NoTurn")) (.ref (He.ga K "NotFormula")) = some false) && (decide (PySem.W.exmOne K (.ref (He.ga K "NoTurn")) (.ref (He.ga K "NotFormula")) = some false) && (decide (PySem.W.kitOne K (.ref (He.ga K "NoTurn")) (.ref (He.ga K "NoTurn")) = some true) && (decide (PySem.W.exmOne K (.ref (He.ga K "NoTurn")) (.ref (He.ga K "NoTurn")) = some true) && (decide (PySem.W.kitOne K (.ref (He.ga K "NoTurn")) (.ref (He.ga K "NoForms")) = some false) && (decide (PySem.W.exmOne K (.ref (He.ga K "NoTurn")) (.ref (He.ga K "NoForms")) = some false) && (decide (PySem.W.kitOne K (.ref (He.ga K "NoTurn")) (.ref (He.ga K "NoRow")) = some false) && (decide (PySem.W.exmOne K (.ref (He.ga K "NoTurn")) (.ref (He.ga K "NoRow")) = some false) && (GxE.excCB K (He.ga K "NoForms") && (decide (PySem.W.kitOne K (.ref (He.ga K "NoForms")) (.type "ValueError") = some true) && (decide (PySem.W.kitOne K (.ref (He.ga K "NoForms")) (.ref (He.ga K "NetError")) = some true) && (decide (PySem.W.exmOne K (.ref (He.ga K "NoForms")) (.ref (He.ga K "NetError")) = some true) && (decide (PySem.W.kitOne K (.ref (He.ga K "NoForms")) (.ref (He.ga K "NoText")) = some false) && (decide (PySem.W.exmOne K (.ref (He.ga K "NoForms")) (.ref (He.ga K "NoText")) = some false) && (decide (PySem.W.kitOne K (.ref (He.ga K "NoForms")) (.ref (He.ga K "TooMany")) = some false) && (decide (PySem.W.exmOne K (.ref (He.ga K "NoForms")) (.ref (He.ga K "TooMany")) = some false) && (decide (PySem.W.kitOne K (.ref (He.ga K "NoForms")) (.ref (He.ga K "NotFormula")) = some false) && (decide (PySem.W.exmOne K (.ref (He.ga K "NoForms")) (.ref (He.ga K "NotFormula")) = some false) && (decide (PySem.W.kitOne K (.ref (He.ga K "NoForms")) (.ref (He.ga K "NoTurn")) = some false) && (decide (PySem.W.exmOne K (.ref (He.ga K "NoForms")) (.ref (He.ga K "NoTurn")) = some false) && (decide (PySem.W.kitOne K (.ref (He.ga K "NoForms")) (.ref (He.ga K "NoForms")) = some true) && (decide (PySem.W.exmOne K (.ref (He.ga K "NoForms")) (.ref (He.ga K "NoForms")) = some true) && (decide (PySem.W.kitOne K (.ref (He.ga K "NoForms")) (.ref (He.ga K "NoRow")) = some false) && (decide (PySem.W.exmOne K (.ref (He.ga K "NoForms")) (.ref (He.ga K "NoRow")) = some false) && (GxE.excCB K (He.ga K "NoRow") && (decide (PySem.W.kitOne K (.ref (He.ga K "NoRow")) (.type "ValueError") = some true) && (decide (PySem.W.kitOne K (.ref (He.ga K "NoRow")) (.ref (He.ga K "NetError")) = some true) && (decide (PySem.W.exmOne K (.ref (He.ga K "NoRow")) (.ref (He.ga K "NetError")) = some true) && (decide (PySem.W.kitOne K (.ref (He.ga K "NoRow")) (.ref (He.ga K "NoText")) = some false) && (decide (PySem.W.exmOne K (.ref (He.ga K "NoRow")) (.ref (He.ga K "NoText")) = some false) && (decide (PySem.W.kitOne K (.ref (He.ga K "NoRow")) (.ref (He.ga K "TooMany")) = some false) && (decide (PySem.W.exmOne K (.ref (He.ga K "NoRow")) (.ref (He.ga K "TooMany")) = some false) && (decide (PySem.W.kitOne K (.ref (He.ga K "NoRow")) (.ref (He.ga K "NotFormula")) = some false) && (decide (PySem.W.exmOne K (.ref (He.ga K "NoRow")) (.ref (He.ga K "NotFormula")) = some false) && (decide (PySem.W.kitOne K (.ref (He.ga K "NoRow")) (.ref (He.ga K "NoTurn")) = some false) && (decide (PySem.W.exmOne K (.ref (He.ga K "NoRow")) (.ref (He.ga K "NoTurn")) = some false) && (decide (PySem.W.kitOne K (.ref (He.ga K "NoRow")) (.ref (He.ga K "NoForms")) = some false) && (decide (PySem.W.exmOne K (.ref (He.ga K "NoRow")) (.ref (He.ga K "NoForms")) = some false) && (decide (PySem.W.kitOne K (.ref (He.ga K "NoRow")) (.ref (He.ga K "NoRow")) = some true) && (decide (PySem.W.exmOne K (.ref (He.ga K "NoRow")) (.ref (He.ga K "NoRow")) = some true) && true))))))))))))))))))))))))))))))))))))))))))))))))))))))))))))))))))))))))))))))))))))))))))))))))
abbrev hk : PySem.W.Hook := He.hookX 4 fa fn [] tf yes
def ob (s : PySem.W.SharedT) : He.AlX := He.obsX 4 fa fn [] tf yes (HandSHeadRun.getT s)
theorem ob_eq (s : PySem.W.SharedT) : ob s = hk.obs s.abs := He.obsX_eq (HandSHeadRun.getT_eq s)
theorem run (w : World) : HandSHeadRun.RunEq RR (PySem.W.view RR.prog [36]) hk ob 3000 [("NetError" : PySem.Str), ("NoText" : PySem.Str), ("TooMany" : PySem.Str), ("NotFormula" : PySem.Str), ("NoTurn" : PySem.Str), ("NoForms" : PySem.Str), ("NoRow" : PySem.Str), ("is_whole" : PySem.Str), ("is_signs" : PySem.Str), ("MOST_INPUTS" : PySem.Str), ("MOST_INS" : PySem.Str), ("is_net" : PySem.Str), ("is_gate" : PySem.Str), ("MOST_FIGURES" : PySem.Str), ("read_net" : PySem.Str), ("read_head" : PySem.Str), ("read_gate" : PySem.Str), ("read_number" : PySem.Str), ("_law_deck" : PySem.Str), ("_law_mixed" : PySem.Str), ("_law_take" : PySem.Str), ("_law_gate" : PySem.Str), ("_law_net" : PySem.Str), ("_law_shown" : PySem.Str), ("_law_number" : PySem.Str), ("_law_read" : PySem.Str), ("_law_kinds" : PySem.Str), ("_law_refused" : PySem.Str), ("_law_bent" : PySem.Str), ("_law_told" : PySem.Str), ("_law_right" : PySem.Str)] w := by
  intro os
  kernel_rfl
theorem facts {w : World} {K : PySem.W.Frag} {h : Heap} {mg : Str → Option Value} {f : Addr} (X : K.In h) (G : h.Ns mainGlobals mg) (hfa : mg ("law" : Str) = some (.ref f)) (c : He.SaysX fa fn [] tf yes w h K) : LawAtG PySem.Challenge.rw_glitchnet_k05_texts_that_write_no_net w K CX0 9 63 "_law_script" mg f h := by
  obtain ⟨fd0, D0⟩ := c.t.d.def_ 0 (d := d_is_whole) rfl
  have F0 : Fun K "is_whole" "is_whole" s_is_whole (He.fAd K ("is_whole", none)) fd0 := fun_of D0
  have b0 := F0.binds (ps := ["thing"]) fun _ _ _ _ _ _ us hl => match us, hl with | [_], _ => rfl
  obtain ⟨fd1, D1⟩ := c.t.d.def_ 1 (d := d_is_signs) rfl
  have F1 : Fun K "is_signs" "is_signs" s_is_signs (He.fAd K ("is_signs", none)) fd1 := fun_of D1
  have b1 := F1.binds (ps := ["many", "thing"]) fun _ _ _ _ _ _ us hl => match us, hl with | [_, _], _ => rfl
  obtain ⟨fd2, D2⟩ := c.t.d.def_ 2 (d := d_is_net) rfl
  have F2 : Fun K "is_net" "is_net" s_is_net (He.fAd K ("is_net", none)) fd2 := fun_of D2
  have b2 := F2.binds (ps := ["thing"]) fun _ _ _ _ _ _ us hl => match us, hl with | [_], _ => rfl
  obtain ⟨fd3, D3⟩ := c.t.d.def_ 3 (d := d_is_gate) rfl
  have F3 : Fun K "is_gate" "is_gate" s_is_gate (He.fAd K ("is_gate", none)) fd3 := fun_of D3
  have b3 := F3.binds (ps := ["wires", "thing"]) fun _ _ _ _ _ _ us hl => match us, hl with | [_, _], _ => rfl
  obtain ⟨fd4, D4⟩ := c.t.d.def_ 4 (d := d_read_net) rfl
  have F4 : Fun K "read_net" "read_net" s_read_net (He.fAd K ("read_net", none)) fd4 := fun_of D4
  have b4 := F4.binds (ps := ["text"]) fun _ _ _ _ _ _ us hl => match us, hl with | [_], _ => rfl
  obtain ⟨fd5, D5⟩ := c.t.d.def_ 5 (d := d_read_head) rfl
  have F5 : Fun K "read_head" "read_head" s_read_head (He.fAd K ("read_head", none)) fd5 := fun_of D5
  have b5 := F5.binds (ps := ["line"]) fun _ _ _ _ _ _ us hl => match us, hl with | [_], _ => rfl
  obtain ⟨fd6, D6⟩ := c.t.d.def_ 6 (d := d_read_gate) rfl
  have F6 : Fun K "read_gate" "read_gate" s_read_gate (He.fAd K ("read_gate", none)) fd6 := fun_of D6
  have b6 := F6.binds (ps := ["line"]) fun _ _ _ _ _ _ us hl => match us, hl with | [_], _ => rfl
  obtain ⟨fd7, D7⟩ := c.t.d.def_ 7 (d := d_read_number) rfl
  have F7 : Fun K "read_number" "read_number" s_read_number (He.fAd K ("read_number", none)) fd7 := fun_of D7
  have b7 := F7.binds (ps := ["word"]) fun _ _ _ _ _ _ us hl => match us, hl with | [_], _ => rfl
  obtain ⟨fd8, D8⟩ := c.t.d.def_ 8 (d := d_deck) rfl
  have F8 : Fun K "_law_deck" "_law_deck" s_deck (He.fAd K ("_law_deck", none)) fd8 := fun_of D8
  have b8 := F8.binds (ps := ["_law_script"]) fun _ _ _ _ _ _ us hl => match us, hl with | [_], _ => rfl
  obtain ⟨fd9, D9⟩ := c.t.d.def_ 9 (d := d_mixed) rfl
  have F9 : Fun K "_law_mixed" "_law_mixed" s_mixed (He.fAd K ("_law_mixed", none)) fd9 := fun_of D9
  have b9 := F9.binds (ps := ["_law_cell", "_law_k"]) fun _ _ _ _ _ _ us hl => match us, hl with | [_, _], _ => rfl
  obtain ⟨fd10, D10⟩ := c.t.d.def_ 10 (d := d_take) rfl
  have F10 : Fun K "_law_take" "_law_take" s_take (He.fAd K ("_law_take", none)) fd10 := fun_of D10
  have b10 := F10.binds (ps := ["_law_deck_here", "_law_most"]) fun _ _ _ _ _ _ us hl => match us, hl with | [_, _], _ => rfl
  obtain ⟨fd11, D11⟩ := c.t.d.def_ 11 (d := d_gate) rfl
  have F11 : Fun K "_law_gate" "_law_gate" s_gate (He.fAd K ("_law_gate", none)) fd11 := fun_of D11
  have b11 := F11.binds (ps := ["_law_deck_here", "_law_wires", "_law_near"]) fun _ _ _ _ _ _ us hl => match us, hl with | [_, _, _], _ => rfl
  obtain ⟨fd12, D12⟩ := c.t.d.def_ 12 (d := d_net) rfl
  have F12 : Fun K "_law_net" "_law_net" s_net (He.fAd K ("_law_net", none)) fd12 := fun_of D12
  have b12 := F12.binds (ps := ["_law_deck_here"]) fun _ _ _ _ _ _ us hl => match us, hl with | [_], _ => rfl
  obtain ⟨fd13, D13⟩ := c.t.d.def_ 13 (d := d_shown) rfl
  have F13 : Fun K "_law_shown" "_law_shown" s_shown (He.fAd K ("_law_shown", none)) fd13 := fun_of D13
  have b13 := F13.binds (ps := ["_law_net_here"]) fun _ _ _ _ _ _ us hl => match us, hl with | [_], _ => rfl
  obtain ⟨fd14, D14⟩ := c.t.d.def_ 14 (d := d_number) rfl
  have F14 : Fun K "_law_number" "_law_number" s_number (He.fAd K ("_law_number", none)) fd14 := fun_of D14
  have b14 := F14.binds (ps := ["_law_word"]) fun _ _ _ _ _ _ us hl => match us, hl with | [_], _ => rfl
  obtain ⟨fd15, D15⟩ := c.t.d.def_ 15 (d := d_read) rfl
  have F15 : Fun K "_law_read" "_law_read" s_read (He.fAd K ("_law_read", none)) fd15 := fun_of D15
  have b15 := F15.binds (ps := ["_law_text"]) fun _ _ _ _ _ _ us hl => match us, hl with | [_], _ => rfl
  obtain ⟨fd16, D16⟩ := c.t.d.def_ 16 (d := d_kinds) rfl
  have F16 : Fun K "_law_kinds" "_law_kinds" s_kinds (He.fAd K ("_law_kinds", none)) fd16 := fun_of D16
  have b16 := F16.binds (ps := ["_law_error"]) fun _ _ _ _ _ _ us hl => match us, hl with | [_], _ => rfl
  obtain ⟨fd17, D17⟩ := c.t.d.def_ 17 (d := d_refused) rfl
  have F17 : Fun K "_law_refused" "_law_refused" s_refused (He.fAd K ("_law_refused", none)) fd17 := fun_of D17
  have b17 := F17.binds (ps := ["_law_error"]) fun _ _ _ _ _ _ us hl => match us, hl with | [_], _ => rfl
  obtain ⟨fd18, D18⟩ := c.t.d.def_ 18 (d := d_bent) rfl
  have F18 : Fun K "_law_bent" "_law_bent" s_bent (He.fAd K ("_law_bent", none)) fd18 := fun_of D18
  have b18 := F18.binds (ps := ["_law_deck_here", "_law_text"]) fun _ _ _ _ _ _ us hl => match us, hl with | [_, _], _ => rfl
  obtain ⟨fd19, D19⟩ := c.t.d.def_ 19 (d := d_told) rfl
  have F19 : Fun K "_law_told" "_law_told" s_told (He.fAd K ("_law_told", none)) fd19 := fun_of D19
  have b19 := F19.binds (ps := ["_law_thing"]) fun _ _ _ _ _ _ us hl => match us, hl with | [_], _ => rfl
  obtain ⟨fd20, D20⟩ := c.t.d.def_ 20 (d := d_right) rfl
  have F20 : Fun K "_law_right" "_law_right" s_right (He.fAd K ("_law_right", none)) fd20 := fun_of D20
  have b20 := F20.binds (ps := ["_law_text"]) fun _ _ _ _ _ _ us hl => match us, hl with | [_], _ => rfl
  obtain ⟨fd21, D21⟩ := c.t.d.def_ 21 (d := d_law) rfl
  have F21 : Fun K "law" "law" s_law (He.fAd K ("law", none)) fd21 := fun_of D21
  have b21 := F21.binds (ps := ["_law_script"]) fun _ _ _ _ _ _ us hl => match us, hl with | [_], _ => rfl
  obtain ⟨q_NoText, kC_NoText, su_NoText, ty_NoText⟩ := He.exc_ok (c.t.d.fact 48 (f := .exc "NoText") rfl)
  obtain ⟨q_TooMany, kC_TooMany, su_TooMany, ty_TooMany⟩ := He.exc_ok (c.t.d.fact 49 (f := .exc "TooMany") rfl)
  obtain ⟨q_NotFormula, kC_NotFormula, su_NotFormula, ty_NotFormula⟩ := He.exc_ok (c.t.d.fact 50 (f := .exc "NotFormula") rfl)
  obtain ⟨q_NoTurn, kC_NoTurn, su_NoTurn, ty_NoTurn⟩ := He.exc_ok (c.t.d.fact 51 (f := .exc "NoTurn") rfl)
  obtain ⟨q_NoForms, kC_NoForms, su_NoForms, ty_NoForms⟩ := He.exc_ok (c.t.d.fact 52 (f := .exc "NoForms") rfl)
  obtain ⟨q_NoRow, kC_NoRow, su_NoRow, ty_NoRow⟩ := He.exc_ok (c.t.d.fact 53 (f := .exc "NoRow") rfl)
  have mo := c.more
  obtain ⟨y0, mo⟩ := He.ba mo
  obtain ⟨y1, mo⟩ := He.ba mo
  obtain ⟨y2, mo⟩ := He.ba mo
  obtain ⟨y3, mo⟩ := He.ba mo
  obtain ⟨y4, mo⟩ := He.ba mo
  obtain ⟨y5, mo⟩ := He.ba mo
  obtain ⟨y6, mo⟩ := He.ba mo
  obtain ⟨y7, mo⟩ := He.ba mo
  obtain ⟨y8, mo⟩ := He.ba mo
  obtain ⟨y9, mo⟩ := He.ba mo
  obtain ⟨y10, mo⟩ := He.ba mo
  obtain ⟨y11, mo⟩ := He.ba mo
  obtain ⟨y12, mo⟩ := He.ba mo
  obtain ⟨y13, mo⟩ := He.ba mo
  obtain ⟨y14, mo⟩ := He.ba mo
  obtain ⟨y15, mo⟩ := He.ba mo
  obtain ⟨y16, mo⟩ := He.ba mo
  obtain ⟨y17, mo⟩ := He.ba mo
  obtain ⟨y18, mo⟩ := He.ba mo
  obtain ⟨y19, mo⟩ := He.ba mo
  obtain ⟨y20, mo⟩ := He.ba mo
  obtain ⟨y21, mo⟩ := He.ba mo
  obtain ⟨y22, mo⟩ := He.ba mo
  obtain ⟨y23, mo⟩ := He.ba mo
  obtain ⟨y24, mo⟩ := He.ba mo
  obtain ⟨y25, mo⟩ := He.ba mo
  obtain ⟨y26, mo⟩ := He.ba mo
  obtain ⟨y27, mo⟩ := He.ba mo
  obtain ⟨y28, mo⟩ := He.ba mo
  obtain ⟨y29, mo⟩ := He.ba mo
  obtain ⟨y30, mo⟩ := He.ba mo
  obtain ⟨y31, mo⟩ := He.ba mo
  obtain ⟨y32, mo⟩ := He.ba mo
  obtain ⟨y33, mo⟩ := He.ba mo
  obtain ⟨y34, mo⟩ := He.ba mo
  obtain ⟨y35, mo⟩ := He.ba mo
  obtain ⟨y36, mo⟩ := He.ba mo
  obtain ⟨y37, mo⟩ := He.ba mo
  obtain ⟨y38, mo⟩ := He.ba mo
  obtain ⟨y39, mo⟩ := He.ba mo
  obtain ⟨y40, mo⟩ := He.ba mo
  obtain ⟨y41, mo⟩ := He.ba mo
  obtain ⟨y42, mo⟩ := He.ba mo
  obtain ⟨y43, mo⟩ := He.ba mo
  obtain ⟨y44, mo⟩ := He.ba mo
  obtain ⟨y45, mo⟩ := He.ba mo
  obtain ⟨y46, mo⟩ := He.ba mo
  obtain ⟨y47, mo⟩ := He.ba mo
  obtain ⟨y48, mo⟩ := He.ba mo
  obtain ⟨y49, mo⟩ := He.ba mo
  obtain ⟨y50, mo⟩ := He.ba mo
  obtain ⟨y51, mo⟩ := He.ba mo
  obtain ⟨y52, mo⟩ := He.ba mo
  obtain ⟨y53, mo⟩ := He.ba mo
  obtain ⟨y54, mo⟩ := He.ba mo
  obtain ⟨y55, mo⟩ := He.ba mo
  obtain ⟨y56, mo⟩ := He.ba mo
  obtain ⟨y57, mo⟩ := He.ba mo
  obtain ⟨y58, mo⟩ := He.ba mo
  obtain ⟨y59, mo⟩ := He.ba mo
  obtain ⟨y60, mo⟩ := He.ba mo
  obtain ⟨y61, mo⟩ := He.ba mo
  obtain ⟨y62, mo⟩ := He.ba mo
  obtain ⟨y63, mo⟩ := He.ba mo
  obtain ⟨y64, mo⟩ := He.ba mo
  obtain ⟨y65, mo⟩ := He.ba mo
  obtain ⟨y66, mo⟩ := He.ba mo
  obtain ⟨y67, mo⟩ := He.ba mo
  obtain ⟨y68, mo⟩ := He.ba mo
  obtain ⟨y69, mo⟩ := He.ba mo
  obtain ⟨y70, mo⟩ := He.ba mo
  obtain ⟨y71, mo⟩ := He.ba mo
  obtain ⟨y72, mo⟩ := He.ba mo
  obtain ⟨y73, mo⟩ := He.ba mo
  obtain ⟨y74, mo⟩ := He.ba mo
  obtain ⟨y75, mo⟩ := He.ba mo
  obtain ⟨y76, mo⟩ := He.ba mo
  obtain ⟨y77, mo⟩ := He.ba mo
  obtain ⟨y78, mo⟩ := He.ba mo
  obtain ⟨y79, mo⟩ := He.ba mo
  obtain ⟨y80, mo⟩ := He.ba mo
  obtain ⟨y81, mo⟩ := He.ba mo
  obtain ⟨y82, mo⟩ := He.ba mo
  obtain ⟨y83, mo⟩ := He.ba mo
  obtain ⟨y84, mo⟩ := He.ba mo
  obtain ⟨y85, mo⟩ := He.ba mo
  obtain ⟨y86, mo⟩ := He.ba mo
  obtain ⟨y87, mo⟩ := He.ba mo
  obtain ⟨y88, mo⟩ := He.ba mo
  obtain ⟨y89, mo⟩ := He.ba mo
  obtain ⟨y90, mo⟩ := He.ba mo
  obtain ⟨y91, mo⟩ := He.ba mo
  obtain ⟨y92, mo⟩ := He.ba mo
  obtain ⟨y93, mo⟩ := He.ba mo
  obtain ⟨y94, mo⟩ := He.ba mo
  obtain ⟨y95, mo⟩ := He.ba mo
  have e := hfa.symm.trans (He.glo_ok X G (c.t.d.fact 21 (f := .glo "law") rfl))
  cases e
  let T : Tx K mg := { f_is_whole := _, fd_is_whole := _, F_is_whole := F0, g_is_whole := He.glo_ok X G (c.t.d.fact 0 (f := .glo "is_whole") rfl), b_is_whole := b0, f_is_signs := _, fd_is_signs := _, F_is_signs := F1, g_is_signs := He.glo_ok X G (c.t.d.fact 1 (f := .glo "is_signs") rfl), b_is_signs := b1, c_is_signs := (He.cT K ("is_signs", none)).1, P_is_signs := (He.cT K ("is_signs", none)).2, cd_is_signs := code_of F1, f_is_net := _, fd_is_net := _, F_is_net := F2, g_is_net := He.glo_ok X G (c.t.d.fact 2 (f := .glo "is_net") rfl), b_is_net := b2, c_is_net := (He.cT K ("is_net", none)).1, P_is_net := (He.cT K ("is_net", none)).2, cd_is_net := code_of F2, f_is_gate := _, fd_is_gate := _, F_is_gate := F3, g_is_gate := He.glo_ok X G (c.t.d.fact 3 (f := .glo "is_gate") rfl), b_is_gate := b3, c_is_gate := (He.cT K ("is_gate", none)).1, P_is_gate := (He.cT K ("is_gate", none)).2, cd_is_gate := code_of F3, f_read_net := _, fd_read_net := _, F_read_net := F4, g_read_net := He.glo_ok X G (c.t.d.fact 4 (f := .glo "read_net") rfl), b_read_net := b4, f_read_head := _, fd_read_head := _, F_read_head := F5, g_read_head := He.glo_ok X G (c.t.d.fact 5 (f := .glo "read_head") rfl), b_read_head := b5, f_read_gate := _, fd_read_gate := _, F_read_gate := F6, g_read_gate := He.glo_ok X G (c.t.d.fact 6 (f := .glo "read_gate") rfl), b_read_gate := b6, f_read_number := _, fd_read_number := _, F_read_number := F7, g_read_number := He.glo_ok X G (c.t.d.fact 7 (f := .glo "read_number") rfl), b_read_number := b7, c_read_number := (He.cT K ("read_number", none)).1, P_read_number := (He.cT K ("read_number", none)).2, cd_read_number := code_of F7, f_deck := _, fd_deck := _, F_deck := F8, g_deck := He.glo_ok X G (c.t.d.fact 8 (f := .glo "_law_deck") rfl), b_deck := b8, f_mixed := _, fd_mixed := _, F_mixed := F9, g_mixed := He.glo_ok X G (c.t.d.fact 9 (f := .glo "_law_mixed") rfl), b_mixed := b9, f_take := _, fd_take := _, F_take := F10, g_take := He.glo_ok X G (c.t.d.fact 10 (f := .glo "_law_take") rfl), b_take := b10, f_gate := _, fd_gate := _, F_gate := F11, g_gate := He.glo_ok X G (c.t.d.fact 11 (f := .glo "_law_gate") rfl), b_gate := b11, f_net := _, fd_net := _, F_net := F12, g_net := He.glo_ok X G (c.t.d.fact 12 (f := .glo "_law_net") rfl), b_net := b12, f_shown := _, fd_shown := _, F_shown := F13, g_shown := He.glo_ok X G (c.t.d.fact 13 (f := .glo "_law_shown") rfl), b_shown := b13, f_number := _, fd_number := _, F_number := F14, g_number := He.glo_ok X G (c.t.d.fact 14 (f := .glo "_law_number") rfl), b_number := b14, f_read := _, fd_read := _, F_read := F15, g_read := He.glo_ok X G (c.t.d.fact 15 (f := .glo "_law_read") rfl), b_read := b15, f_kinds := _, fd_kinds := _, F_kinds := F16, g_kinds := He.glo_ok X G (c.t.d.fact 16 (f := .glo "_law_kinds") rfl), b_kinds := b16, f_refused := _, fd_refused := _, F_refused := F17, g_refused := He.glo_ok X G (c.t.d.fact 17 (f := .glo "_law_refused") rfl), b_refused := b17, f_bent := _, fd_bent := _, F_bent := F18, g_bent := He.glo_ok X G (c.t.d.fact 18 (f := .glo "_law_bent") rfl), b_bent := b18, f_told := _, fd_told := _, F_told := F19, g_told := He.glo_ok X G (c.t.d.fact 19 (f := .glo "_law_told") rfl), b_told := b19, f_right := _, fd_right := _, F_right := F20, g_right := He.glo_ok X G (c.t.d.fact 20 (f := .glo "_law_right") rfl), b_right := b20, f_law := _, fd_law := _, F_law := F21, g_law := He.glo_ok X G (c.t.d.fact 21 (f := .glo "law") rfl), b_law := b21, m_ValueError := He.free_ok X G (c.t.d.fact 22 (f := .free "ValueError") rfl), m_all := He.free_ok X G (c.t.d.fact 23 (f := .free "all") rfl), m_bool := He.free_ok X G (c.t.d.fact 24 (f := .free "bool") rfl), m_enumerate := He.free_ok X G (c.t.d.fact 25 (f := .free "enumerate") rfl), m_int := He.free_ok X G (c.t.d.fact 26 (f := .free "int") rfl), m_isinstance := He.free_ok X G (c.t.d.fact 27 (f := .free "isinstance") rfl), m_len := He.free_ok X G (c.t.d.fact 28 (f := .free "len") rfl), m_list := He.free_ok X G (c.t.d.fact 29 (f := .free "list") rfl), m_max := He.free_ok X G (c.t.d.fact 30 (f := .free "max") rfl), m_min := He.free_ok X G (c.t.d.fact 31 (f := .free "min") rfl), m_range := He.free_ok X G (c.t.d.fact 32 (f := .free "range") rfl), m_repr := He.free_ok X G (c.t.d.fact 33 (f := .free "repr") rfl), m_reversed := He.free_ok X G (c.t.d.fact 34 (f := .free "reversed") rfl), m_str := He.free_ok X G (c.t.d.fact 35 (f := .free "str") rfl), m_sum := He.free_ok X G (c.t.d.fact 36 (f := .free "sum") rfl), m_tuple := He.free_ok X G (c.t.d.fact 37 (f := .free "tuple") rfl), k_MOST_INPUTS := He.int_ok X G (c.t.d.fact 38 (f := .int "MOST_INPUTS" 6) rfl), k_MOST_INS := He.int_ok X G (c.t.d.fact 39 (f := .int "MOST_INS" 3) rfl), k_MOST_FIGURES := He.int_ok X G (c.t.d.fact 40 (f := .int "MOST_FIGURES" 40) rfl), C_NetError := _, gC_NetError := He.glo_ok X G (c.t.d.fact 41 (f := .glo "NetError") rfl), C_NoText := _, gC_NoText := He.glo_ok X G (c.t.d.fact 42 (f := .glo "NoText") rfl), C_TooMany := _, gC_TooMany := He.glo_ok X G (c.t.d.fact 43 (f := .glo "TooMany") rfl), C_NotFormula := _, gC_NotFormula := He.glo_ok X G (c.t.d.fact 44 (f := .glo "NotFormula") rfl), C_NoTurn := _, gC_NoTurn := He.glo_ok X G (c.t.d.fact 45 (f := .glo "NoTurn") rfl), C_NoForms := _, gC_NoForms := He.glo_ok X G (c.t.d.fact 46 (f := .glo "NoForms") rfl), C_NoRow := _, gC_NoRow := He.glo_ok X G (c.t.d.fact 47 (f := .glo "NoRow") rfl), q_NoText := q_NoText, kC_NoText := kC_NoText, su_NoText := su_NoText, ty_NoText := ty_NoText, q_TooMany := q_TooMany, kC_TooMany := kC_TooMany, su_TooMany := su_TooMany, ty_TooMany := ty_TooMany, q_NotFormula := q_NotFormula, kC_NotFormula := kC_NotFormula, su_NotFormula := su_NotFormula, ty_NotFormula := ty_NotFormula, q_NoTurn := q_NoTurn, kC_NoTurn := kC_NoTurn, su_NoTurn := su_NoTurn, ty_NoTurn := ty_NoTurn, q_NoForms := q_NoForms, kC_NoForms := kC_NoForms, su_NoForms := su_NoForms, ty_NoForms := ty_NoForms, q_NoRow := q_NoRow, kC_NoRow := kC_NoRow, su_NoRow := su_NoRow, ty_NoRow := ty_NoRow, X_NoText := GxE.excC_ok y0, v_NoText := of_decide_eq_true y1, t_NoText_NetError := of_decide_eq_true y2, x_NoText_NetError := of_decide_eq_true y3, t_NoText_NoText := of_decide_eq_true y4, x_NoText_NoText := of_decide_eq_true y5, t_NoText_TooMany := of_decide_eq_true y6, x_NoText_TooMany := of_decide_eq_true y7, t_NoText_NotFormula := of_decide_eq_true y8, x_NoText_NotFormula := of_decide_eq_true y9, t_NoText_NoTurn := of_decide_eq_true y10, x_NoText_NoTurn := of_decide_eq_true y11, t_NoText_NoForms := of_decide_eq_true y12, x_NoText_NoForms := of_decide_eq_true y13, t_NoText_NoRow := of_decide_eq_true y14, x_NoText_NoRow := of_decide_eq_true y15, X_TooMany := GxE.excC_ok y16, v_TooMany := of_decide_eq_true y17, t_TooMany_NetError := of_decide_eq_true y18, x_TooMany_NetError := of_decide_eq_true y19, t_TooMany_NoText := of_decide_eq_true y20, x_TooMany_NoText := of_decide_eq_true y21, t_TooMany_TooMany := of_decide_eq_true y22, x_TooMany_TooMany := of_decide_eq_true y23, t_TooMany_NotFormula := of_decide_eq_true y24, x_TooMany_NotFormula := of_decide_eq_true y25, t_TooMany_NoTurn := of_decide_eq_true y26, x_TooMany_NoTurn := of_decide_eq_true y27, t_TooMany_NoForms := of_decide_eq_true y28, x_TooMany_NoForms := of_decide_eq_true y29, t_TooMany_NoRow := of_decide_eq_true y30, x_TooMany_NoRow := of_decide_eq_true y31, X_NotFormula := GxE.excC_ok y32, v_NotFormula := of_decide_eq_true y33, t_NotFormula_NetError := of_decide_eq_true y34, x_NotFormula_NetError := of_decide_eq_true y35, t_NotFormula_NoText := of_decide_eq_true y36, x_NotFormula_NoText := of_decide_eq_true y37, t_NotFormula_TooMany := of_decide_eq_true y38, x_NotFormula_TooMany := of_decide_eq_true y39, t_NotFormula_NotFormula := of_decide_eq_true y40, x_NotFormula_NotFormula := of_decide_eq_true y41, t_NotFormula_NoTurn := of_decide_eq_true y42, x_NotFormula_NoTurn := of_decide_eq_true y43, t_NotFormula_NoForms := of_decide_eq_true y44, x_NotFormula_NoForms := of_decide_eq_true y45, t_NotFormula_NoRow := of_decide_eq_true y46, x_NotFormula_NoRow := of_decide_eq_true y47, X_NoTurn := GxE.excC_ok y48, v_NoTurn := of_decide_eq_true y49, t_NoTurn_NetError := of_decide_eq_true y50, x_NoTurn_NetError := of_decide_eq_true y51, t_NoTurn_NoText := of_decide_eq_true y52, x_NoTurn_NoText := of_decide_eq_true y53, t_NoTurn_TooMany := of_decide_eq_true y54, x_NoTurn_TooMany := of_decide_eq_true y55, t_NoTurn_NotFormula := of_decide_eq_true y56, x_NoTurn_NotFormula := of_decide_eq_true y57, t_NoTurn_NoTurn := of_decide_eq_true y58, x_NoTurn_NoTurn := of_decide_eq_true y59, t_NoTurn_NoForms := of_decide_eq_true y60, x_NoTurn_NoForms := of_decide_eq_true y61, t_NoTurn_NoRow := of_decide_eq_true y62, x_NoTurn_NoRow := of_decide_eq_true y63, X_NoForms := GxE.excC_ok y64, v_NoForms := of_decide_eq_true y65, t_NoForms_NetError := of_decide_eq_true y66, x_NoForms_NetError := of_decide_eq_true y67, t_NoForms_NoText := of_decide_eq_true y68, x_NoForms_NoText := of_decide_eq_true y69, t_NoForms_TooMany := of_decide_eq_true y70, x_NoForms_TooMany := of_decide_eq_true y71, t_NoForms_NotFormula := of_decide_eq_true y72, x_NoForms_NotFormula := of_decide_eq_true y73, t_NoForms_NoTurn := of_decide_eq_true y74, x_NoForms_NoTurn := of_decide_eq_true y75, t_NoForms_NoForms := of_decide_eq_true y76, x_NoForms_NoForms := of_decide_eq_true y77, t_NoForms_NoRow := of_decide_eq_true y78, x_NoForms_NoRow := of_decide_eq_true y79, X_NoRow := GxE.excC_ok y80, v_NoRow := of_decide_eq_true y81, t_NoRow_NetError := of_decide_eq_true y82, x_NoRow_NetError := of_decide_eq_true y83, t_NoRow_NoText := of_decide_eq_true y84, x_NoRow_NoText := of_decide_eq_true y85, t_NoRow_TooMany := of_decide_eq_true y86, x_NoRow_TooMany := of_decide_eq_true y87, t_NoRow_NotFormula := of_decide_eq_true y88, x_NoRow_NotFormula := of_decide_eq_true y89, t_NoRow_NoTurn := of_decide_eq_true y90, x_NoRow_NoTurn := of_decide_eq_true y91, t_NoRow_NoForms := of_decide_eq_true y92, x_NoRow_NoForms := of_decide_eq_true y93, t_NoRow_NoRow := of_decide_eq_true y94, x_NoRow_NoRow := of_decide_eq_true y95 }
  refine ⟨fd21, tf.map (He.cT K), sp_law K T.tabs, ?_, ?_, ?_, ?_, ?_, ?_⟩
  · rintro p hp
    obtain ⟨d, hd, rfl⟩ := List.mem_map.mp hp
    exact c.empty d hd
  · rintro p hp
    obtain ⟨d, hd, rfl⟩ := List.mem_map.mp hp
    exact c.out d hd
  · rintro p hp
    obtain ⟨d, hd, rfl⟩ := List.mem_map.mp hp
    exact PySem.W.codeHd_of_K X (c.hd d hd)
  · obtain ⟨oc, od, kV, doc, pm, an, cdv, ct, osl, rfl, lk, hcd⟩ := F21.ex
    exact fun s v => .of_eq rfl
  · intro H a ns hl hbits hT hS
    refine ⟨a, ns, rfl, hS, hl, fun P hP => ?_, fun _ => rfl⟩
    have hP : P ∈ (tf.map (He.cT K)).map (·.2) := hP
    obtain ⟨p, hp, rfl⟩ := List.mem_map.mp hP
    exact ⟨#[], hT p hp, by trivial⟩
  · intro base KB GB hTB
    have B : Tb base T := ⟨tab_of (hTB (He.cT K ("is_signs", none)) (List.mem_map.mpr ⟨_, (show (("is_signs", none) : He.Defn) ∈ tf by decide), rfl⟩)), tab_of (hTB (He.cT K ("is_net", none)) (List.mem_map.mpr ⟨_, (show (("is_net", none) : He.Defn) ∈ tf by decide), rfl⟩)), tab_of (hTB (He.cT K ("is_gate", none)) (List.mem_map.mpr ⟨_, (show (("is_gate", none) : He.Defn) ∈ tf by decide), rfl⟩)), tab_of (hTB (He.cT K ("read_number", none)) (List.mem_map.mpr ⟨_, (show (("read_number", none) : He.Defn) ∈ tf by decide), rfl⟩))⟩
    exact ok_law T B
end Gk
open PySem PySem.W PyProof.Rows
set_option maxRecDepth 100000 in
set_option maxHeartbeats 0 in
theorem PySem.Challenge.cw_glitchnet_k05_texts_that_write_no_net_holds : PySem.Challenge.rw_glitchnet_k05_texts_that_write_no_net.Holds := by
  w_on; o_law
  refine HandSHeadRun.head_any (r := OpenLaw.row PySem.Challenge.rw_glitchnet_k05_texts_that_write_no_net) (q := view (OpenLaw.row PySem.Challenge.rw_glitchnet_k05_texts_that_write_no_net).prog [36]) (H := Gk.hk) (ob := Gk.ob) (M := 3000) (loose := [("NetError" : PySem.Str), ("NoText" : PySem.Str), ("TooMany" : PySem.Str), ("NotFormula" : PySem.Str), ("NoTurn" : PySem.Str), ("NoForms" : PySem.Str), ("NoRow" : PySem.Str), ("is_whole" : PySem.Str), ("is_signs" : PySem.Str), ("MOST_INPUTS" : PySem.Str), ("MOST_INS" : PySem.Str), ("is_net" : PySem.Str), ("is_gate" : PySem.Str), ("MOST_FIGURES" : PySem.Str), ("read_net" : PySem.Str), ("read_head" : PySem.Str), ("read_gate" : PySem.Str), ("read_number" : PySem.Str), ("_law_deck" : PySem.Str), ("_law_mixed" : PySem.Str), ("_law_take" : PySem.Str), ("_law_gate" : PySem.Str), ("_law_net" : PySem.Str), ("_law_shown" : PySem.Str), ("_law_number" : PySem.Str), ("_law_read" : PySem.Str), ("_law_kinds" : PySem.Str), ("_law_refused" : PySem.Str), ("_law_bent" : PySem.Str), ("_law_told" : PySem.Str), ("_law_right" : PySem.Str)]) (d := HandSHeadRun.topDef (OpenLaw.row PySem.Challenge.rw_glitchnet_k05_texts_that_write_no_net).prog 36) (kwd := []) Gk.ob_eq
    (by kernel_rfl) (fun s => by kernel_rfl) Gk.run (by kernel_rfl) (by kernel_rfl) (by kernel_rfl) (by rfl) (by first | assumption | decide +kernel) (by decide +kernel) ⟨rfl, rfl, rfl, rfl, rfl, by decide +kernel⟩ ?hw ?hc
  case hw => w_witness2
  case hc =>
    refine Gk.walk_GT (l := PySem.Challenge.rw_glitchnet_k05_texts_that_write_no_net) (n := 63) (k := 9) (x := "_law_script") (CX := fun _ => L2.CX0) rfl (by decide) (by kernel_rfl) ⟨rfl, by decide, by decide⟩ ?F (fun _ _ _ _ _ z => z)
    intro w mg fa h Y G hmg0
    obtain ⟨K, KX, c⟩ := Y
    have hmg : mg ("law" : PySem.Str) = some (.ref fa) := by
      have e : (HandSHeadRun.topDef (OpenLaw.row PySem.Challenge.rw_glitchnet_k05_texts_that_write_no_net).prog 36).name = ("law" : PySem.Str) := by kernel_rfl
      rw [← e]
      exact hmg0
    exact ⟨K, KX, Gk.facts KX G hmg c⟩
