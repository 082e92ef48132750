import PyProof.Rows.All
import Wide.All
import OpenK.AllK
import Wide.FinOn
import HandS.ForMost
import HandS.SortRule
import HandS.TupSets
import KE.GoesMore
import KE.KDictZip
import HandS.IsInst
import HandS.TupLe
import HandS.TupAny
import HandS.TupMul
import HandS.More
import HandS.Codes
import HandS.Conv
import HandS.Deep
import HandS.Style
import HandS.Strs
import HandS.AnyAll
import HandS.GenList
import HandS.JoinGen
import HandS.Zip
import HandS.Rev
import HandS.Head0
import HandS.Head1
import HandS.Head2
import HandS.HeadEnd
import HandS.HeadHook1
import HandS.HeadHook2
import HandS.HeadHook3
import HandS.HeadHook4
import HandS.HeadWalk
import HandS.Defaults
import HandS.ReplaceLit
import PySem.Challenge.RW_glitchnet_k48_papers_of_any_hand
import HandS.SortInts
import HandS.SetFor
import PyProof.ReprLen
import PyProof.ReprRoads
import HandS.WideBits
import HandS.DictComp
import HandS.Walk
--@NEST
set_option Elab.async false
set_option linter.all false
set_option maxRecDepth 100000
set_option maxHeartbeats 1000000
namespace Gk
open PySem PySem.Spec PyProof.Rows L2
/-! ### sorted of pairs of tuples of ints -/
namespace SrtTT
open PySem PyProof.Rows Srt SrtO
theorem lex_asym : ∀ xs ys : List Int, HT.lexLt xs ys = true → HT.lexLt ys xs = false
  | [], [], h => by rw [HT.lexLt_nil_nil] at h; cases h
  | [], y :: ys, _ => HT.lexLt_cons_nil y ys
  | x :: xs, [], h => by rw [HT.lexLt_cons_nil] at h; cases h
  | x :: xs, y :: ys, h => by
    rw [HT.lexLt_cons] at h ⊢
    by_cases e : x = y
    · rw [if_pos e] at h
      rw [if_pos e.symm]
      exact lex_asym xs ys h
    · rw [if_neg e] at h
      rw [if_neg (Ne.symm e)]
      have a := of_decide_eq_true h
      exact decide_eq_false (by omega)
theorem lex_tot : ∀ xs ys : List Int, HT.lexLt xs ys = false → HT.lexLt ys xs = false → xs = ys
  | [], [], _, _ => rfl
  | [], y :: ys, h, _ => by rw [HT.lexLt_nil_cons] at h; cases h
  | x :: xs, [], _, h => by rw [HT.lexLt_nil_cons] at h; cases h
  | x :: xs, y :: ys, h1, h2 => by
    rw [HT.lexLt_cons] at h1 h2
    by_cases e : x = y
    · rw [if_pos e] at h1
      rw [if_pos e.symm] at h2
      rw [e, lex_tot xs ys h1 h2]
    · rw [if_neg e] at h1
      rw [if_neg (Ne.symm e)] at h2
      have a := of_decide_eq_false h1
      have b := of_decide_eq_false h2
      omega
theorem lex_tr : ∀ xs ys zs : List Int, HT.lexLt ys xs = false → HT.lexLt zs ys = false → HT.lexLt zs xs = false
  | [], ys, zs, _, _ => by
    cases zs with
    | nil => exact HT.lexLt_nil_nil
    | cons z zs => exact HT.lexLt_cons_nil z zs
  | x :: xs, [], zs, h, _ => by rw [HT.lexLt_nil_cons] at h; cases h
  | x :: xs, y :: ys, [], _, h => by rw [HT.lexLt_nil_cons] at h; cases h
  | x :: xs, y :: ys, z :: zs, h1, h2 => by
    rw [HT.lexLt_cons] at h1 h2 ⊢
    by_cases e1 : y = x
    · rw [if_pos e1] at h1
      by_cases e2 : z = y
      · rw [if_pos e2] at h2
        rw [if_pos (e2.trans e1)]
        exact lex_tr xs ys zs h1 h2
      · rw [if_neg e2] at h2
        have b := of_decide_eq_false h2
        rw [if_neg (fun q => e2 (q.trans e1.symm))]
        exact decide_eq_false (by omega)
    · rw [if_neg e1] at h1
      have a := of_decide_eq_false h1
      by_cases e2 : z = y
      · rw [if_neg (fun q => e1 (e2.symm.trans q))]
        exact decide_eq_false (by omega)
      · rw [if_neg e2] at h2
        have b := of_decide_eq_false h2
        have n : ¬ z = x := by omega
        rw [if_neg n]
        exact decide_eq_false (by omega)
def ltTT (p q : List Int × List Int) : Bool := if p.1 = q.1 then HT.lexLt p.2 q.2 else HT.lexLt p.1 q.1
theorem tt_asym {p q : List Int × List Int} (h : ltTT p q = true) : ltTT q p = false := by
  unfold ltTT at h ⊢
  by_cases e : p.1 = q.1
  · rw [if_pos e] at h
    rw [if_pos e.symm]
    exact lex_asym _ _ h
  · rw [if_neg e] at h
    rw [if_neg (Ne.symm e)]
    exact lex_asym _ _ h
theorem tt_tot {p q : List Int × List Int} (h1 : ltTT p q = false) (h2 : ltTT q p = false) : p = q := by
  unfold ltTT at h1 h2
  by_cases e : p.1 = q.1
  · rw [if_pos e] at h1
    rw [if_pos e.symm] at h2
    exact Prod.ext e (lex_tot _ _ h1 h2)
  · rw [if_neg e] at h1
    rw [if_neg (Ne.symm e)] at h2
    exact absurd (lex_tot _ _ h1 h2) e
theorem tt_tr {x y z : List Int × List Int} (h1 : ltTT y x = false) (h2 : ltTT z y = false) : ltTT z x = false := by
  unfold ltTT at h1 h2 ⊢
  by_cases e1 : y.1 = x.1
  · rw [if_pos e1] at h1
    by_cases e2 : z.1 = y.1
    · rw [if_pos e2] at h2
      rw [if_pos (e2.trans e1)]
      exact lex_tr _ _ _ h1 h2
    · rw [if_neg e2] at h2
      rw [if_neg (fun q => e2 (q.trans e1.symm)), ← e1]
      exact h2
  · rw [if_neg e1] at h1
    by_cases e2 : z.1 = y.1
    · rw [if_neg (fun q => e1 (e2.symm.trans q)), e2]
      exact h1
    · rw [if_neg e2] at h2
      by_cases e3 : z.1 = x.1
      · rw [e3] at h2
        exact absurd (lex_tot _ _ h1 h2) e1
      · rw [if_neg e3]
        exact lex_tr _ _ _ h1 h2
theorem swo_tt {α : Type} (k : α → List Int × List Int) : Swo (fun v u : α => ltTT (k v) (k u)) := ⟨fun _ _ h => tt_asym h, fun _ _ _ h1 h2 => tt_tr h1 h2⟩
def IsTT (h : Heap) (v : Value) (k : List Int × List Int) : Prop := ∃ p o x y n, v = .ref p ∧ h.get? p = some o ∧ o.cls = .type "tuple" ∧ o.data = .seq #[x, y] n ∧ TS.TupInts h x k.1 ∧ TS.TupInts h y k.2
theorem IsTT.keeps {h h' : Heap} {v : Value} {k : List Int × List Int} (x : IsTT h v k) (kp : ∀ b o, h.get? b = some o → o.cls = .type "tuple" → h'.get? b = some o) : IsTT h' v k := by
  obtain ⟨p, o, x, y, n, e, ho, hc, hd, h1, h2⟩ := x
  exact ⟨p, o, x, y, n, e, kp _ _ ho hc, hc, hd, h1.keeps kp, h2.keeps kp⟩
theorem ints_fun {vs : List Value} {a b : List Int} (h : IntsAre vs a) (h' : IntsAre vs b) : a = b := by
  induction h generalizing b with
  | nil => cases h'; rfl
  | cons n t r ih =>
    cases h' with
    | cons _ _ r' => rw [ih r']
section
variable {prog : Program} {w : World} {A : Around} {E : Value → Shared → Prop} {s : Shared}
theorem all_eq : ∀ (a b : List Int), a.length = b.length → ((List.range a.length).all fun j => decide (a.getD j 0 = b.getD j 0)) = decide (a = b) := by
  intro a b hl
  by_cases e : a = b
  · subst e
    simp
  · rw [decide_eq_false e]
    rw [Bool.eq_false_iff]
    intro h
    apply e
    rw [List.all_eq_true] at h
    apply List.ext_getElem hl
    intro i h1 h2
    have := of_decide_eq_true (h i (List.mem_range.mpr h1))
    simpa [List.getD_eq_getElem?_getD, h1, h2] using this
theorem eqTup {x y : Value} {a b : List Int} (hu : A.units < cLine) (hx : TS.TupInts s.heap x a) (hy : TS.TupInts s.heap y b) : SeqAt.EqAt A s x y (decide (a = b)) := by
  obtain ⟨p, xs, rfl, ⟨o, ho, hc, n, hd⟩, hi⟩ := hx
  obtain ⟨q, ys, rfl, ⟨o', ho', hc', n', hd'⟩, hi'⟩ := hy
  by_cases e : p = q
  · subst e
    rw [ho] at ho'
    cases ho'
    rw [hd] at hd'
    cases hd'
    rw [ints_fun hi hi', decide_eq_true rfl]
    exact SeqAt.EqAt.same _
  · have z1 : xs.size = a.length := by rw [← hi.length]; simp
    have z2 : ys.size = b.length := by rw [← hi'.length]; simp
    have at1 : ∀ j (h1 : j < xs.size), ∃ t, xs[j] = .int (a.getD j 0) t := fun j h1 => PyProof.Rows.IntsAre.int_at hi _ _ (by simp [h1])
    have at2 : ∀ j (h1 : j < ys.size), ∃ t, ys[j] = .int (b.getD j 0) t := fun j h1 => PyProof.Rows.IntsAre.int_at hi' _ _ (by simp [h1])
    have R := SeqAt.RcAt.tuples (A := A) (s := s) (e := fun j => decide (a.getD j 0 = b.getD j 0)) (l := p) (b := q) (items := xs) (items2 := ys) ⟨o, ho, hc, n, hd⟩ ⟨o', ho', hc', n', hd'⟩ hu (fun j h1 h2 => by
      obtain ⟨t, et⟩ := at1 j h1
      obtain ⟨t', et'⟩ := at2 j h2
      rw [et, et']
      have z : (a.getD j 0 == b.getD j 0) = decide (a.getD j 0 = b.getD j 0) := by
        by_cases q : a.getD j 0 = b.getD j 0
        · rw [decide_eq_true q]; exact beq_iff_eq.mpr q
        · rw [decide_eq_false q]; exact beq_eq_false_iff_ne.mpr q
      rw [← z]
      exact SeqAt.EqAt.int_int _ _ _ _)
    have ez : ((List.range (min xs.size ys.size)).all (fun j => decide (a.getD j 0 = b.getD j 0)) && xs.size == ys.size) = decide (a = b) := by
      rw [z1, z2]
      by_cases hl : a.length = b.length
      · rw [hl, Nat.min_self, beq_self_eq_true, Bool.and_true, ← hl]
        exact all_eq a b hl
      · rw [beq_eq_false_iff_ne.mpr hl, Bool.and_false, decide_eq_false (fun q => hl (by rw [q]))]
    rw [ez] at R
    exact SeqAt.EqAt.of_refs e R
theorem tt_cmp {vs : List Value} {k : Value → List Int × List Int} (hu : A.units < cLine) (hp : ∀ v ∈ vs, IsTT s.heap v (k v)) : Cmp prog w A s (tuples' false) (fun p => p.1 ∈ vs) (lt2 fun v u => ltTT (k v) (k u)) := by
  intro p q hm hm'
  have h1 := hp _ hm
  have h2 := hp _ hm'
  show wpAny (model prog w) A (keyLt' (tuples' false) p.1 q.1) (fun r s' => s' = s ∧ r = ltTT (k p.1) (k q.1)) (fun _ _ => False) s
  unfold ltTT
  generalize k p.1 = c at h1 ⊢
  generalize k q.1 = c' at h2 ⊢
  obtain ⟨a, o, x, y, n, e, ho, hc, hd, hx, hy⟩ := h1
  obtain ⟨a', o', x', y', n', e', ho', hc', hd', hx', hy'⟩ := h2
  rw [e, e']
  have lt : ∀ {x y : Value} {a b : List Int}, TS.TupInts s.heap x a → TS.TupInts s.heap y b → ∀ {Q : Bool → Shared → Prop}, Q (HT.lexLt a b) s → wpAny (model prog w) A (oneLt' false x y) Q (fun _ _ => False) s := by
    intro x y a b ix iy Q hq
    obtain ⟨p, xs, rfl, hp, hi⟩ := ix
    obtain ⟨q, ys, rfl, hq', hi'⟩ := iy
    refine PySem.W.kat_one _ _ (HT.lt_tupInts hp hq' hi hi' hu ?_)
    exact hq
  refine PySem.W.kat_lt ho hd ho' hd' ?_
  show PySem.W.KatLex prog w A false (decide (2 < 2)) _ [(x, x'), (y, y')] 0 s
  refine PySem.W.kat_cons (eqTup hu hx hx' prog w _ _ ?_)
  refine PySem.W.kat_go (fun e1 => ?_) (fun e1 => ?_)
  · have ex := of_decide_eq_true e1
    rw [if_pos ex]
    refine PySem.W.kat_yes (PySem.W.kat_cons (eqTup hu hy hy' prog w _ _ ?_))
    refine PySem.W.kat_go (fun e2 => ?_) (fun e2 => ?_)
    · have ey := of_decide_eq_true e2
      refine PySem.W.kat_yes (PySem.W.kat_nil ⟨rfl, ?_⟩)
      rw [ey]
      exact ((swo_tt (fun c : List Int => (([] : List Int), c))).refl c'.2).symm
    · exact PySem.W.kat_no (lt hy hy' ⟨rfl, rfl⟩)
  · rw [if_neg (of_decide_eq_false e1)]
    exact PySem.W.kat_no (lt hx hx' ⟨rfl, rfl⟩)
theorem firsts_tt {h : Heap} : ∀ {vs : List Value}, (∀ v ∈ vs, ∃ k, IsTT h v k) → ∃ fs : List Value, PySem.W.KatTups h vs fs ∧ fs.length = vs.length ∧ ∀ f ∈ fs, ∃ ns, TS.TupInts h f ns
  | [], _ => ⟨[], PySem.W.KatTups.nil, rfl, fun _ hm => by simp at hm⟩
  | v :: vs, hp => by
    obtain ⟨fs, h1, h2, h3⟩ := firsts_tt (vs := vs) fun v' hm => hp v' (List.mem_cons_of_mem _ hm)
    obtain ⟨k, a, o, x, y, n, e, ho, hc, hd, hx, hy⟩ := hp v (List.mem_cons_self ..)
    subst e
    refine ⟨x :: fs, PySem.W.KatTups.cons ho hc hd rfl h1, by rw [List.length_cons, List.length_cons, h2], fun f hm => ?_⟩
    rcases List.mem_cons.mp hm with rfl | hm
    · exact ⟨_, hx⟩
    · exact h3 f hm
theorem tt_sortableO {a : Addr} {vs : List Value} {k : Value → List Int × List Int} (hu : A.units < cLine) (h0 : 0 < vs.length) (hp : ∀ v ∈ vs, IsTT s.heap v (k v)) (ha : ∀ o, s.heap.get? a = some o → o.cls ≠ .type "tuple") : SortableO prog w A s a vs fun v u => ltTT (k v) (k u) := by
  intro h' keep
  have hp' : ∀ v ∈ vs, IsTT h' v (k v) := fun v hm => (hp v hm).keeps fun b o e c => keep b o (fun z => by subst z; exact ha o e c) e
  obtain ⟨fs, h1, h2, h3⟩ := firsts_tt fun v hm => ⟨_, hp' v hm⟩
  refine ⟨tuples' false, fun Q E hq => ?_, tt_cmp (s := { s with heap := h' }) hu hp'⟩
  refine PySem.W.kat_kind (T := .type "tuple") h1 (by omega) (fun f hm => ?_) (by rfl) ?_
  · obtain ⟨ns, p, xs, rfl, ⟨o, ho, hc, _⟩, _⟩ := h3 f hm
    have z : PySem.W.Looks (model prog w) h' (typeOf (.ref p)) o.cls := (PySem.W.Looks.ld ho).andThen .now
    rw [hc] at z
    exact z
  · have e : (Value.type "tuple" != Value.type "tuple") = false := by first | decide +kernel | rfl | decide
    rw [e]
    exact hq
end
end SrtTT
/-- sorted(xs), pairs of tuples of ints, any number of them -/
def rSortedTT (K : PySem.W.Frag) : List V → Hp → VK → Prop := fun vs H Q => ∃ (a : Addr) (xs : List V) (k : V → List Int × List Int), vs = [V.ref a] ∧ SqL K H a xs ∧ (∀ x ∈ xs, ∃ t u v, x = V.ref t ∧ H t = some (.tup [.ref u, .ref v]) ∧ SqT K H u ((k x).1.map V.int) ∧ SqT K H v ((k x).2.map V.int)) ∧
  ∀ ys p, SrtO.Srtd (fun x y => SrtTT.ltTT (k x) (k y)) ys → ys.Perm xs → H p = none → Q (.ref p) (upd H p (.lst ys))
theorem cr_sortedTT {X : Cx} (hu : X.A.units + 64 < cLine) : CallR X (.builtin "sorted") (rSortedTT X.K) := by
  intro pins s σ H vs us Q I r h
  obtain ⟨a, xs, k, rfl, hs, hx, q⟩ := h
  obtain ⟨its, rv, hl, hz⟩ := I.list hs
  obtain ⟨u, rfl, ru⟩ := vals1 r
  obtain rfl : u = Value.ref a := ru
  obtain ⟨e1, e2⟩ := refs_back rv fun x m => by
    obtain ⟨t, _, _, e, _⟩ := hx x m
    exact ⟨t, e⟩
  have hp : ∀ v ∈ its, SrtTT.IsTT s.heap v (k (backV v)) := fun v hv => by
    obtain ⟨t, rfl⟩ := e2 v hv
    have hm : V.ref t ∈ xs := by rw [e1]; exact List.mem_map.mpr ⟨_, hv, rfl⟩
    obtain ⟨t', u1, u2, e, ht, h1, h2⟩ := hx _ hm
    cases e
    obtain ⟨_, its2, r2, o, ho, hc, n, hd⟩ := I.hok _ _ ht
    obtain ⟨w1, w2, rfl, ri, rj⟩ := vals2 r2
    obtain rfl : w1 = Value.ref u1 := ri
    obtain rfl : w2 = Value.ref u2 := rj
    exact ⟨t, o, _, _, n, rfl, ho, hc, hd, tupI_raw I h1, tupI_raw I h2⟩
  refine SrtO.sorted_ord (SrtTT.swo_tt fun u => k (backV u)) hl.isList (by rw [← rv.length]; exact hz) (fun h2 h₁ a' ha kk => ?_) fun out h1 h2 => ?_
  · refine SrtTT.tt_sortableO (k := fun u => k (backV u)) (s := { s with heap := h₁ }) (by simp only [Around.in1_units]; omega) (by omega) (fun v hm => (hp v hm).keeps fun b o e _ => (kk b o e).2) fun o e => ?_
    have e' : some o = some (seqObj "list" its.toArray 0) := e.symm.trans ha
    cases e'
    intro c
    exact absurd (Value.type.inj c) (by decide)
  · have h3 : ∀ u ∈ out, ∃ a, u = Value.ref a := fun u hu => e2 u (h2.perm.mem_iff.mp hu)
    obtain ⟨n, hn⟩ := PyProof.Rows.sortedAll_at s.heap its out.toArray
    have hb : (out.map backV).Perm xs := by
      rw [e1]
      exact h2.perm.map backV
    refine ⟨.ref _, upd H (s.heap.objs.size + 1) (.lst (out.map backV)), I.laid (t' := s.toks) (fun _ _ => PyProof.Rows.sortedAll_old) (Nat.le_succ _) ⟨?_, out, n, vals_back h3, hn⟩, rfl, q _ _ (SrtO.srtd_map h1) hb (I.hok.fresh (Nat.le_succ _))⟩
    rw [hb.length_eq]
    exact hz

/-! ### sorted of tuples of ints, any number of them -/
namespace SrtT
open PySem PyProof.Rows Srt SrtO
theorem swo_t {α : Type} (k : α → List Int) : Swo (fun v u : α => HT.lexLt (k v) (k u)) := ⟨fun _ _ h => SrtTT.lex_asym _ _ h, fun _ _ _ h1 h2 => SrtTT.lex_tr _ _ _ h1 h2⟩
section
variable {prog : Program} {w : World} {A : Around} {E : Value → Shared → Prop} {s : Shared}
theorem lex {Q : Bool → Shared → Prop} : ∀ {xs ys : List Value} {a b : List Int} (i : Nat), IntsAre xs a → IntsAre ys b → a.length = b.length → Q (HT.lexLt a b) s → PySem.W.KatLex prog w A true false Q (xs.zip ys) i s
  | _, _, _, _, i, .nil, .nil, _, h => PySem.W.kat_nil h
  | _, _, _, _, i, .nil, .cons _ _ _, hl, h => by simp at hl
  | _, _, _, _, i, .cons _ _ _, .nil, hl, h => by simp at hl
  | _, _, _, _, i, .cons n t r, .cons m u r', hl, h => by
    refine PySem.W.kat_cons (SeqAt.EqAt.int_int _ _ _ _ prog w _ _ ?_)
    refine PySem.W.kat_go (fun e => ?_) (fun e => ?_)
    · have e : n = m := beq_iff_eq.mp e
      rw [HT.lexLt_cons, if_pos e] at h
      exact PySem.W.kat_yes (lex (i + 1) r r' (by simpa using hl) h)
    · have e : n ≠ m := beq_eq_false_iff_ne.mp e
      rw [HT.lexLt_cons, if_neg e] at h
      exact PySem.W.kat_no (TS.oneLt_ints _ h)
theorem t_cmp {d : Nat} {vs : List Value} {k : Value → List Int} (hp : ∀ v ∈ vs, TS.TupInts s.heap v (k v) ∧ (k v).length = d) : Cmp prog w A s (tuples' true) (fun p => p.1 ∈ vs) (lt2 fun v u => HT.lexLt (k v) (k u)) := by
  intro p q hm hm'
  obtain ⟨h1, l1⟩ := hp _ hm
  obtain ⟨h2, l2⟩ := hp _ hm'
  show wpAny (model prog w) A (keyLt' (tuples' true) p.1 q.1) (fun r s' => s' = s ∧ r = HT.lexLt (k p.1) (k q.1)) (fun _ _ => False) s
  generalize k p.1 = c at h1 l1 ⊢
  generalize k q.1 = c' at h2 l2 ⊢
  obtain ⟨a, xs, e, ⟨o, ho, hc, n, hd⟩, hi⟩ := h1
  obtain ⟨a', ys, e', ⟨o', ho', hc', n', hd'⟩, hi'⟩ := h2
  rw [e, e']
  refine PySem.W.kat_lt ho hd ho' hd' ?_
  have z1 : xs.size = c.length := by rw [← hi.length]; simp
  have z2 : ys.size = c'.length := by rw [← hi'.length]; simp
  have z : decide (xs.size < ys.size) = false := decide_eq_false (by omega)
  rw [z]
  exact lex 0 hi hi' (by omega) ⟨rfl, rfl⟩
theorem firsts_t {d : Nat} {h : Heap} (hd : 1 ≤ d) : ∀ {vs : List Value}, (∀ v ∈ vs, ∃ k, TS.TupInts h v k ∧ k.length = d) → ∃ fs : List Value, PySem.W.KatTups h vs fs ∧ fs.length = vs.length ∧ ∀ f ∈ fs, ∃ n t, f = Value.int n t
  | [], _ => ⟨[], PySem.W.KatTups.nil, rfl, fun _ hm => by simp at hm⟩
  | v :: vs, hp => by
    obtain ⟨fs, h1, h2, h3⟩ := firsts_t hd (vs := vs) fun v' hm => hp v' (List.mem_cons_of_mem _ hm)
    obtain ⟨k, ⟨a, xs, e, ⟨o, ho, hc, n, hdd⟩, hi⟩, hl⟩ := hp v (List.mem_cons_self ..)
    subst e
    have z1 : xs.size = k.length := by rw [← hi.length]; simp
    have h0 : 0 < xs.size := by omega
    obtain ⟨t, et⟩ := PyProof.Rows.IntsAre.int_at hi 0 xs[0] (by simp [h0])
    refine ⟨xs[0] :: fs, PySem.W.KatTups.cons ho hc hdd (by simp [h0]) h1, by rw [List.length_cons, List.length_cons, h2], fun f hm => ?_⟩
    rcases List.mem_cons.mp hm with rfl | hm
    · exact ⟨_, _, et⟩
    · exact h3 f hm
theorem t_sortableO {d : Nat} {a : Addr} {vs : List Value} {k : Value → List Int} (hd : 1 ≤ d) (h0 : 0 < vs.length) (hp : ∀ v ∈ vs, TS.TupInts s.heap v (k v) ∧ (k v).length = d) (ha : ∀ o, s.heap.get? a = some o → o.cls ≠ .type "tuple") : SortableO prog w A s a vs fun v u => HT.lexLt (k v) (k u) := by
  intro h' keep
  have hp' : ∀ v ∈ vs, TS.TupInts h' v (k v) ∧ (k v).length = d := fun v hm => ⟨(hp v hm).1.keeps fun b o e c => keep b o (fun z => by subst z; exact ha o e c) e, (hp v hm).2⟩
  obtain ⟨fs, h1, h2, h3⟩ := firsts_t hd fun v hm => ⟨_, hp' v hm⟩
  refine ⟨tuples' true, fun Q E hq => ?_, t_cmp (s := { s with heap := h' }) hp'⟩
  refine PySem.W.kat_kind (T := .type "int") h1 (by omega) (fun f hm => ?_) (by rfl) ?_
  · obtain ⟨n, t, rfl⟩ := h3 f hm
    exact .now
  · have e : (Value.type "int" != Value.type "tuple") = true := by first | decide +kernel | rfl | decide
    rw [e]
    exact hq
end
end SrtT
/-- sorted(xs), tuples of d ints, any number of them -/
def rSortedTn (K : PySem.W.Frag) (d : Nat) : List V → Hp → VK → Prop := fun vs H Q => ∃ (a : Addr) (xs : List V) (k : V → List Int), vs = [V.ref a] ∧ SqL K H a xs ∧ (∀ x ∈ xs, ∃ t, x = V.ref t ∧ SqT K H t ((k x).map V.int) ∧ (k x).length = d) ∧
  ∀ ys p, SrtO.Srtd (fun x y => HT.lexLt (k x) (k y)) ys → ys.Perm xs → H p = none → Q (.ref p) (upd H p (.lst ys))
theorem cr_sortedTn {X : Cx} {d : Nat} (hd : 1 ≤ d) : CallR X (.builtin "sorted") (rSortedTn X.K d) := by
  intro pins s σ H vs us Q I r h
  obtain ⟨a, xs, k, rfl, hs, hx, q⟩ := h
  obtain ⟨its, rv, hl, hz⟩ := I.list hs
  obtain ⟨u, rfl, ru⟩ := vals1 r
  obtain rfl : u = Value.ref a := ru
  obtain ⟨e1, e2⟩ := refs_back rv fun x m => by
    obtain ⟨t, e, _⟩ := hx x m
    exact ⟨t, e⟩
  have hp : ∀ v ∈ its, TS.TupInts s.heap v (k (backV v)) ∧ (k (backV v)).length = d := fun v hv => by
    obtain ⟨t, rfl⟩ := e2 v hv
    have hm : V.ref t ∈ xs := by rw [e1]; exact List.mem_map.mpr ⟨_, hv, rfl⟩
    obtain ⟨t', e, h1, h2⟩ := hx _ hm
    cases e
    exact ⟨tupI_raw I h1, h2⟩
  refine SrtO.sorted_ord (SrtT.swo_t fun u => k (backV u)) hl.isList (by rw [← rv.length]; exact hz) (fun h2 h₁ a' ha kk => ?_) fun out h1 h2 => ?_
  · refine SrtT.t_sortableO (d := d) (k := fun u => k (backV u)) (s := { s with heap := h₁ }) hd (by omega) (fun v hm => ⟨(hp v hm).1.keeps fun b o e _ => (kk b o e).2, (hp v hm).2⟩) fun o e => ?_
    have e' : some o = some (seqObj "list" its.toArray 0) := e.symm.trans ha
    cases e'
    intro c
    exact absurd (Value.type.inj c) (by decide)
  · have h3 : ∀ u ∈ out, ∃ a, u = Value.ref a := fun u hu => e2 u (h2.perm.mem_iff.mp hu)
    obtain ⟨n, hn⟩ := PyProof.Rows.sortedAll_at s.heap its out.toArray
    have hb : (out.map backV).Perm xs := by
      rw [e1]
      exact h2.perm.map backV
    refine ⟨.ref _, upd H (s.heap.objs.size + 1) (.lst (out.map backV)), I.laid (t' := s.toks) (fun _ _ => PyProof.Rows.sortedAll_old) (Nat.le_succ _) ⟨?_, out, n, vals_back h3, hn⟩, rfl, q _ _ (SrtO.srtd_map h1) hb (I.hok.fresh (Nat.le_succ _))⟩
    rw [hb.length_eq]
    exact hz

end Gk

--@NEST
set_option Elab.async false
set_option linter.all false
set_option maxRecDepth 100000
set_option maxHeartbeats 1000000
namespace Gk
open PySem PySem.Spec PyProof.Rows L2
/-! ### the text -/
def topS (i : Nat) : Stmt := PySem.Challenge.pw_glitchnet_k48_papers_of_any_hand.main.body.getD i (.Pass ⟨0, 0, 0, 0⟩)
abbrev s_choices_of : Stmt := topS 1
abbrev s_rows_of : Stmt := topS 2
abbrev s_table_worth : Stmt := topS 3
abbrev s_show_row : Stmt := topS 5
abbrev s_is_product : Stmt := topS 7
abbrev s_holds_row : Stmt := topS 8
abbrev s_holds_all : Stmt := topS 9
abbrev s_meet : Stmt := topS 10
abbrev s_cube_of : Stmt := topS 11
abbrev s_unheld : Stmt := topS 12
abbrev s_is_allowed : Stmt := topS 14
abbrev s_why_not : Stmt := topS 15
abbrev s_is_allowed_at : Stmt := topS 16
abbrev s_ones_of : Stmt := topS 17
abbrev s_allowed_of : Stmt := topS 18
abbrev s_greatest_allowed : Stmt := topS 19
abbrev s_shown_by : Stmt := topS 21
abbrev s_shown_for : Stmt := topS 22
abbrev s_shown_apart : Stmt := topS 23
abbrev s_shown_case : Stmt := topS 24
abbrev s_deck : Stmt := topS 26
abbrev s_next : Stmt := topS 27
abbrev s_rows : Stmt := topS 28
abbrev s_holds : Stmt := topS 29
abbrev s_inside : Stmt := topS 30
abbrev s_meets : Stmt := topS 31
abbrev s_cube : Stmt := topS 32
abbrev s_product : Stmt := topS 33
abbrev s_table : Stmt := topS 34
abbrev s_worth : Stmt := topS 35
abbrev s_change : Stmt := topS 36
abbrev s_wish : Stmt := topS 37
abbrev s_all_products : Stmt := topS 38
abbrev s_fits : Stmt := topS 39
abbrev s_allowed : Stmt := topS 40
abbrev s_greatest : Stmt := topS 41
abbrev s_asked : Stmt := topS 42
abbrev s_fewest : Stmt := topS 43
abbrev s_apart : Stmt := topS 44
abbrev s_shown : Stmt := topS 45
abbrev s_paper : Stmt := topS 46
abbrev s_holds_any : Stmt := topS 47
abbrev s_given : Stmt := topS 48
abbrev s_law : Stmt := topS 49
theorem sc_choices_of : FnScope ["lists", "choices", "options", "choice", "option"] ["lists"] (defScope s_choices_of) := ⟨rfl, rfl, rfl, by decide +kernel, rfl, by decide +kernel, by decide +kernel⟩
theorem sc_rows_of : FnScope ["many"] ["many"] (defScope s_rows_of) := ⟨rfl, rfl, rfl, by decide +kernel, rfl, by decide +kernel, by decide +kernel⟩
theorem sc_table_worth : FnScope ["table", "worths", "place", "worth"] ["table", "worths"] (defScope s_table_worth) := ⟨rfl, rfl, rfl, by decide +kernel, rfl, by decide +kernel, by decide +kernel⟩
theorem sc_show_row : FnScope ["row", "worth"] ["row"] (defScope s_show_row) := ⟨rfl, rfl, rfl, by decide +kernel, rfl, by decide +kernel, by decide +kernel⟩
theorem sc_is_product : FnScope ["many", "thing", "sign"] ["many", "thing"] (defScope s_is_product) := ⟨rfl, rfl, rfl, by decide +kernel, rfl, by decide +kernel, by decide +kernel⟩
theorem sc_holds_row : FnScope ["product", "row"] ["product", "row"] (defScope s_holds_row) := ⟨rfl, rfl, rfl, by decide +kernel, rfl, by decide +kernel, by decide +kernel⟩
theorem sc_holds_all : FnScope ["product", "other", "sign", "held"] ["product", "other"] (defScope s_holds_all) := ⟨rfl, rfl, rfl, by decide +kernel, rfl, by decide +kernel, by decide +kernel⟩
theorem sc_meet : FnScope ["product", "other", "one", "two"] ["product", "other"] (defScope s_meet) := ⟨rfl, rfl, rfl, by decide +kernel, rfl, by decide +kernel, by decide +kernel⟩
theorem sc_cube_of : FnScope ["change", "a", "b", "before", "after"] ["change"] (defScope s_cube_of) := ⟨rfl, rfl, rfl, by decide +kernel, rfl, by decide +kernel, by decide +kernel⟩
theorem sc_unheld : FnScope ["some", "products", "one", "product"] ["some", "products"] (defScope s_unheld) := ⟨rfl, rfl, rfl, by decide +kernel, rfl, by decide +kernel, by decide +kernel⟩
theorem sc_is_allowed : FnScope ["wish", "product"] ["wish", "product"] (defScope s_is_allowed) := ⟨rfl, rfl, rfl, by decide +kernel, rfl, by decide +kernel, by decide +kernel⟩
theorem sc_why_not : FnScope ["wish", "product", "many", "table", "changes", "row", "sign", "k", "change"] ["wish", "product"] (defScope s_why_not) := ⟨rfl, rfl, rfl, by decide +kernel, rfl, by decide +kernel, by decide +kernel⟩
theorem sc_is_allowed_at : FnScope ["wish", "product", "change", "ones", "row"] ["wish", "product", "change"] (defScope s_is_allowed_at) := ⟨rfl, rfl, rfl, by decide +kernel, rfl, by decide +kernel, by decide +kernel⟩
theorem sc_ones_of : FnScope ["wish", "rows", "row"] ["wish", "rows"] (defScope s_ones_of) := ⟨rfl, rfl, rfl, by decide +kernel, rfl, by decide +kernel, by decide +kernel⟩
theorem sc_allowed_of : FnScope ["wish", "products", "signs", "product"] ["wish"] (defScope s_allowed_of) := ⟨rfl, rfl, rfl, by decide +kernel, rfl, by decide +kernel, by decide +kernel⟩
theorem sc_greatest_allowed : FnScope ["wish", "allowed", "product", "other"] ["wish"] (defScope s_greatest_allowed) := ⟨rfl, rfl, rfl, by decide +kernel, rfl, by decide +kernel, by decide +kernel⟩
theorem sc_shown_by : FnScope ["wish", "given", "thing"] ["wish", "given", "thing"] (defScope s_shown_by) := ⟨rfl, rfl, rfl, by decide +kernel, rfl, by decide +kernel, by decide +kernel⟩
theorem sc_shown_for : FnScope ["products", "given", "thing"] ["products", "given", "thing"] (defScope s_shown_for) := ⟨rfl, rfl, rfl, by decide +kernel, rfl, by decide +kernel, by decide +kernel⟩
theorem sc_shown_apart : FnScope ["products", "given", "some", "product", "early", "late", "one"] ["products", "given", "some"] (defScope s_shown_apart) := ⟨rfl, rfl, rfl, by decide +kernel, rfl, by decide +kernel, by decide +kernel⟩
theorem sc_shown_case : FnScope ["products", "given", "one", "papers", "holding", "numbers", "product", "paper"] ["products", "given", "one", "papers"] (defScope s_shown_case) := ⟨rfl, rfl, rfl, by decide +kernel, rfl, by decide +kernel, by decide +kernel⟩
theorem sc_deck : FnScope ["_law_script"] ["_law_script"] (defScope s_deck) := ⟨rfl, rfl, rfl, by decide +kernel, rfl, by decide +kernel, by decide +kernel⟩
theorem sc_next : FnScope ["_law_deck_here", "_law_most", "_law_cells", "_law_number", "_law_seed"] ["_law_deck_here", "_law_most"] (defScope s_next) := ⟨rfl, rfl, rfl, by decide +kernel, rfl, by decide +kernel, by decide +kernel⟩
theorem sc_rows : FnScope ["_law_many", "_law_found", "_law_place", "_law_row"] ["_law_many"] (defScope s_rows) := ⟨rfl, rfl, rfl, by decide +kernel, rfl, by decide +kernel, by decide +kernel⟩
theorem sc_holds : FnScope ["_law_product_here", "_law_row", "_law_k"] ["_law_product_here", "_law_row"] (defScope s_holds) := ⟨rfl, rfl, rfl, by decide +kernel, rfl, by decide +kernel, by decide +kernel⟩
theorem sc_inside : FnScope ["_law_product_here", "_law_other", "_law_k"] ["_law_product_here", "_law_other"] (defScope s_inside) := ⟨rfl, rfl, rfl, by decide +kernel, rfl, by decide +kernel, by decide +kernel⟩
theorem sc_meets : FnScope ["_law_product_here", "_law_other", "_law_k"] ["_law_product_here", "_law_other"] (defScope s_meets) := ⟨rfl, rfl, rfl, by decide +kernel, rfl, by decide +kernel, by decide +kernel⟩
theorem sc_cube : FnScope ["_law_one", "_law_other", "_law_k"] ["_law_one", "_law_other"] (defScope s_cube) := ⟨rfl, rfl, rfl, by decide +kernel, rfl, by decide +kernel, by decide +kernel⟩
theorem sc_product : FnScope ["_law_deck_here", "_law_many", "_law_bare", "_law_found", "_law_place", "_law_sign"] ["_law_deck_here", "_law_many"] (defScope s_product) := ⟨rfl, rfl, rfl, by decide +kernel, rfl, by decide +kernel, by decide +kernel⟩
theorem sc_table : FnScope ["_law_deck_here", "_law_many", "_law_way", "_law_products", "_law_rows_here", "_law_odd", "_law_table_here", "_law_k", "_law_row", "_law_worth_here", "_law_one"] ["_law_deck_here", "_law_many"] (defScope s_table) := ⟨rfl, rfl, rfl, by decide +kernel, rfl, by decide +kernel, by decide +kernel⟩
theorem sc_worth : FnScope ["_law_wish_here", "_law_row", "_law_number", "_law_worth_here"] ["_law_wish_here", "_law_row"] (defScope s_worth) := ⟨rfl, rfl, rfl, by decide +kernel, rfl, by decide +kernel, by decide +kernel⟩
theorem sc_change : FnScope ["_law_deck_here", "_law_many", "_law_table_here", "_law_way", "_law_rows_here", "_law_one", "_law_other", "_law_place", "_law_ones", "_law_noughts", "_law_bright", "_law_dark", "_law_beside", "_law_k", "_law_row"] ["_law_deck_here", "_law_many", "_law_table_here"] (defScope s_change) := ⟨rfl, rfl, rfl, by decide +kernel, rfl, by decide +kernel, by decide +kernel⟩
theorem sc_wish : FnScope ["_law_deck_here", "_law_most", "_law_many", "_law_way", "_law_count", "_law_table_here", "_law_k"] ["_law_deck_here", "_law_most"] (defScope s_wish) := ⟨rfl, rfl, rfl, by decide +kernel, rfl, by decide +kernel, by decide +kernel⟩
theorem sc_all_products : FnScope ["_law_many", "_law_found", "_law_place", "_law_one"] ["_law_many"] (defScope s_all_products) := ⟨rfl, rfl, rfl, by decide +kernel, rfl, by decide +kernel, by decide +kernel⟩
theorem sc_fits : FnScope ["_law_wish_here", "_law_product_here", "_law_change_here", "_law_bright", "_law_row"] ["_law_wish_here", "_law_product_here", "_law_change_here"] (defScope s_fits) := ⟨rfl, rfl, rfl, by decide +kernel, rfl, by decide +kernel, by decide +kernel⟩
theorem sc_allowed : FnScope ["_law_wish_here", "_law_product_here", "_law_k", "_law_row", "_law_change_here"] ["_law_wish_here", "_law_product_here"] (defScope s_allowed) := ⟨rfl, rfl, rfl, by decide +kernel, rfl, by decide +kernel, by decide +kernel⟩
theorem sc_greatest : FnScope ["_law_wish_here", "_law_some", "_law_found", "_law_one", "_law_other"] ["_law_wish_here"] (defScope s_greatest) := ⟨rfl, rfl, rfl, by decide +kernel, rfl, by decide +kernel, by decide +kernel⟩
theorem sc_asked : FnScope ["_law_wish_here", "_law_found", "_law_row", "_law_one", "_law_other"] ["_law_wish_here"] (defScope s_asked) := ⟨rfl, rfl, rfl, by decide +kernel, rfl, by decide +kernel, by decide +kernel⟩
theorem sc_fewest : FnScope ["_law_menu", "_law_asked_here", "_law_whole", "_law_held", "_law_by", "_law_order", "_law_reached", "_law_many", "_law_later", "_law_got", "_law_at", "_law_have", "_law_product_here", "_law_k", "_law_some", "_law_one", "_law_few"] ["_law_menu", "_law_asked_here"] (defScope s_fewest) := ⟨rfl, rfl, rfl, by decide +kernel, rfl, by decide +kernel, by decide +kernel⟩
theorem sc_apart : FnScope ["_law_menu", "_law_given_here", "_law_some", "_law_product_here", "_law_one"] ["_law_menu", "_law_given_here", "_law_some"] (defScope s_apart) := ⟨rfl, rfl, rfl, by decide +kernel, rfl, by decide +kernel, by decide +kernel⟩
theorem sc_shown : FnScope ["_law_menu", "_law_given_here", "_law_thing", "_law_some", "_law_found", "_law_product_here", "_law_paper_here", "_law_left", "_law_one"] ["_law_menu", "_law_given_here", "_law_thing"] (defScope s_shown) := ⟨rfl, rfl, rfl, by decide +kernel, rfl, by decide +kernel, by decide +kernel⟩
theorem sc_paper : FnScope ["_law_deck_here", "_law_menu", "_law_given_here", "_law_deep", "_law_way", "_law_careless", "_law_some", "_law_one", "_law_near", "_law_papers", "_law_product_here", "_law_left", "_law_other"] ["_law_deck_here", "_law_menu", "_law_given_here", "_law_deep"] (defScope s_paper) := ⟨rfl, rfl, rfl, by decide +kernel, rfl, by decide +kernel, by decide +kernel⟩
theorem sc_holds_any : FnScope ["_law_product_here", "_law_some", "_law_one"] ["_law_product_here", "_law_some"] (defScope s_holds_any) := ⟨rfl, rfl, rfl, by decide +kernel, rfl, by decide +kernel, by decide +kernel⟩
theorem sc_given : FnScope ["_law_deck_here", "_law_asked_here", "_law_way", "_law_one"] ["_law_deck_here", "_law_asked_here"] (defScope s_given) := ⟨rfl, rfl, rfl, by decide +kernel, rfl, by decide +kernel, by decide +kernel⟩
theorem sc_law : FnScope ["_law_script", "_law_deck_here", "_law_turn", "_law_wish_here", "_law_menu", "_law_given_here", "_law_fewest_here", "_law_k", "_law_thing", "_law_due", "_law_again", "_law_found"] ["_law_script"] (defScope s_law) := ⟨rfl, rfl, rfl, by decide +kernel, rfl, by decide +kernel, by decide +kernel⟩
structure Tx (K : PySem.W.Frag) (mg : Str → Option Value) where
  f_choices_of : Addr
  fd_choices_of : FuncData
  F_choices_of : Fun K "choices_of" "choices_of" s_choices_of f_choices_of fd_choices_of
  g_choices_of : mg "choices_of" = some (.ref f_choices_of)
  b_choices_of : Binds K fd_choices_of ["lists"] []
  f_rows_of : Addr
  fd_rows_of : FuncData
  F_rows_of : Fun K "rows_of" "rows_of" s_rows_of f_rows_of fd_rows_of
  g_rows_of : mg "rows_of" = some (.ref f_rows_of)
  b_rows_of : Binds K fd_rows_of ["many"] []
  f_table_worth : Addr
  fd_table_worth : FuncData
  F_table_worth : Fun K "table_worth" "table_worth" s_table_worth f_table_worth fd_table_worth
  g_table_worth : mg "table_worth" = some (.ref f_table_worth)
  b_table_worth : Binds K fd_table_worth ["table", "worths"] []
  f_show_row : Addr
  fd_show_row : FuncData
  F_show_row : Fun K "show_row" "show_row" s_show_row f_show_row fd_show_row
  g_show_row : mg "show_row" = some (.ref f_show_row)
  b_show_row : Binds K fd_show_row ["row"] []
  c_show_row : Addr
  P_show_row : Addr
  cd_show_row : fd_show_row.code = .ref c_show_row
  f_is_product : Addr
  fd_is_product : FuncData
  F_is_product : Fun K "is_product" "is_product" s_is_product f_is_product fd_is_product
  g_is_product : mg "is_product" = some (.ref f_is_product)
  b_is_product : Binds K fd_is_product ["many", "thing"] []
  c_is_product : Addr
  P_is_product : Addr
  cd_is_product : fd_is_product.code = .ref c_is_product
  f_holds_row : Addr
  fd_holds_row : FuncData
  F_holds_row : Fun K "holds_row" "holds_row" s_holds_row f_holds_row fd_holds_row
  g_holds_row : mg "holds_row" = some (.ref f_holds_row)
  b_holds_row : Binds K fd_holds_row ["product", "row"] []
  f_holds_all : Addr
  fd_holds_all : FuncData
  F_holds_all : Fun K "holds_all" "holds_all" s_holds_all f_holds_all fd_holds_all
  g_holds_all : mg "holds_all" = some (.ref f_holds_all)
  b_holds_all : Binds K fd_holds_all ["product", "other"] []
  c_holds_all : Addr
  P_holds_all : Addr
  cd_holds_all : fd_holds_all.code = .ref c_holds_all
  f_meet : Addr
  fd_meet : FuncData
  F_meet : Fun K "meet" "meet" s_meet f_meet fd_meet
  g_meet : mg "meet" = some (.ref f_meet)
  b_meet : Binds K fd_meet ["product", "other"] []
  c_meet : Addr
  P_meet : Addr
  cd_meet : fd_meet.code = .ref c_meet
  f_cube_of : Addr
  fd_cube_of : FuncData
  F_cube_of : Fun K "cube_of" "cube_of" s_cube_of f_cube_of fd_cube_of
  g_cube_of : mg "cube_of" = some (.ref f_cube_of)
  b_cube_of : Binds K fd_cube_of ["change"] []
  c_cube_of : Addr
  P_cube_of : Addr
  cd_cube_of : fd_cube_of.code = .ref c_cube_of
  f_unheld : Addr
  fd_unheld : FuncData
  F_unheld : Fun K "unheld" "unheld" s_unheld f_unheld fd_unheld
  g_unheld : mg "unheld" = some (.ref f_unheld)
  b_unheld : Binds K fd_unheld ["some", "products"] []
  c_unheld : Addr
  P_unheld : Addr
  cd_unheld : fd_unheld.code = .ref c_unheld
  f_is_allowed : Addr
  fd_is_allowed : FuncData
  F_is_allowed : Fun K "is_allowed" "is_allowed" s_is_allowed f_is_allowed fd_is_allowed
  g_is_allowed : mg "is_allowed" = some (.ref f_is_allowed)
  b_is_allowed : Binds K fd_is_allowed ["wish", "product"] []
  f_why_not : Addr
  fd_why_not : FuncData
  F_why_not : Fun K "why_not" "why_not" s_why_not f_why_not fd_why_not
  g_why_not : mg "why_not" = some (.ref f_why_not)
  b_why_not : Binds K fd_why_not ["wish", "product"] []
  f_is_allowed_at : Addr
  fd_is_allowed_at : FuncData
  F_is_allowed_at : Fun K "is_allowed_at" "is_allowed_at" s_is_allowed_at f_is_allowed_at fd_is_allowed_at
  g_is_allowed_at : mg "is_allowed_at" = some (.ref f_is_allowed_at)
  b_is_allowed_at : Binds K fd_is_allowed_at ["wish", "product", "change"] []
  c_is_allowed_at : Addr
  P_is_allowed_at : Addr
  cd_is_allowed_at : fd_is_allowed_at.code = .ref c_is_allowed_at
  f_ones_of : Addr
  fd_ones_of : FuncData
  F_ones_of : Fun K "ones_of" "ones_of" s_ones_of f_ones_of fd_ones_of
  g_ones_of : mg "ones_of" = some (.ref f_ones_of)
  b_ones_of : Binds K fd_ones_of ["wish", "rows"] []
  f_allowed_of : Addr
  fd_allowed_of : FuncData
  F_allowed_of : Fun K "allowed_of" "allowed_of" s_allowed_of f_allowed_of fd_allowed_of
  g_allowed_of : mg "allowed_of" = some (.ref f_allowed_of)
  b_allowed_of : Binds K fd_allowed_of ["wish"] []
  c_allowed_of : Addr
  P_allowed_of : Addr
  cd_allowed_of : fd_allowed_of.code = .ref c_allowed_of
  f_greatest_allowed : Addr
  fd_greatest_allowed : FuncData
  F_greatest_allowed : Fun K "greatest_allowed" "greatest_allowed" s_greatest_allowed f_greatest_allowed fd_greatest_allowed
  g_greatest_allowed : mg "greatest_allowed" = some (.ref f_greatest_allowed)
  b_greatest_allowed : Binds K fd_greatest_allowed ["wish"] []
  c_greatest_allowed : Addr
  P_greatest_allowed : Addr
  cd_greatest_allowed : fd_greatest_allowed.code = .ref c_greatest_allowed
  f_shown_by : Addr
  fd_shown_by : FuncData
  F_shown_by : Fun K "shown_by" "shown_by" s_shown_by f_shown_by fd_shown_by
  g_shown_by : mg "shown_by" = some (.ref f_shown_by)
  b_shown_by : Binds K fd_shown_by ["wish", "given", "thing"] []
  f_shown_for : Addr
  fd_shown_for : FuncData
  F_shown_for : Fun K "shown_for" "shown_for" s_shown_for f_shown_for fd_shown_for
  g_shown_for : mg "shown_for" = some (.ref f_shown_for)
  b_shown_for : Binds K fd_shown_for ["products", "given", "thing"] []
  f_shown_apart : Addr
  fd_shown_apart : FuncData
  F_shown_apart : Fun K "shown_apart" "shown_apart" s_shown_apart f_shown_apart fd_shown_apart
  g_shown_apart : mg "shown_apart" = some (.ref f_shown_apart)
  b_shown_apart : Binds K fd_shown_apart ["products", "given", "some"] []
  c_shown_apart : Addr
  P_shown_apart : Addr
  cd_shown_apart : fd_shown_apart.code = .ref c_shown_apart
  f_shown_case : Addr
  fd_shown_case : FuncData
  F_shown_case : Fun K "shown_case" "shown_case" s_shown_case f_shown_case fd_shown_case
  g_shown_case : mg "shown_case" = some (.ref f_shown_case)
  b_shown_case : Binds K fd_shown_case ["products", "given", "one", "papers"] []
  f_deck : Addr
  fd_deck : FuncData
  F_deck : Fun K "_law_deck" "_law_deck" s_deck f_deck fd_deck
  g_deck : mg "_law_deck" = some (.ref f_deck)
  b_deck : Binds K fd_deck ["_law_script"] []
  f_next : Addr
  fd_next : FuncData
  F_next : Fun K "_law_next" "_law_next" s_next f_next fd_next
  g_next : mg "_law_next" = some (.ref f_next)
  b_next : Binds K fd_next ["_law_deck_here", "_law_most"] []
  f_rows : Addr
  fd_rows : FuncData
  F_rows : Fun K "_law_rows" "_law_rows" s_rows f_rows fd_rows
  g_rows : mg "_law_rows" = some (.ref f_rows)
  b_rows : Binds K fd_rows ["_law_many"] []
  f_holds : Addr
  fd_holds : FuncData
  F_holds : Fun K "_law_holds" "_law_holds" s_holds f_holds fd_holds
  g_holds : mg "_law_holds" = some (.ref f_holds)
  b_holds : Binds K fd_holds ["_law_product_here", "_law_row"] []
  f_inside : Addr
  fd_inside : FuncData
  F_inside : Fun K "_law_inside" "_law_inside" s_inside f_inside fd_inside
  g_inside : mg "_law_inside" = some (.ref f_inside)
  b_inside : Binds K fd_inside ["_law_product_here", "_law_other"] []
  f_meets : Addr
  fd_meets : FuncData
  F_meets : Fun K "_law_meets" "_law_meets" s_meets f_meets fd_meets
  g_meets : mg "_law_meets" = some (.ref f_meets)
  b_meets : Binds K fd_meets ["_law_product_here", "_law_other"] []
  f_cube : Addr
  fd_cube : FuncData
  F_cube : Fun K "_law_cube" "_law_cube" s_cube f_cube fd_cube
  g_cube : mg "_law_cube" = some (.ref f_cube)
  b_cube : Binds K fd_cube ["_law_one", "_law_other"] []
  f_product : Addr
  fd_product : FuncData
  F_product : Fun K "_law_product" "_law_product" s_product f_product fd_product
  g_product : mg "_law_product" = some (.ref f_product)
  b_product : Binds K fd_product ["_law_deck_here", "_law_many"] []
  f_table : Addr
  fd_table : FuncData
  F_table : Fun K "_law_table" "_law_table" s_table f_table fd_table
  g_table : mg "_law_table" = some (.ref f_table)
  b_table : Binds K fd_table ["_law_deck_here", "_law_many"] []
  f_worth : Addr
  fd_worth : FuncData
  F_worth : Fun K "_law_worth" "_law_worth" s_worth f_worth fd_worth
  g_worth : mg "_law_worth" = some (.ref f_worth)
  b_worth : Binds K fd_worth ["_law_wish_here", "_law_row"] []
  f_change : Addr
  fd_change : FuncData
  F_change : Fun K "_law_change" "_law_change" s_change f_change fd_change
  g_change : mg "_law_change" = some (.ref f_change)
  b_change : Binds K fd_change ["_law_deck_here", "_law_many", "_law_table_here"] []
  f_wish : Addr
  fd_wish : FuncData
  F_wish : Fun K "_law_wish" "_law_wish" s_wish f_wish fd_wish
  g_wish : mg "_law_wish" = some (.ref f_wish)
  b_wish : Binds K fd_wish ["_law_deck_here", "_law_most"] []
  f_all_products : Addr
  fd_all_products : FuncData
  F_all_products : Fun K "_law_all_products" "_law_all_products" s_all_products f_all_products fd_all_products
  g_all_products : mg "_law_all_products" = some (.ref f_all_products)
  b_all_products : Binds K fd_all_products ["_law_many"] []
  f_fits : Addr
  fd_fits : FuncData
  F_fits : Fun K "_law_fits" "_law_fits" s_fits f_fits fd_fits
  g_fits : mg "_law_fits" = some (.ref f_fits)
  b_fits : Binds K fd_fits ["_law_wish_here", "_law_product_here", "_law_change_here"] []
  f_allowed : Addr
  fd_allowed : FuncData
  F_allowed : Fun K "_law_allowed" "_law_allowed" s_allowed f_allowed fd_allowed
  g_allowed : mg "_law_allowed" = some (.ref f_allowed)
  b_allowed : Binds K fd_allowed ["_law_wish_here", "_law_product_here"] []
  f_greatest : Addr
  fd_greatest : FuncData
  F_greatest : Fun K "_law_greatest" "_law_greatest" s_greatest f_greatest fd_greatest
  g_greatest : mg "_law_greatest" = some (.ref f_greatest)
  b_greatest : Binds K fd_greatest ["_law_wish_here"] []
  f_asked : Addr
  fd_asked : FuncData
  F_asked : Fun K "_law_asked" "_law_asked" s_asked f_asked fd_asked
  g_asked : mg "_law_asked" = some (.ref f_asked)
  b_asked : Binds K fd_asked ["_law_wish_here"] []
  f_fewest : Addr
  fd_fewest : FuncData
  F_fewest : Fun K "_law_fewest" "_law_fewest" s_fewest f_fewest fd_fewest
  g_fewest : mg "_law_fewest" = some (.ref f_fewest)
  b_fewest : Binds K fd_fewest ["_law_menu", "_law_asked_here"] []
  f_apart : Addr
  fd_apart : FuncData
  F_apart : Fun K "_law_apart" "_law_apart" s_apart f_apart fd_apart
  g_apart : mg "_law_apart" = some (.ref f_apart)
  b_apart : Binds K fd_apart ["_law_menu", "_law_given_here", "_law_some"] []
  f_shown : Addr
  fd_shown : FuncData
  F_shown : Fun K "_law_shown" "_law_shown" s_shown f_shown fd_shown
  g_shown : mg "_law_shown" = some (.ref f_shown)
  b_shown : Binds K fd_shown ["_law_menu", "_law_given_here", "_law_thing"] []
  f_paper : Addr
  fd_paper : FuncData
  F_paper : Fun K "_law_paper" "_law_paper" s_paper f_paper fd_paper
  g_paper : mg "_law_paper" = some (.ref f_paper)
  b_paper : Binds K fd_paper ["_law_deck_here", "_law_menu", "_law_given_here", "_law_deep"] []
  f_holds_any : Addr
  fd_holds_any : FuncData
  F_holds_any : Fun K "_law_holds_any" "_law_holds_any" s_holds_any f_holds_any fd_holds_any
  g_holds_any : mg "_law_holds_any" = some (.ref f_holds_any)
  b_holds_any : Binds K fd_holds_any ["_law_product_here", "_law_some"] []
  f_given : Addr
  fd_given : FuncData
  F_given : Fun K "_law_given" "_law_given" s_given f_given fd_given
  g_given : mg "_law_given" = some (.ref f_given)
  b_given : Binds K fd_given ["_law_deck_here", "_law_asked_here"] []
  f_law : Addr
  fd_law : FuncData
  F_law : Fun K "law" "law" s_law f_law fd_law
  g_law : mg "law" = some (.ref f_law)
  b_law : Binds K fd_law ["_law_script"] []
  m_all : mg "all" = none
  m_any : mg "any" = none
  m_bool : mg "bool" = none
  m_enumerate : mg "enumerate" = none
  m_int : mg "int" = none
  m_isinstance : mg "isinstance" = none
  m_len : mg "len" = none
  m_list : mg "list" = none
  m_min : mg "min" = none
  m_range : mg "range" = none
  m_set : mg "set" = none
  m_sorted : mg "sorted" = none
  m_str : mg "str" = none
  m_sum : mg "sum" = none
  m_tuple : mg "tuple" = none
  m_zip : mg "zip" = none
structure Tb (base : Heap) {K : PySem.W.Frag} {mg : Str → Option Value} (T : Tx K mg) : Prop where
  TB_show_row : GxR.TabB base mg T.c_show_row T.P_show_row
  TB_is_product : GxR.TabB base mg T.c_is_product T.P_is_product
  TB_holds_all : GxR.TabB base mg T.c_holds_all T.P_holds_all
  TB_meet : GxR.TabB base mg T.c_meet T.P_meet
  TB_cube_of : GxR.TabB base mg T.c_cube_of T.P_cube_of
  TB_unheld : GxR.TabB base mg T.c_unheld T.P_unheld
  TB_is_allowed_at : GxR.TabB base mg T.c_is_allowed_at T.P_is_allowed_at
  TB_allowed_of : GxR.TabB base mg T.c_allowed_of T.P_allowed_of
  TB_greatest_allowed : GxR.TabB base mg T.c_greatest_allowed T.P_greatest_allowed
  TB_shown_apart : GxR.TabB base mg T.c_shown_apart T.P_shown_apart
def Tx.tabs {K : PySem.W.Frag} {mg : Str → Option Value} (T : Tx K mg) : List Addr := [T.P_show_row, T.P_is_product, T.P_holds_all, T.P_meet, T.P_cube_of, T.P_unheld, T.P_is_allowed_at, T.P_allowed_of, T.P_greatest_allowed, T.P_shown_apart]
/-! ### generator expressions whose elements may call -/
theorem inv_moved {X : Cx} {cp : List (Addr × Obj)} {σ : L2.St} {H : Hp} {s s' : Shared} (I : Inv X cp σ H s) (os : s'.os = s.os) (bare : AllBare s'.gens) (k : ∀ b o, s.heap.get? b = some o → s'.heap.get? b = some o) : Inv X cp σ H s' :=
  I.call' (ch := []) os (Un.kept k) (I.hok.kept k) bare fun b hb => absurd hb (by simp)
/-- the context of a generator expression's frame: C its frame, s, H the entry, fp its iterator's objects -/
abbrev gblk (X : Cx) (A : Around) (s : Shared) (H : Hp) (cenv : Env) (fp : List Addr) : Cx :=
  { X with A := A, s_0 := s, H_0 := H, env := cenv, outer := X.stack, stack := cenv :: X.stack, ex := fp, fn := fun x => cenv.scope.names.lookup x == some .cell, pn := [], xe := fun _ _ => False }
/-! ### the talk of a generator and who asks it -/
section
variable {α : Type}
/-- handed out: x; the asker's state a (laid down in the pins cp) goes to one with Nx -/
def YG (Xg : Cx) (fp : List Addr) (tn : Nat → Heap → Prop) (AC : α → List (Addr × Obj) → Prop) (Yd : α → V → Hp → (α → Hp → Prop) → Prop) : Protocol := fun _ s0 v s kap =>
  ∃ (a : α) (x : V) (σ : L2.St) (H : Hp) (i : Nat) (cp : List (Addr × Obj)) (Nx : α → Hp → Prop), RelV x v ∧ AC a cp ∧ (∀ p ∈ cp, s0.heap.get? p.1 = some p.2) ∧ Inv Xg cp σ H s ∧ tn i s.heap ∧ (∀ b ∈ fp, H b = none) ∧ Yd a x H Nx ∧
    ∀ a' cp' s', Nx a' H → AC a' cp' → Inv Xg cp' σ H s' → tn i s'.heap → kap (.send .none) s'
def RG (Xg : Cx) (AC : α → List (Addr × Obj) → Prop) (End : α → Hp → Prop) : GenEnd := fun _ s0 r s =>
  ((r = .ok (.ret .none) ∨ r = .ok .next) ∧ ∃ (a : α) (σ : L2.St) (H : Hp) (cp : List (Addr × Obj)), AC a cp ∧ (∀ p ∈ cp, s0.heap.get? p.1 = some p.2) ∧ Inv Xg cp σ H s ∧ End a H) ∨ ∃ e, r = .error e ∧ False
/-- a generator's turns -/
def tGx (J : It) (g : TG) (tt : TT) (te : TE) (σ0 : L2.St) (vs : List Nat) (End : α → Hp → Prop) (Yd : α → V → Hp → (α → Hp → Prop) → Prop) (W : Nat → Nat → α → Hp → Prop) : Prop :=
  ∀ i m a H, W i m a H → (J.stop i H ∧ End a H) ∨ (J.go i H ∧ ∃ Nx : α → Hp → Prop, (∀ a' H', Nx a' H' → ∃ m', m' < m ∧ W (i + 1) m' a' H') ∧
    ∀ x H', J.yld i H x H' → g x σ0 H' fun σ2 H2 => wipe σ2 vs = σ0 ∧ tt σ2 H2 fun b H3 => if b = true then te σ2 H3 fun y H4 => Yd a y H4 Nx else Nx a H3)
theorem wipe_wipe_some {σ σ2 : L2.St} {vs : List Nat} (h : wipe σ2 vs = σ) : ∀ (j : Nat) v, σ[j]? = some (some v) → σ2[j]? = some (some v) := fun j v e => by
  rw [← h] at e
  exact (wipe_some e).1
theorem seg_gx {X : Cx} {A A' : Around} {s_0 : Shared} {H_0 : Hp} {elt tg iter : Expr} {ifs : List Expr} {scope : Scope} {pos : Pos} {it : Addr} {fp : List Addr} {tn : Nat → Heap → Prop} {J : It} {cenv : Env} {g : TG} {tt : TT} {te : TE} {σ0 : L2.St} {vs : List Nat}
    {AC : α → List (Addr × Obj) → Prop} {End : α → Hp → Prop} {Yd : α → V → Hp → (α → Hp → Prop) → Prop} {W : Nat → Nat → α → Hp → Prop}
    (hA : A.over (.compLoop (.GeneratorExp elt [⟨tg, iter, ifs, 0⟩] scope pos) 0 (.ref it) .none cenv) [] = A') (hc : X.calm = true) (hco : cenv.scope.isCoroutine = false)
    (T : Turn X.prog X.w X.K tg J fp it tn) (pg : PG (gblk X A' s_0 H_0 cenv fp) tg g) (pt : PTs (gblk X A' s_0 H_0 cenv fp) ifs tt) (pe : PE (gblk X A' s_0 H_0 cenv fp) elt te)
    (hAC : ∀ a cp, AC a cp → ∀ p ∈ cp, ∀ b ∈ fp, p.1 ≠ b) (turn : tGx J g tt te σ0 vs End Yd W) :
    ∀ (m n i : Nat) (a : α) (H : Hp) (s₀ s : Shared) (cp : List (Addr × Obj)), m < n → W i m a H → AC a cp → (∀ p ∈ cp, s₀.heap.get? p.1 = some p.2) → Inv (gblk X A' s_0 H_0 cenv fp) cp σ0 H s → tn i s.heap → (∀ b ∈ fp, H b = none) →
      Seg (model X.prog X.w) A (RG (gblk X A' s_0 H_0 cenv fp) AC End) (YG (gblk X A' s_0 H_0 cenv fp) fp tn AC Yd) n s₀
        (.compLoop (.GeneratorExp elt [⟨tg, iter, ifs, 0⟩] scope pos) 0 (.ref it) .none cenv)
        ((model X.prog X.w).den (.compLoop (.GeneratorExp elt [⟨tg, iter, ifs, 0⟩] scope pos) 0 (.ref it) .none cenv)) [] s := by
  have stat : ∀ {a : α} {cp : List (Addr × Obj)} {σ' : L2.St} {H' : Hp} {s' : Shared}, AC a cp → Inv (gblk X A' s_0 H_0 cenv fp) cp σ' H' s' → (∀ b ∈ fp, H' b = none) → ∀ b ∈ fp, FpOk (gblk X A' s_0 H_0 cenv fp) cp H' b := fun {a cp σ' H' s'} hac I' hn b hb =>
    ⟨hn b hb, (I'.ok.exf b hb).1, I'.ok.exfs b hb, .inl hb, fun x c e => (I'.ok.exf b hb).2 x c e, fun p hp => hAC a cp hac p (by simpa using hp) b hb⟩
  intro m
  induction m using Nat.strongRecOn with
  | ind m ih =>
    intro n i a H s₀ s cp hmn w hac tie I st nf
    show Seg _ A _ _ _ s₀ _ ((compTurn (.GeneratorExp elt [⟨tg, iter, ifs, 0⟩] scope pos) 0 (.ref it) .none cenv).onRaise (leaving cenv)) [] s
    rw [compTurn_gen, Sem.onRaise_eq_wrap]
    refine seg_bind_wrap (wpAny_standAt ?_)
    rcases turn i m a H w with ⟨stop, hend⟩ | ⟨go, Nx, hNx, step⟩
    · refine seg_bind_wrap ?_
      rw [hA]
      refine thnF (T.done (gblk X A' s_0 H_0 cenv fp) rfl rfl rfl hc i cp s σ0 H (fun _ _ => False) I (stat hac I nf) st stop) fun r s1 ⟨hr, I1⟩ => ?_
      subst hr
      exact seg_end (.ok .next) (.inl ⟨.inr rfl, a, _, H, cp, hac, tie, I1, hend⟩)
    · refine seg_bind_wrap ?_
      rw [hA]
      refine thnF (T.item (gblk X A' s_0 H_0 cenv fp) rfl rfl rfl hc i cp s σ0 H (fun _ _ => False) I (stat hac I nf) st go) fun r s1 ⟨u, hr, h1⟩ => ?_
      subst hr
      refine seg_bind_wrap ?_
      rw [hA]
      refine thnF h1 fun _ s2 ⟨x, H2, I2, r2, y2, st2, n2⟩ => ?_
      have I2' := I2.pinned (stat hac I2 n2) (T.obj _ _ st2)
      refine seg_bind_wrap ?_
      rw [hA]
      refine thnF (pg.run _ s2 _ H2 x u _ I2' r2 (step x H2 y2)) fun _ s3 ⟨σ3, H3, I3, hw3, q3⟩ => ?_
      refine seg_bind_wrap ?_
      rw [hA]
      refine thnF (pt.run _ s3 σ3 H3 _ I3 q3) fun b s4 ⟨H4, I4, q4⟩ => ?_
      have hl : σ0.length = σ3.length := by rw [← hw3, wipe_length]
      have fin : ∀ {s' : Shared} {H' : Hp}, Inv (gblk X A' s_0 H_0 cenv fp) (cp ++ pinsAt fp s2.heap) σ3 H' s' → Inv (gblk X A' s_0 H_0 cenv fp) cp σ0 H' s' ∧ tn (i + 1) s'.heap ∧ ∀ b ∈ fp, H' b = none := fun {s' H'} I' => by
        have pin' : ∀ b ∈ fp, ∀ o, s2.heap.get? b = some o → s'.heap.get? b = some o ∧ H' b = none := fun b hb o e =>
          let z := I'.pin (b, o) (List.mem_append_right _ (List.mem_append_right _ (mem_pinsAt hb e)))
          ⟨z.1, z.2.1⟩
        refine ⟨(I'.unpinned (pins := cp)).weak hl (wipe_wipe_some hw3), T.keep _ _ _ st2 fun b hb o e => (pin' b hb o e).1, fun b hb => ?_⟩
        obtain ⟨o, e, _⟩ := T.obj _ _ st2 b hb
        exact (pin' b hb o e).2
      cases b with
      | false =>
        simp only [Bool.false_eq_true, if_false] at q4 ⊢
        obtain ⟨m', hm, w'⟩ := hNx a H4 q4
        obtain ⟨J1, J2, J3⟩ := fin I4
        exact seg_again rfl (ih m' hm n (i + 1) a H4 s₀ s4 cp (by omega) w' hac tie J1 J2 J3)
      | true =>
        simp only [if_true] at q4 ⊢
        have hy : ∀ v, yieldOut cenv v = yieldValue v := fun v => by simp only [yieldOut, hco, Bool.false_eq_true, if_false]
        simp only [hy]
        rw [Sem.bind_eq_wrap', Sem.bind_eq_wrap', Sem.wrap_wrap, Sem.wrap_wrap]
        refine seg_wrap ?_
        rw [hA]
        refine thnF (pe.run _ s4 σ3 H4 _ I4 q4) fun yv s5 ⟨y, H5, I5, r5, q5⟩ => ?_
        obtain ⟨J1, J2, J3⟩ := fin I5
        -- at least one more
        cases n with
        | zero => exact absurd hmn (Nat.not_lt_zero _)
        | succ n =>
          refine seg_at (seg_yield rfl rfl rfl ⟨a, y, σ0, H5, i + 1, cp, Nx, r5, hac, tie, J1, J2, J3, q5, fun a' cp' s' nx hac' I' st' => ?_⟩)
          obtain ⟨m', hm, w'⟩ := hNx a' H5 nx
          exact seg_again rfl (ih m' hm n (i + 1) a' H5 s' s' cp' (by omega) w' hac' (fun p hp => (I'.pin p (List.mem_append_right _ hp)).1) I' st' J3)
end
/-! ### a generator that is made -/
section
variable {X : Cx} {pins : List (Addr × Obj)} {σ : L2.St} {H : Hp} {s : Shared}
def GenObj (o : Obj) (g : Nat) : Prop := ∃ nm qn, o.cls = .type "generator" ∧ o.data = .fields #[.int g 0, nm, qn] ∧ o.slots = #[]
theorem GenObj.isGen {o : Obj} {g : Nat} (h : GenObj o g) {a : Addr} {hp : Heap} (e : hp.get? a = some o) : hp.IsGen a g := by
  obtain ⟨nm, qn, h1, h2, h3⟩ := h
  exact ⟨o, nm, qn, e, h1, h2, h3⟩
/-- the generator u, made and not begun, in the state s5 -/
def Gx (X : Cx) (pins : List (Addr × Obj)) (σ : L2.St) (A : Around) (J : It) (g : TG) (tt : TT) (te : TE) (vs : List Nat) (H4 : Hp) (u : Value) (s5 : Shared) : Prop :=
  ∃ (A' : Around) (s_0 : Shared) (H_0 : Hp) (cenv : Env) (fp : List Addr) (ga : Addr) (gn : Nat) (go : Obj) (tn : Nat → Heap → Prop) (gs : GenState),
    u = .ref ga ∧ GenObj go gn ∧ s5.gens[gn]? = some gs ∧ gs.bare = true ∧ Inv (gblk X A' s_0 H_0 cenv fp) [(ga, go)] (wipe σ vs) H4 s5 ∧ tn 0 s5.heap ∧ (∀ b ∈ fp, H4 b = none) ∧ (∀ b ∈ fp, b < ga) ∧
    (∀ i h h', tn i h → (∀ b ∈ fp, ∀ o, h.get? b = some o → h'.get? b = some o) → tn i h') ∧ (∀ cp σ' H' s', Inv (gblk X A' s_0 H_0 cenv fp) cp σ' H' s' → Inv X pins σ H' s') ∧
    ∀ (α : Type) (AC : α → List (Addr × Obj) → Prop) (End : α → Hp → Prop) (Yd : α → V → Hp → (α → Hp → Prop) → Prop) (W : Nat → Nat → α → Hp → Prop) (m n : Nat) (a : α) (cp : List (Addr × Obj)) (s' : Shared),
      tGx J g tt te (wipe σ vs) vs End Yd W → W 0 m a H4 → m < n → (∀ a cp, AC a cp → ∀ p ∈ cp, ∀ b ∈ fp, p.1 ≠ b) → AC a cp → Inv (gblk X A' s_0 H_0 cenv fp) cp (wipe σ vs) H4 s' → tn 0 s'.heap →
      gs.Goes (model X.prog X.w) A (RG (gblk X A' s_0 H_0 cenv fp) AC End) (YG (gblk X A' s_0 H_0 cenv fp) fp tn AC Yd) n (.send .none) s'
/-- what stands about an asker -/
structure Near (A B : Around) : Prop where
  hd : B.handled = A.handled
  fr : B.frames = A.frames
  gd : B.guards = A.guards
  dp : B.depth = A.depth
  un : B.units ≤ A.units + 8
end
/-! ### a generator expression whose own names may be cells -/
namespace GzN
section
variable {M : Model} {A : Around} {E : Value → Shared → Prop} {s : Shared}
abbrev frameO : Obj := { cls := .type "frame", data := .dict #[] }
theorem new_env {scope : Scope} {globals bi : Addr} {cl : List (Str × Addr)} {it code : Value} {qual : Str} {Q : Env → Shared → Prop} (hk : scope.kind = .function) (h0 : scope.names.lookup (".0" : Str) = some NameKind.local)
    (h : ∀ h', h'.Ns s.heap.objs.size (fun y => if y = ".0" then some it else none) → Heap.SameBut s.heap.objs.size (pushCells (s.heap.push frameO) scope.names) h' →
      Q { scope, locals := s.heap.objs.size, globals, cells := cellsFrom (s.heap.objs.size + 1) scope.names cl, qual, func := none, code, frame := some s.heap.objs.size, builtins := bi } { s with heap := h', toks := s.toks + 1 }) :
    wpAny M A (newFunctionEnv scope globals cl [(".0", it)] qual none code none bi) Q E s := by
  simp only [newFunctionEnv, Option.isSome_none, Bool.false_eq_true, if_false]
  refine wpAny_bind (wpAny_alloc ?_)
  refine wpAny_bind (wpAny_layCells _ (fun _ _ _ => rfl) scope.names cl _ _ ?_)
  have sz : ({ s with heap := s.heap.push frameO } : Shared).heap.objs.size = s.heap.objs.size + 1 := Heap.size_push ..
  rw [sz, List.forIn_cons]
  have hl : Env.kindOf { scope, locals := s.heap.objs.size, globals, cells := cellsFrom (s.heap.objs.size + 1) scope.names cl, qual, func := none, code, frame := some s.heap.objs.size, builtins := bi } (".0" : Str) = some .local := h0
  have hp : (({ scope, locals := s.heap.objs.size, globals, cells := cellsFrom (s.heap.objs.size + 1) scope.names cl, qual, func := none, code, frame := some s.heap.objs.size, builtins := bi } : Env).scope.kind == .class || (({ scope, locals := s.heap.objs.size, globals, cells := cellsFrom (s.heap.objs.size + 1) scope.names cl, qual, func := none, code, frame := some s.heap.objs.size, builtins := bi } : Env).scope.kind == .module && ({ scope, locals := s.heap.objs.size, globals, cells := cellsFrom (s.heap.objs.size + 1) scope.names cl, qual, func := none, code, frame := some s.heap.objs.size, builtins := bi } : Env).locals != ({ scope, locals := s.heap.objs.size, globals, cells := cellsFrom (s.heap.objs.size + 1) scope.names cl, qual, func := none, code, frame := some s.heap.objs.size, builtins := bi } : Env).globals)) = false := by
    show (scope.kind == .class || (scope.kind == .module && _)) = false
    rw [hk]
    rfl
  simp only [storeName_local hl hp]
  have ns : (pushCells (s.heap.push frameO) scope.names).Ns s.heap.objs.size fun _ => none := (Heap.Ns.new s.heap (.type "frame")).keeps (pushCells_keeps _ _)
  refine wpAny_bind (wpAny_bind (wpAny_bind (wpAny_nsSet ns fun h' hn sb => wpAny_pure ?_)))
  dsimp only
  rw [List.forIn_nil]
  exact wpAny_pure (wpAny_pure (h h' hn sb))
/-- the environment of such a frame -/
def envN (scope : Scope) (cl : List (Str × Addr)) (C : Addr) (code : Value) (bi : Addr) (env : Env) : Env := genEnv scope (cellsFrom (C + 1) scope.names cl) C code bi env
theorem gen_make {env : Env} {elt target iter : Expr} {ifs : List Expr} {scope : Scope} {cl : List (Str × Addr)} {pos : Pos} {Q : Value → Shared → Prop}
    (hco : scope.isCoroutine = false) (hclos : closureFor scope env = pure cl) (h0 : scope.names.lookup (".0" : Str) = some NameKind.local) (hk : scope.kind = .function) (hroom : A.depth < recursionLimit)
    (h : wpAny M A (eval iter env) (fun xv s1 => wpAny M A (pyIter xv) (fun it s2 => s2.heap.NoLimit ∧
      wpAny M A (genexprCode env pos (env.qual ++ "<genexpr>") scope) (fun code s3 => wpAny M A (builtinsFor env.globals env.builtins) (fun bi s4 =>
        ∀ h', h'.Ns s4.heap.objs.size (fun y => if y = ".0" then some it else none) → Heap.SameBut s4.heap.objs.size (pushCells (s4.heap.push frameO) scope.names) h' →
          Q (.ref h'.objs.size) { s4 with
            gens := s4.gens.push (.fresh (.compStart (.GeneratorExp elt [⟨target, iter, ifs, 0⟩] scope pos) 0 it .none (envN scope cl s4.heap.objs.size code bi env))),
            toks := s4.toks + 1 + 1 + 1,
            heap := h'.push { cls := .type "generator", data := .fields #[.int s4.gens.size 0, .str "<genexpr>" (s4.toks + 1), .str (env.qual ++ "<genexpr>") (s4.toks + 1 + 1)] } }) E s3) E s2) E s1) E s)
    (hs : ∀ x, genFold iter env x = pure x) : wpAny M A (eval (.GeneratorExp elt [⟨target, iter, ifs, 0⟩] scope pos) env) Q E s := by
  rw [eval_GeneratorExp1 _ _ _ _ _ _ _ hco, hclos]
  refine wpAny_bind (wpAny_mono h (fun xv s1 h1 => wpAny_bind (wpAny_standAt (wpAny_bind (wpAny_of_eq (hs xv) ?_)))) fun _ _ e => e)
  refine wpAny_bind (wpAny_holding (wpAny_mono h1 (fun it s2 h2 => ?_) fun _ _ e => e))
  refine wpAny_bind (wpAny_enterFrame h2.1 hroom (wpAny_bind (wpAny_pure ?_)))
  refine wpAny_bind (wpAny_mono h2.2 (fun code s3 h3 => wpAny_bind (wpAny_mono h3 (fun bi s4 h4 => ?_) fun _ _ e => e)) fun _ _ e => e)
  refine wpAny_bind (new_env hk h0 fun h' hn sb => ?_)
  simp only [newGenerator, newFields]
  refine wpAny_bind (wpAny_newGen (wpAny_bind (wpAny_mkText (wpAny_bind (wpAny_mkText (wpAny_newObj_type ?_ (by size_fits)))))))
  exact h4 h' hn sb
end
section
variable {X : Cx} {pins : List (Addr × Obj)} {σ : L2.St} {H : Hp} {s : Shared}
theorem startC {scope : Scope} {own : List (Str × Nat)} {fp : List Addr} {A : Around} {code : Value} {it : Value} {s5 : Shared} {cp : List (Addr × Obj)} (I : Inv X pins σ H s) (ok : BlkOk X.N X.env.scope scope own) (hN : X.N.Nodup) (hfp : ∀ b ∈ fp, FpOk X pins H b ∧ b < s.heap.objs.size)
    (hh : A.handled = none) (hfr : A.frames = some (envN scope (cloFrom X.env.cells scope.names []) s.heap.objs.size code builtinsNs X.env :: X.stack))
    (os : s5.os = s.os) (bare : AllBare s5.gens) (kp : ∀ b o, s.heap.get? b = some o → s5.heap.get? b = some o) (kc : ∀ b o, b ≠ s.heap.objs.size → (pushCells (s.heap.push frameO) scope.names).get? b = some o → s5.heap.get? b = some o)
    (hns : s5.heap.Ns s.heap.objs.size fun y => if y = ".0" then some it else none)
    (hcp : ∀ p ∈ cp, s.heap.objs.size < p.1 ∧ s5.heap.get? p.1 = some p.2 ∧ ∀ v, p.2.data ≠ .cell v) :
    Inv (gblk X A s H (envN scope (cloFrom X.env.cells scope.names []) s.heap.objs.size code builtinsNs X.env) fp) cp (wipe σ (own.map (·.2))) H s5 := by
  have hfree : ∀ y ∈ scope.names, y.2 = .free → ∃ c, X.env.cells.lookup y.1 = some c := fun y hy e => by
    rcases ok.free y hy e with k | k
    · exact I.ok.has _ (.inl k)
    · exact I.ok.has _ (.inr k)
  generalize ecv : envN scope (cloFrom X.env.cells scope.names []) s.heap.objs.size code builtinsNs X.env = cenv at hfr ⊢
  have hL : cenv.locals = s.heap.objs.size := by rw [← ecv]; rfl
  have hcl : cenv.cells = cellsFrom (s.heap.push frameO).objs.size scope.names (cloFrom X.env.cells scope.names []) := by rw [← ecv, Heap.size_push]; rfl
  have hsc : cenv.scope = scope := by rw [← ecv]; rfl
  have cm : ∀ {y c}, (y, c) ∈ cloFrom X.env.cells scope.names [] → X.env.cells.lookup y = some c ∧ c < s.heap.objs.size := fun {y c} hm => by
    rcases cloFrom_mem hm with hm | ⟨h1, rfl⟩
    · cases hm
    · obtain ⟨c, hc⟩ := hfree _ h1 rfl
      rw [hc]
      obtain ⟨w, z⟩ := I.cell _ _ hc
      exact ⟨rfl, z.lt⟩
  have mem : ∀ {y c}, cenv.cells.lookup y = some c → (X.env.cells.lookup y = some c ∧ c < s.heap.objs.size) ∨ (s.heap.objs.size + 1 ≤ c ∧ CellAt s5.heap c none) := fun {y c} e => by
    rw [hcl] at e
    rcases cells_mem (PySem.mem_of_lookup e) with hm | ⟨_, h2, o, h3, h4⟩
    · exact .inl (cm hm)
    · rw [Heap.size_push] at h2
      exact .inr ⟨h2, o, kc c o (fun z => by rw [z] at h2; exact absurd h2 (Nat.not_succ_le_self _)) h3, h4⟩
  have look : ∀ {y}, scope.names.lookup y = some .free → ∃ c, cenv.cells.lookup y = some c ∧ X.env.cells.lookup y = some c := fun {y} hl => by
    have hy : (y, NameKind.free) ∈ scope.names := PySem.mem_of_lookup hl
    obtain ⟨c', e'⟩ := mem_lookup (cells_acc (names := scope.names) (n := (s.heap.push frameO).objs.size) (cloFrom_has (cells := X.env.cells) (acc := []) hy))
    rw [← hcl] at e'
    refine ⟨c', e', ?_⟩
    rw [hcl] at e'
    rcases cells_mem (PySem.mem_of_lookup e') with hm | ⟨h1, _, _⟩
    · exact (cm hm).1
    · have := ok.uniq _ h1
      rw [hl] at this
      cases this
  have okB : (gblk X A s H cenv fp).Ok := by
    refine ⟨I.ok.mod, by show cenv.scope.kind = _; rw [hsc]; exact ok.kind, by show cenv.globals = _; rw [← ecv]; exact I.ok.glob, by show cenv.builtins = _; rw [← ecv]; rfl, by show s.heap.objs.size ≤ cenv.locals; rw [hL]; exact Nat.le_refl _,
      fun y z c e1 e2 => ?_, fun y hy => ?_, fun y c z e => ?_, fun _ => hh, hfr, .inr ⟨rfl, by show cenv.frame = some cenv.locals; rw [← ecv]; rfl⟩, fun b hb => ⟨?_, fun y c e z => ?_⟩, I.bs, Nat.le_trans I.ok.bsz I.sz, fun b o e hb => ?_, fun b hb z => ?_, I.stack, I.stkFree⟩
    · have e1 : cenv.cells.lookup y = some c := e1
      have e2 : cenv.cells.lookup z = some c := e2
      rw [hcl] at e1 e2
      refine cells_inj (fun p hp => ?_) (fun y z c a b => I.ok.inj y z c (cm a).1 (cm b).1) (PySem.mem_of_lookup e1) (PySem.mem_of_lookup e2)
      rw [Heap.size_push]
      exact Nat.lt_succ_of_lt (cm (y := p.1) (c := p.2) hp).2
    · have hy' : scope.names.lookup y = some .cell ∨ scope.names.lookup y = some .free := by
        rw [← hsc]
        exact hy
      rcases hy' with e | e
      · obtain ⟨c, hm⟩ := cells_has (n := (s.heap.push frameO).objs.size) (acc := cloFrom X.env.cells scope.names []) (PySem.mem_of_lookup e)
        obtain ⟨c', e'⟩ := mem_lookup hm
        exact ⟨c', by show cenv.cells.lookup y = some c'; rw [hcl]; exact e'⟩
      · obtain ⟨c, h1, _⟩ := look e
        exact ⟨c, h1⟩
    · have z : scope.names.lookup y = some .cell := by
        have z : (cenv.scope.names.lookup y == some NameKind.cell) = true := z
        rw [hsc] at z
        simpa using z
      have e : cenv.cells.lookup y = some c := e
      rw [hcl] at e
      rcases cells_mem (PySem.mem_of_lookup e) with hm | ⟨_, h2, _⟩
      · rcases cloFrom_mem hm with hm | ⟨h1, _⟩
        · cases hm
        · have q := ok.uniq _ h1
          rw [z] at q; cases q
      · rw [Heap.size_push] at h2
        exact Nat.le_of_succ_le h2
    · show b ≠ cenv.locals
      rw [hL]; exact Nat.ne_of_lt (hfp b hb).2
    · rcases mem (show cenv.cells.lookup y = some c from e) with ⟨h1, _⟩ | ⟨h1, _⟩
      · exact (hfp b hb).1.2.2.2.2.1 y c h1 z
      · rw [z] at h1
        exact absurd (Nat.lt_of_lt_of_le (hfp b hb).2 (Nat.le_of_succ_le h1)) (Nat.lt_irrefl _)
    · rcases (hfp b hb).1.2.2.2.1 with z | z
      · exact I.ok.noex b o e z
      · exact absurd (Nat.lt_of_lt_of_le (Heap.lt_size e) (Nat.le_trans I.ok.bsz z)) (Nat.lt_irrefl _)
    · rcases List.mem_cons.mp (I.stkSub b z) with z | z
      · exact (hfp b hb).1.2.1 z
      · exact (hfp b hb).1.2.2.1 z
  refine ⟨okB, os, bare, Un.kept kp, ⟨_, (by show s5.heap.Ns cenv.locals _; rw [hL]; exact hns), fun i y av e1 e2 e3 => ?_⟩, fun y c e => ?_, ?_, fun y c e => ?_, fun p hp => ?_, I.hok.kept kp, by rw [wipe_length]; exact I.len⟩
  · obtain ⟨e2, hne⟩ := wipe_some e2
    have e3 : Vis scope y := by rw [← hsc]; exact e3
    have no : ∀ k, scope.names.lookup y = some k → ¬ (k = .local ∨ k = .cell) := fun k e hh => by
      rcases ok.own _ (PySem.mem_of_lookup e) hh with e' | e'
      · obtain ⟨p, hp, hpy⟩ := List.mem_map.mp e'
        have e3 := ok.ix p hp
        have : p.1 = y := hpy
        rw [this] at e3
        exact hne (List.mem_map.mpr ⟨p, hp, nodup_ix hN e3 e1⟩)
      · exact e' (List.mem_of_getElem? e1)
    have hfr2 : scope.names.lookup y = some .free := by
      rcases e3 with e | e | e
      · exact absurd (.inl rfl) (no _ e)
      · exact absurd (.inr rfl) (no _ e)
      · exact e
    obtain ⟨m, hn, hl⟩ := I.loc
    have hvis : Vis X.env.scope y := (ok.free _ (PySem.mem_of_lookup hfr2) rfl).elim (fun k => .inr (.inl k)) (fun k => .inr (.inr k))
    obtain ⟨w, r, q⟩ := hl i y av e1 e2 hvis
    refine ⟨w, r, .inr ⟨.inr (by show cenv.scope.names.lookup y = some .free; rw [hsc]; exact hfr2), ?_⟩⟩
    obtain ⟨c, h1, h2⟩ := look hfr2
    rcases q with ⟨k, _⟩ | ⟨_, c', e', z⟩
    · have k : X.env.scope.names.lookup y = some .local := k
      rcases ok.free _ (PySem.mem_of_lookup hfr2) rfl with k' | k' <;> rw [show X.env.scope.names.lookup y = _ from k'] at k <;> cases k
    · rw [h2] at e'; cases e'
      exact ⟨c, h1, z.keeps kp⟩
  · rcases mem (show cenv.cells.lookup y = some c from e) with ⟨h1, _⟩ | ⟨_, z⟩
    · obtain ⟨w, z⟩ := I.cell y c h1
      exact ⟨w, z.keeps kp⟩
    · exact ⟨_, z⟩
  · show H cenv.locals = none
    rw [hL]; exact I.hok.fresh (Nat.le_refl _)
  · rcases mem (show cenv.cells.lookup y = some c from e) with ⟨h1, _⟩ | ⟨h1, _⟩
    · exact I.freeC y c h1
    · exact I.hok.fresh (Nat.le_of_succ_le h1)
  · have hp : p ∈ cp := by simpa using hp
    obtain ⟨h1, h2, h3⟩ := hcp p hp
    refine ⟨h2, I.hok.fresh (Nat.le_of_lt h1), by show p.1 ≠ cenv.locals; rw [hL]; exact Nat.ne_of_gt h1, fun z => ?_, h3⟩
    rcases List.mem_cons.mp (I.stkSub _ z) with z | z
    · exact absurd (Nat.lt_trans I.lt h1) (by rw [z]; exact Nat.lt_irrefl _)
    · exact I.nofs (Nat.le_of_lt h1) z
end
end GzN
/-! ### tables of code objects, each of them known with a table of its own -/
namespace GzN
def CodeK (c P : Addr) : HO := .ext fun h => PySem.W.CodeHd h c P
def NestOk (H : Hp) : List Value → Prop
  | [] => True
  | .int _ _ :: .int _ _ :: v :: rest => (∃ c P, v = .ref c ∧ H c = some (CodeK c P) ∧ «GxR».TabG H P) ∧ NestOk H rest
  | _ => False
def TabG (H : Hp) (P : Addr) : Prop := ∃ ps : Array Value, H P = some (.tbl ps) ∧ TriplesOk ps.toList ∧ NestOk H ps.toList
def Tabbed (P : Addr) (H H' : Hp) : Prop := TabG H' P ∧ ∀ b o, b ≠ P → H b = some o → H' b = some o
theorem codeK_ne {c P : Addr} (ps : Array Value) : CodeK c P ≠ .tbl ps := fun z => by
  unfold CodeK at z
  cases z
theorem TabG.plain {H : Hp} {P : Addr} (h : TabG H P) : «GxR».TabG H P := by
  obtain ⟨ps, e, t, _⟩ := h
  exact ⟨ps, e, t⟩
theorem NestOk.mono {H H' : Hp} (k : ∀ c P, H c = some (CodeK c P) → H' c = some (CodeK c P)) (t : ∀ P, «GxR».TabG H P → «GxR».TabG H' P) : ∀ {l : List Value}, NestOk H l → NestOk H' l
  | [], _ => trivial
  | .int _ _ :: .int _ _ :: _ :: _, ⟨⟨c, P, e, h, z⟩, r⟩ => ⟨⟨c, P, e, k c P h, t P z⟩, NestOk.mono k t r⟩
theorem NestOk.snoc {H : Hp} {a b : Int} {t u : Tok} {c P : Addr} (hc : H c = some (CodeK c P)) (hP : «GxR».TabG H P) : ∀ {l : List Value}, NestOk H l → NestOk H (l ++ [.int a t, .int b u, .ref c])
  | [], _ => ⟨⟨c, P, rfl, hc, hP⟩, trivial⟩
  | .int _ _ :: .int _ _ :: _ :: _, ⟨h, r⟩ => ⟨h, NestOk.snoc hc hP r⟩
theorem NestOk.found {H : Hp} {pos : Pos} {cv : Value} : ∀ {l : List Value}, NestOk H l → codeAmong pos l = some cv → ∃ c P, cv = .ref c ∧ H c = some (CodeK c P) ∧ «GxR».TabG H P
  | [], _, h => by simp [codeAmong] at h
  | .int a t :: .int b u :: v :: rest, ⟨h, r⟩, e => by
    simp only [codeAmong] at e
    split at e
    · cases e
      exact h
    · exact NestOk.found r e
theorem TabG.grown {H H' : Hp} (k : ∀ b o, (∀ ps, o ≠ HO.tbl ps) → H b = some o → H' b = some o) (t : ∀ P, «GxR».TabG H P → «GxR».TabG H' P) {P : Addr} (h : TabG H P) (e : ∀ ps, H P = some (.tbl ps) → H' P = some (.tbl ps)) : TabG H' P := by
  obtain ⟨ps, a, b, c⟩ := h
  exact ⟨ps, e ps a, b, c.mono (fun c P z => k c _ (fun ps => codeK_ne ps) z) t⟩
section
variable {X : Cx} {pins : List (Addr × Obj)} {σ : L2.St} {H : Hp} {s : Shared}
/-- the table is written, its new code object and the table of that known from now on -/
theorem inv_code {P c Q : Addr} {ps more : Array Value} {h' : Heap} {t' : Nat} (I : Inv X pins σ H s) (hP : H P = some (.tbl ps)) (k : ∀ b o, b ≠ P → s.heap.get? b = some o → h'.get? b = some o)
    (hm : h'.get? P = some { cls := .none, data := .fields (ps ++ more) }) (hc : s.heap.objs.size ≤ c) (hQ : s.heap.objs.size ≤ Q) (cd : PySem.W.CodeHd h' c Q) (tq : h'.get? Q = some { cls := .none, data := .fields #[] }) :
    Inv X pins σ (upd (upd (upd H P (.tbl (ps ++ more))) c (CodeK c Q)) Q (.tbl #[])) { s with heap := h', toks := t' } := by
  have ncQ : c ≠ Q := by
    obtain ⟨_, _, _, _, _, _, _, _, _, _, _, _, _, _, _, _, _, _, z⟩ := cd
    exact z
  have fc : H c = none := I.hok.fresh hc
  have fQ : H Q = none := I.hok.fresh hQ
  have Pc : P ≠ c := ne_of_none hP fc
  have PQ : P ≠ Q := ne_of_none hP fQ
  have other : ∀ b, b ≠ P → b ≠ c → b ≠ Q → upd (upd (upd H P (.tbl (ps ++ more))) c (CodeK c Q)) Q (.tbl #[]) b = H b := fun b h1 h2 h3 => by rw [upd_ne h3, upd_ne h2, upd_ne h1]
  have atP : upd (upd (upd H P (.tbl (ps ++ more))) c (CodeK c Q)) Q (.tbl #[]) P = some (.tbl (ps ++ more)) := by rw [upd_ne PQ, upd_ne Pc, upd_same]
  have atc : upd (upd (upd H P (.tbl (ps ++ more))) c (CodeK c Q)) Q (.tbl #[]) c = some (CodeK c Q) := by rw [upd_ne ncQ, upd_same]
  have notP : ∀ b u, H b = some u → (∀ q, u ≠ .tbl q) → b ≠ P := fun b u e q z => by
    rw [z, hP] at e
    exact q ps (Option.some.inj e).symm
  have nP : ∀ b, H b = none → b ≠ P := fun b e z => by
    rw [z, hP] at e
    cases e
  have older : ∀ b o, s.heap.get? b = some o → b ≠ c ∧ b ≠ Q := fun b o e => ⟨fun z => absurd (Nat.lt_of_lt_of_le (Heap.lt_size e) hc) (by rw [z]; exact Nat.lt_irrefl _), fun z => absurd (Nat.lt_of_lt_of_le (Heap.lt_size e) hQ) (by rw [z]; exact Nat.lt_irrefl _)⟩
  have known : ∀ b u, H b = some u → b ≠ c ∧ b ≠ Q := fun b u e => ⟨ne_of_none e fc, ne_of_none e fQ⟩
  have plain : ∀ b u, H b = some u → (∀ q, u ≠ .tbl q) → upd (upd (upd H P (.tbl (ps ++ more))) c (CodeK c Q)) Q (.tbl #[]) b = H b := fun b u e n => other b (notP b u e n) (known b u e).1 (known b u e).2
  refine I.step (g' := s.gens) (d' := s.drawn) (ch := []) (fun b hb => absurd hb (by simp)) (fun b o _ _ _ e n => k b o (nP b n) e) (fun b o _ _ _ e n => ⟨o.slots, k b o (nP b n) e⟩)
    (fun b o _ e n => by rw [other b (nP b n) (older b o e).1 (older b o e).2]; exact n) (fun b o _ e => ?_) (fun b xs e => by rw [plain b _ e (fun q z => by cases z)]; exact e) (fun b o u e => by rw [plain b _ e (fun q z => by cases z)]; exact e) (fun b qs e => ?_) (fun m hn => ?_) (fun b u e => ?_) I.bare
  · by_cases hb : b = P
    · exact ⟨_, by rw [hb]; exact hm⟩
    · exact ⟨o, k b o hb e⟩
  · by_cases hb : b = P
    · rw [hb, hP] at e
      cases e
      exact ⟨more, by rw [hb]; exact atP⟩
    · exact ⟨#[], by rw [other b hb (known b _ e).1 (known b _ e).2, e]; simp⟩
  · obtain ⟨ob, es, ep, ho, r⟩ := hn
    exact ⟨ob, es, ep, k _ ob (nP _ I.free) ho, r⟩
  · by_cases h1 : b = Q
    · rw [h1, upd_same] at e
      cases e
      rw [h1]
      exact tq
    · by_cases h2 : b = c
      · rw [h2, atc] at e
        cases e
        rw [h2]
        have cd2 := cd
        obtain ⟨o, vs, f, tf, fl, tg, inF, tx, tt, e1, r⟩ := cd
        refine ⟨cd2, ⟨o, e1⟩, fun g1 g2 z st => ?_⟩
        obtain ⟨o, vs, f, tf, fl, tg, inF, tx, tt, e1, r⟩ := z
        exact ⟨o, vs, f, tf, fl, tg, inF, tx, tt, st o e1, r⟩
      · by_cases h3 : b = P
        · rw [h3, atP] at e
          cases e
          rw [h3]
          exact hm
        · rw [other b h3 h2 h1] at e
          refine (I.hok b u e).stay (fun d v hd q => k d v ?_ q) (fun d q => by rw [plain d _ q (fun q z => by cases z)]; exact q) fun d xs q => by rw [plain d _ q (fun q z => by cases z)]; exact q
          rcases hd with z | z
          · rw [z]
            exact h3
          · exact notP d _ z (fun q z => by cases z)
end
end GzN
/-! ### generators made: with known code; within another one -/
namespace GzN
def TabbedD (P : Addr) (H H' : Hp) : Prop := «GxR».TabG H' P ∧ (TabG H P → TabG H' P) ∧ ∀ b o, b ≠ P → H b = some o → H' b = some o
section
variable {X : Cx} {pins : List (Addr × Obj)} {σ : L2.St} {H : Hp} {s : Shared}
theorem gx_makeN {c P : Addr} {elt tg iter : Expr} {ifs : List Expr} {gpos : Pos} {scope : Scope} {own : List (Str × Nat)} {wi : TI} {g : TG} {tt : Addr → Addr → TT} {te : Addr → Addr → TE} {k : Nat} {Q' : Value → Shared → Prop} {R : It → Hp → Prop} {A : Around}
    (hr : Room (k + 1) X.A) (near : Near X.A A) (hc : X.calm = true) (hN : X.N.Nodup) (TB : GxR.TabB X.base X.mg c P) (hcode : X.env.code = .ref c) (hco : scope.isCoroutine = false) (hdot : scope.names.lookup (".0" : Str) = some NameKind.local)
    (ok : BlkOk X.N X.env.scope scope own) (hi : PI X tg iter wi)
    (hg : ∀ (A' : Around) (s : Shared) (H : Hp) (C : Addr) (cl : List (Str × Addr)) (c' P' : Addr) (fp : List Addr), Room k A' → A'.guards = X.A.guards → PG (gblk X A' s H (envN scope cl C (.ref c') builtinsNs X.env) fp) tg g)
    (ht : ∀ (A' : Around) (s : Shared) (H : Hp) (C : Addr) (cl : List (Str × Addr)) (c' P' : Addr) (fp : List Addr), Room k A' → A'.guards = X.A.guards → PTs (gblk X A' s H (envN scope cl C (.ref c') builtinsNs X.env) fp) ifs (tt c' P'))
    (he : ∀ (A' : Around) (s : Shared) (H : Hp) (C : Addr) (cl : List (Str × Addr)) (c' P' : Addr) (fp : List Addr), Room k A' → A'.guards = X.A.guards → PE (gblk X A' s H (envN scope cl C (.ref c') builtinsNs X.env) fp) elt (te c' P'))
    (hs : ∀ v, genFold iter X.env v = pure v) (I : Inv X pins σ H s) (h : wi σ H fun J H1 => TabG H1 P ∧ R J H1)
    (hQ : ∀ J H1 H2 u s5 c' P', R J H1 → Tabbed P H1 H2 → H2 c' = some (CodeK c' P') → «GxR».TabG H2 P' → Gx X pins σ A J g (tt c' P') (te c' P') (own.map (·.2)) H2 u s5 → Q' u s5) :
    wpAny (model X.prog X.w) X.A (eval (.GeneratorExp elt [⟨tg, iter, ifs, 0⟩] scope gpos) X.env) Q' X.xe s := by
  have hfree : ∀ y ∈ scope.names, y.2 = .free → ∃ c, X.env.cells.lookup y.1 = some c := fun y hy e => by
    rcases ok.free y hy e with k | k
    · exact I.ok.has _ (.inl k)
    · exact I.ok.has _ (.inr k)
  refine gen_make hco (closure_ok hfree) hdot ok.kind (by have := hr.dp; omega) ?_ hs
  refine thn (hi.run pins s σ H _ I h) fun xv s1 hx => thn hx fun itv s2 h2 => ?_
  obtain ⟨it, fp, tn, J, H2, rfl, I2, T, st2, f2, ⟨ps, hP, ht3, nest⟩, q⟩ := h2
  refine ⟨I2.nolimit, ?_⟩
  have hPs : s2.heap.get? P = some { cls := .none, data := .fields ps } := I2.hok P _ hP
  have cd : PySem.W.CodeHd s2.heap c P := TB.code.keeps fun b u e => I2.bk b u e
  have nP : ∀ b, H2 b = none → b ≠ P := fun b e z => by
    rw [z, hP] at e
    cases e
  have cont : ∀ (c' P' : Addr) (h3 : Heap) (tk : Nat) (H3 : Hp), Heap.ExtBut P s2.heap h3 → s2.heap.objs.size ≤ h3.objs.size → Inv X pins σ H3 { s2 with heap := h3, toks := tk } → Tabbed P H2 H3 → H3 c' = some (CodeK c' P') → «GxR».TabG H3 P' → (∀ b, H2 b = none → b < s2.heap.objs.size → H3 b = none) →
      wpAny (model X.prog X.w) X.A (builtinsFor X.env.globals X.env.builtins) (fun bi s₄ =>
        ∀ h', h'.Ns s₄.heap.objs.size (fun y => if y = ".0" then some (Value.ref it) else none) → Heap.SameBut s₄.heap.objs.size (pushCells (s₄.heap.push frameO) scope.names) h' →
          Q' (.ref h'.objs.size) { s₄ with
            gens := s₄.gens.push (.fresh (.compStart (.GeneratorExp elt [⟨tg, iter, ifs, 0⟩] scope gpos) 0 (.ref it) .none (envN scope (cloFrom X.env.cells scope.names []) s₄.heap.objs.size (.ref c') bi X.env))),
            toks := s₄.toks + 1 + 1 + 1,
            heap := h'.push { cls := .type "generator", data := .fields #[.int s₄.gens.size 0, .str "<genexpr>" (s₄.toks + 1), .str (X.env.qual ++ "<genexpr>") (s₄.toks + 1 + 1)] } }) X.xe { s2 with heap := h3, toks := tk } := by
    intro c' P' h3 tk H3 hx hsz I3 tb kc kP free3
    obtain ⟨bm, ob, e1, e2, e3, e4, e5, e6, e7, e8⟩ := TB.bm
    refine wpAny_builtinsFor (m := X.mg) (by rw [I2.ok.glob]; exact (I2.mod.glob.keeps I2.bk).extBut hx TB.gP) e1 e2 (hx _ _ e4 (I2.bk _ _ e5)) e6 e7 e8 ?_
    intro h' hns hsb
    have lt2 : ∀ b ∈ fp, b < s2.heap.objs.size := fun b hb => by
      obtain ⟨o, e, _⟩ := T.obj _ _ st2 b hb
      exact Heap.lt_size e
    have f3 : ∀ b ∈ fp, FpOk X pins H3 b ∧ b < ({ s2 with heap := h3, toks := tk } : Shared).heap.objs.size := fun b hb =>
      ⟨⟨free3 b (f2 b hb).1 (lt2 b hb), (f2 b hb).2⟩, Nat.lt_of_lt_of_le (lt2 b hb) hsz⟩
    have st3 : tn 0 h3 := T.keep _ _ _ st2 fun b hb o e => hx b o (nP b (f2 b hb).1) e
    generalize hs4 : ({ s2 with heap := h3, toks := tk } : Shared) = s4 at I3 f3 hns hsb ⊢
    have h4 : s4.heap = h3 := by rw [← hs4]
    have hsz4 : s4.heap.objs.size + 1 ≤ h'.objs.size := by
      have := pushCells_size scope.names (s4.heap.push frameO)
      rw [Heap.size_push] at this
      rw [hsb.1]
      exact this
    have keep' : ∀ b o, s4.heap.get? b = some o → h'.get? b = some o := fun b o e => hsb.extBut b o (Nat.ne_of_lt (Heap.lt_size e)) (pushCells_keeps _ _ _ _ (Heap.get?_push_of_some _ e))
    generalize hgo : ({ cls := .type "generator", data := .fields #[.int s4.gens.size 0, .str "<genexpr>" (s4.toks + 1), .str (X.env.qual ++ "<genexpr>") (s4.toks + 1 + 1)] } : Obj) = go
    have hGO : GenObj go s4.gens.size := by rw [← hgo]; exact ⟨_, _, rfl, rfl, rfl⟩
    have k5 : ∀ b o, s4.heap.get? b = some o → (h'.push go).get? b = some o := fun b o e => Heap.get?_push_of_some _ (keep' b o e)
    have pg := fun A' => hg A' s4 (H3) s4.heap.objs.size (cloFrom X.env.cells scope.names []) c' P' fp
    have pt := fun A' => ht A' s4 (H3) s4.heap.objs.size (cloFrom X.env.cells scope.names []) c' P' fp
    have pe := fun A' => he A' s4 (H3) s4.heap.objs.size (cloFrom X.env.cells scope.names []) c' P' fp
    generalize hce : envN scope (cloFrom X.env.cells scope.names []) s4.heap.objs.size (.ref c') builtinsNs X.env = cenv at pg pt pe ⊢
    have hscn : cenv.scope = scope := by rw [← hce]; rfl
    generalize hA' : A.over (.compLoop (.GeneratorExp elt [⟨tg, iter, ifs, 0⟩] scope gpos) 0 (.ref it) .none cenv) [] = A'
    have hfrA : A'.frames = some (cenv :: X.stack) := by
      rw [← hA']
      show pushEnvs [cenv] A.frames = _
      rw [near.fr, I2.ok.frames]
      rfl
    have hhd : A'.handled = none := by
      rw [← hA']
      show A.handled = none
      rw [near.hd]
      exact hr.hd
    have rm : Room k A' := by
      refine ⟨hhd, ?_, ?_⟩
      · have := hr.dp
        have := near.dp
        rw [← hA']
        show A.depth + 0 + 1 + 3 * k + 5 < _
        omega
      · have := hr.un
        have := near.un
        rw [← hA']
        show A.units + 0 + 3 + 16 * k + 200 < _
        omega
    have gdA : A'.guards = X.A.guards := by
      rw [← hA']
      show pushGuards [] A.guards = _
      rw [near.gd]
      rfl
    have I5 : Inv (gblk X A' s4 (H3) cenv fp) [(h'.objs.size, go)] (wipe σ (own.map (·.2))) (H3)
        { s4 with gens := s4.gens.push (.fresh (.compStart (.GeneratorExp elt [⟨tg, iter, ifs, 0⟩] scope gpos) 0 (.ref it) .none cenv)), toks := s4.toks + 1 + 1 + 1, heap := h'.push go } := by
      subst hce
      refine startC (it := .ref it) I3 ok hN f3 hhd hfrA rfl (I3.bare.push rfl) k5 (fun b o nb e => Heap.get?_push_of_some _ (hsb.extBut b o nb e)) (hns.push _) fun p hp => ?_
      have e : p = (h'.objs.size, go) := by simpa using hp
      subst e
      refine ⟨by show s4.heap.objs.size < h'.objs.size; omega, Heap.get?_push_size _ (by rw [← hgo]; rfl), fun v z => ?_⟩
      rw [← hgo] at z
      cases z
    refine hQ J H2 _ _ _ c' P' q tb kc kP ⟨A', s4, _, cenv, fp, h'.objs.size, s4.gens.size, go, tn, _, rfl, hGO, Array.getElem?_push_size .., rfl, I5, ?_, fun b hb => (f3 b hb).1.1, fun b hb => ?_, T.keep, fun cp σ' H' s' I' => ?_, ?_⟩
    · exact T.keep _ _ _ st3 fun b _ o e => k5 b o (by rw [h4]; exact e)
    · have := (f3 b hb).2
      exact Nat.lt_of_lt_of_le (Nat.lt_succ_of_lt this) hsz4
    · exact I3.call' (ch := fp) I'.os I'.base I'.hok I'.bare fun b hb => ⟨(f3 b hb).1.2.2.2.1, (f3 b hb).1.2.1, (f3 b hb).1.2.2.2.2.1, (f3 b hb).1.2.2.2.2.2⟩
    · intro α AC End Yd W m n a cp s' turn w hmn hAC hac I' st'
      refine ⟨rfl, ?_⟩
      have loop := seg_gx (A := A) (pos := gpos) (iter := iter) (scope := scope) hA' hc (by rw [hscn]; exact hco) T (pg A' rm gdA) (pt A' rm gdA) (pe A' rm gdA) hAC turn m n 0 a _ s' s' cp hmn w hac (fun p hp => (I'.pin p (List.mem_append_right _ hp)).1) I' st' fun b hb => (f3 b hb).1.1
      show Seg _ A _ _ _ s' _ ((compStart (.GeneratorExp elt [⟨tg, iter, ifs, 0⟩] scope gpos) 0 (.ref it) .none cenv).onRaise (leaving cenv)) [] s'
      unfold compStart
      rw [Sem.onRaise_eq_wrap]
      show Seg _ A _ _ _ s' _ ((ask >>= _).wrap _ _ _ _) [] s'
      refine seg_bind_wrap (wpAny_askSetting ?_)
      split
      · exact seg_again rfl loop
      · first
          | exact seg_bind_wrap (wpAny_rule (seg_bind_wrap (wpAny_standAt (seg_bind_wrap (T.self _ 0 s' _ _ st' (seg_again rfl loop))))))
          | (refine seg_bind_wrap (wpAny_rule ?_); show Seg _ A _ _ _ s' _ ((standAt iter.pos >>= _).wrap _ _ _ _) [] s'; exact seg_bind_wrap (wpAny_standAt (seg_bind_wrap (T.self _ 0 s' _ _ st' (seg_again rfl loop)))))
  cases hf : codeAmong gpos ps.toList with
  | none =>
    refine wpAny_genexprCodeX hcode (cd.code hPs ht3) (cd.tab hPs) hf fun c' h' tk hx hge hlt hco' _ htab' hnew => ?_
    obtain ⟨P', hP', icode, itab⟩ := hnew
    have cd' : PySem.W.CodeHd h' c' P' := PySem.W.CodeHd.of icode itab
    obtain ⟨o1, vs, f1, tf, fl, tg', inF, tx, tt', op, _, _, _, _, _, _, _, _, _, htr, _⟩ := hco'
    have I3 := inv_code (t' := tk) I2 hP (fun b o hb e => hx b o hb e) htab'.2 hge hP' cd' itab.2
    have fc := I2.hok.fresh hge
    have fQ := I2.hok.fresh hP'
    have ncQ : c' ≠ P' := by
      obtain ⟨_, _, _, _, _, _, _, _, _, _, _, _, _, _, _, _, _, _, z⟩ := cd'
      exact z
    have Pc : P ≠ c' := ne_of_none hP fc
    have PQ : P ≠ P' := ne_of_none hP fQ
    have atP : upd (upd (upd H2 P (.tbl (ps ++ #[rawInt gpos.line, rawInt gpos.col, .ref c']))) c' (CodeK c' P')) P' (.tbl #[]) P = some (.tbl (ps ++ #[rawInt gpos.line, rawInt gpos.col, .ref c'])) := by rw [upd_ne PQ, upd_ne Pc, upd_same]
    have atc : upd (upd (upd H2 P (.tbl (ps ++ #[rawInt gpos.line, rawInt gpos.col, .ref c']))) c' (CodeK c' P')) P' (.tbl #[]) c' = some (CodeK c' P') := by rw [upd_ne ncQ, upd_same]
    have old : ∀ b o, b ≠ P → H2 b = some o → upd (upd (upd H2 P (.tbl (ps ++ #[rawInt gpos.line, rawInt gpos.col, .ref c']))) c' (CodeK c' P')) P' (.tbl #[]) b = some o := fun b o nb e => by
      rw [upd_ne (ne_of_none e fQ), upd_ne (ne_of_none e fc), upd_ne nb]
      exact e
    have tQ : «GxR».TabG (upd (upd (upd H2 P (.tbl (ps ++ #[rawInt gpos.line, rawInt gpos.col, .ref c']))) c' (CodeK c' P')) P' (.tbl #[])) P' := ⟨#[], upd_same, trivial⟩
    have kT : ∀ Z, «GxR».TabG H2 Z → «GxR».TabG (upd (upd (upd H2 P (.tbl (ps ++ #[rawInt gpos.line, rawInt gpos.col, .ref c']))) c' (CodeK c' P')) P' (.tbl #[])) Z := fun Z hZ => by
      obtain ⟨qs, e, t⟩ := hZ
      by_cases z : Z = P
      · rw [z]
        exact ⟨_, atP, htr⟩
      · exact ⟨qs, old Z _ z e, t⟩
    have nest' : NestOk (upd (upd (upd H2 P (.tbl (ps ++ #[rawInt gpos.line, rawInt gpos.col, .ref c']))) c' (CodeK c' P')) P' (.tbl #[])) (ps ++ #[rawInt gpos.line, rawInt gpos.col, .ref c']).toList := by
      have e : (ps ++ #[rawInt gpos.line, rawInt gpos.col, Value.ref c']).toList = ps.toList ++ [rawInt gpos.line, rawInt gpos.col, .ref c'] := by simp
      rw [e]
      exact NestOk.snoc atc tQ (nest.mono (fun d Q z => old d _ (fun w => by rw [w, hP] at z; cases z) z) kT)
    exact cont c' P' h' tk _ hx (Nat.le_trans hge (Nat.le_of_lt hlt)) I3 ⟨⟨_, atP, htr, nest'⟩, old⟩ atc tQ fun b e lt => by
      rw [upd_ne (fun z => absurd (Nat.lt_of_lt_of_le lt hP') (by rw [z]; exact Nat.lt_irrefl _)), upd_ne (fun z => absurd (Nat.lt_of_lt_of_le lt hge) (by rw [z]; exact Nat.lt_irrefl _)), upd_ne (nP b e)]
      exact e
  | some cv =>
    obtain ⟨c', P', rfl, kc, kP⟩ := nest.found hf
    refine wpAny_genexprCode_hit hcode (cd.code hPs ht3) hf ?_
    exact cont c' P' s2.heap s2.toks H2 (Heap.ExtBut.refl _ _) (Nat.le_refl _) I2 ⟨⟨ps, hP, ht3, nest⟩, fun b o _ e => e⟩ kc kP fun b e _ => e
end
section
variable {X : Cx} {pins : List (Addr × Obj)} {σ : L2.St} {H : Hp} {s : Shared}
theorem gx_makeD {c P c0 P0 : Addr} {elt tg iter : Expr} {ifs : List Expr} {gpos : Pos} {scope : Scope} {own : List (Str × Nat)} {wi : TI} {g : TG} {tt : TT} {te : TE} {k : Nat} {Q' : Value → Shared → Prop} {R : It → Hp → Prop} {A : Around}
    (hr : Room (k + 1) X.A) (near : Near X.A A) (hc : X.calm = true) (hN : X.N.Nodup) (TB : GxR.TabB X.base X.mg c0 P0) (hcode : X.env.code = .ref c) (hco : scope.isCoroutine = false) (hdot : scope.names.lookup (".0" : Str) = some NameKind.local)
    (ok : BlkOk X.N X.env.scope scope own) (hi : PI X tg iter wi)
    (hg : ∀ (A' : Around) (s : Shared) (H : Hp) (C : Addr) (cl : List (Str × Addr)) (code : Value) (fp : List Addr), Room k A' → A'.guards = X.A.guards → PG (gblk X A' s H (envN scope cl C code builtinsNs X.env) fp) tg g)
    (ht : ∀ (A' : Around) (s : Shared) (H : Hp) (C : Addr) (cl : List (Str × Addr)) (code : Value) (fp : List Addr), Room k A' → A'.guards = X.A.guards → PTs (gblk X A' s H (envN scope cl C code builtinsNs X.env) fp) ifs tt)
    (he : ∀ (A' : Around) (s : Shared) (H : Hp) (C : Addr) (cl : List (Str × Addr)) (code : Value) (fp : List Addr), Room k A' → A'.guards = X.A.guards → PE (gblk X A' s H (envN scope cl C code builtinsNs X.env) fp) elt te)
    (hs : ∀ v, genFold iter X.env v = pure v) (I : Inv X pins σ H s) (h : wi σ H fun J H1 => (H1 c = some (CodeK c P) ∧ «GxR».TabG H1 P) ∧ R J H1)
    (hQ : ∀ J H1 H2 u s5, R J H1 → TabbedD P H1 H2 → Gx X pins σ A J g tt te (own.map (·.2)) H2 u s5 → Q' u s5) :
    wpAny (model X.prog X.w) X.A (eval (.GeneratorExp elt [⟨tg, iter, ifs, 0⟩] scope gpos) X.env) Q' X.xe s := by
  have hfree : ∀ y ∈ scope.names, y.2 = .free → ∃ c, X.env.cells.lookup y.1 = some c := fun y hy e => by
    rcases ok.free y hy e with k | k
    · exact I.ok.has _ (.inl k)
    · exact I.ok.has _ (.inr k)
  refine gen_make hco (closure_ok hfree) hdot ok.kind (by have := hr.dp; omega) ?_ hs
  refine thn (hi.run pins s σ H _ I h) fun xv s1 hx => thn hx fun itv s2 h2 => ?_
  obtain ⟨it, fp, tn, J, H2, rfl, I2, T, st2, f2, ⟨hcK, ps, hP, ht3⟩, q⟩ := h2
  refine ⟨I2.nolimit, ?_⟩
  have hPs : s2.heap.get? P = some { cls := .none, data := .fields ps } := I2.hok P _ hP
  have cd : PySem.W.CodeHd s2.heap c P := (I2.hok c _ hcK).1
  have gP : mainGlobals ≠ P := fun z => by
    obtain ⟨ob, es, ep, ho, r⟩ := I2.mod.glob.keeps I2.bk
    rw [z, hPs] at ho
    cases ho
    simp at r
  have nP : ∀ b, H2 b = none → b ≠ P := fun b e z => by
    rw [z, hP] at e
    cases e
  have cont : ∀ (code : Value) (h3 : Heap) (tk : Nat) (H3 : Hp), Heap.ExtBut P s2.heap h3 → s2.heap.objs.size ≤ h3.objs.size → Inv X pins σ H3 { s2 with heap := h3, toks := tk } → TabbedD P H2 H3 → (∀ b, H2 b = none → b < s2.heap.objs.size → H3 b = none) →
      wpAny (model X.prog X.w) X.A (builtinsFor X.env.globals X.env.builtins) (fun bi s₄ =>
        ∀ h', h'.Ns s₄.heap.objs.size (fun y => if y = ".0" then some (Value.ref it) else none) → Heap.SameBut s₄.heap.objs.size (pushCells (s₄.heap.push frameO) scope.names) h' →
          Q' (.ref h'.objs.size) { s₄ with
            gens := s₄.gens.push (.fresh (.compStart (.GeneratorExp elt [⟨tg, iter, ifs, 0⟩] scope gpos) 0 (.ref it) .none (envN scope (cloFrom X.env.cells scope.names []) s₄.heap.objs.size code bi X.env))),
            toks := s₄.toks + 1 + 1 + 1,
            heap := h'.push { cls := .type "generator", data := .fields #[.int s₄.gens.size 0, .str "<genexpr>" (s₄.toks + 1), .str (X.env.qual ++ "<genexpr>") (s₄.toks + 1 + 1)] } }) X.xe { s2 with heap := h3, toks := tk } := by
    intro code h3 tk H3 hx hsz I3 tb free3
    obtain ⟨bm, ob, e1, e2, e3, _, e5, e6, e7, e8⟩ := TB.bm
    have e4 : bm ≠ P := fun z => by
      have h1 := I2.bk _ _ e5
      rw [z, hPs] at h1
      cases h1
      cases e6
    refine wpAny_builtinsFor (m := X.mg) (by rw [I2.ok.glob]; exact (I2.mod.glob.keeps I2.bk).extBut hx gP) e1 e2 (hx _ _ e4 (I2.bk _ _ e5)) e6 e7 e8 ?_
    intro h' hns hsb
    have lt2 : ∀ b ∈ fp, b < s2.heap.objs.size := fun b hb => by
      obtain ⟨o, e, _⟩ := T.obj _ _ st2 b hb
      exact Heap.lt_size e
    have f3 : ∀ b ∈ fp, FpOk X pins H3 b ∧ b < ({ s2 with heap := h3, toks := tk } : Shared).heap.objs.size := fun b hb =>
      ⟨⟨free3 b (f2 b hb).1 (lt2 b hb), (f2 b hb).2⟩, Nat.lt_of_lt_of_le (lt2 b hb) hsz⟩
    have st3 : tn 0 h3 := T.keep _ _ _ st2 fun b hb o e => hx b o (nP b (f2 b hb).1) e
    generalize hs4 : ({ s2 with heap := h3, toks := tk } : Shared) = s4 at I3 f3 hns hsb ⊢
    have h4 : s4.heap = h3 := by rw [← hs4]
    have hsz4 : s4.heap.objs.size + 1 ≤ h'.objs.size := by
      have := pushCells_size scope.names (s4.heap.push frameO)
      rw [Heap.size_push] at this
      rw [hsb.1]
      exact this
    have keep' : ∀ b o, s4.heap.get? b = some o → h'.get? b = some o := fun b o e => hsb.extBut b o (Nat.ne_of_lt (Heap.lt_size e)) (pushCells_keeps _ _ _ _ (Heap.get?_push_of_some _ e))
    generalize hgo : ({ cls := .type "generator", data := .fields #[.int s4.gens.size 0, .str "<genexpr>" (s4.toks + 1), .str (X.env.qual ++ "<genexpr>") (s4.toks + 1 + 1)] } : Obj) = go
    have hGO : GenObj go s4.gens.size := by rw [← hgo]; exact ⟨_, _, rfl, rfl, rfl⟩
    have k5 : ∀ b o, s4.heap.get? b = some o → (h'.push go).get? b = some o := fun b o e => Heap.get?_push_of_some _ (keep' b o e)
    have pg := fun A' => hg A' s4 (H3) s4.heap.objs.size (cloFrom X.env.cells scope.names []) code fp
    have pt := fun A' => ht A' s4 (H3) s4.heap.objs.size (cloFrom X.env.cells scope.names []) code fp
    have pe := fun A' => he A' s4 (H3) s4.heap.objs.size (cloFrom X.env.cells scope.names []) code fp
    generalize hce : envN scope (cloFrom X.env.cells scope.names []) s4.heap.objs.size code builtinsNs X.env = cenv at pg pt pe ⊢
    have hscn : cenv.scope = scope := by rw [← hce]; rfl
    generalize hA' : A.over (.compLoop (.GeneratorExp elt [⟨tg, iter, ifs, 0⟩] scope gpos) 0 (.ref it) .none cenv) [] = A'
    have hfrA : A'.frames = some (cenv :: X.stack) := by
      rw [← hA']
      show pushEnvs [cenv] A.frames = _
      rw [near.fr, I2.ok.frames]
      rfl
    have hhd : A'.handled = none := by
      rw [← hA']
      show A.handled = none
      rw [near.hd]
      exact hr.hd
    have rm : Room k A' := by
      refine ⟨hhd, ?_, ?_⟩
      · have := hr.dp
        have := near.dp
        rw [← hA']
        show A.depth + 0 + 1 + 3 * k + 5 < _
        omega
      · have := hr.un
        have := near.un
        rw [← hA']
        show A.units + 0 + 3 + 16 * k + 200 < _
        omega
    have gdA : A'.guards = X.A.guards := by
      rw [← hA']
      show pushGuards [] A.guards = _
      rw [near.gd]
      rfl
    have I5 : Inv (gblk X A' s4 (H3) cenv fp) [(h'.objs.size, go)] (wipe σ (own.map (·.2))) (H3)
        { s4 with gens := s4.gens.push (.fresh (.compStart (.GeneratorExp elt [⟨tg, iter, ifs, 0⟩] scope gpos) 0 (.ref it) .none cenv)), toks := s4.toks + 1 + 1 + 1, heap := h'.push go } := by
      subst hce
      refine startC (it := .ref it) I3 ok hN f3 hhd hfrA rfl (I3.bare.push rfl) k5 (fun b o nb e => Heap.get?_push_of_some _ (hsb.extBut b o nb e)) (hns.push _) fun p hp => ?_
      have e : p = (h'.objs.size, go) := by simpa using hp
      subst e
      refine ⟨by show s4.heap.objs.size < h'.objs.size; omega, Heap.get?_push_size _ (by rw [← hgo]; rfl), fun v z => ?_⟩
      rw [← hgo] at z
      cases z
    refine hQ J H2 _ _ _ q tb ⟨A', s4, _, cenv, fp, h'.objs.size, s4.gens.size, go, tn, _, rfl, hGO, Array.getElem?_push_size .., rfl, I5, ?_, fun b hb => (f3 b hb).1.1, fun b hb => ?_, T.keep, fun cp σ' H' s' I' => ?_, ?_⟩
    · exact T.keep _ _ _ st3 fun b _ o e => k5 b o (by rw [h4]; exact e)
    · have := (f3 b hb).2
      exact Nat.lt_of_lt_of_le (Nat.lt_succ_of_lt this) hsz4
    · exact I3.call' (ch := fp) I'.os I'.base I'.hok I'.bare fun b hb => ⟨(f3 b hb).1.2.2.2.1, (f3 b hb).1.2.1, (f3 b hb).1.2.2.2.2.1, (f3 b hb).1.2.2.2.2.2⟩
    · intro α AC End Yd W m n a cp s' turn w hmn hAC hac I' st'
      refine ⟨rfl, ?_⟩
      have loop := seg_gx (A := A) (pos := gpos) (iter := iter) (scope := scope) hA' hc (by rw [hscn]; exact hco) T (pg A' rm gdA) (pt A' rm gdA) (pe A' rm gdA) hAC turn m n 0 a _ s' s' cp hmn w hac (fun p hp => (I'.pin p (List.mem_append_right _ hp)).1) I' st' fun b hb => (f3 b hb).1.1
      show Seg _ A _ _ _ s' _ ((compStart (.GeneratorExp elt [⟨tg, iter, ifs, 0⟩] scope gpos) 0 (.ref it) .none cenv).onRaise (leaving cenv)) [] s'
      unfold compStart
      rw [Sem.onRaise_eq_wrap]
      show Seg _ A _ _ _ s' _ ((ask >>= _).wrap _ _ _ _) [] s'
      refine seg_bind_wrap (wpAny_askSetting ?_)
      split
      · exact seg_again rfl loop
      · first
          | exact seg_bind_wrap (wpAny_rule (seg_bind_wrap (wpAny_standAt (seg_bind_wrap (T.self _ 0 s' _ _ st' (seg_again rfl loop))))))
          | (refine seg_bind_wrap (wpAny_rule ?_); show Seg _ A _ _ _ s' _ ((standAt iter.pos >>= _).wrap _ _ _ _) [] s'; exact seg_bind_wrap (wpAny_standAt (seg_bind_wrap (T.self _ 0 s' _ _ st' (seg_again rfl loop)))))
  cases hf : codeAmong gpos ps.toList with
  | none =>
    refine wpAny_genexprCodeX hcode (cd.code hPs ht3) (cd.tab hPs) hf fun c' h' tk hx hge hlt hco' _ htab' hnew => ?_
    obtain ⟨P', hP', icode, itab⟩ := hnew
    have cd' : PySem.W.CodeHd h' c' P' := PySem.W.CodeHd.of icode itab
    obtain ⟨o1, vs, f1, tf, fl, tg', inF, tx, tt', op, _, _, _, _, _, _, _, _, _, htr, _⟩ := hco'
    have I3 := inv_code (t' := tk) I2 hP (fun b o hb e => hx b o hb e) htab'.2 hge hP' cd' itab.2
    have fc := I2.hok.fresh hge
    have fQ := I2.hok.fresh hP'
    have ncQ : c' ≠ P' := by
      obtain ⟨_, _, _, _, _, _, _, _, _, _, _, _, _, _, _, _, _, _, z⟩ := cd'
      exact z
    have Pc : P ≠ c' := ne_of_none hP fc
    have PQ : P ≠ P' := ne_of_none hP fQ
    have atP : upd (upd (upd H2 P (.tbl (ps ++ #[rawInt gpos.line, rawInt gpos.col, .ref c']))) c' (CodeK c' P')) P' (.tbl #[]) P = some (.tbl (ps ++ #[rawInt gpos.line, rawInt gpos.col, .ref c'])) := by rw [upd_ne PQ, upd_ne Pc, upd_same]
    have atc : upd (upd (upd H2 P (.tbl (ps ++ #[rawInt gpos.line, rawInt gpos.col, .ref c']))) c' (CodeK c' P')) P' (.tbl #[]) c' = some (CodeK c' P') := by rw [upd_ne ncQ, upd_same]
    have old : ∀ b o, b ≠ P → H2 b = some o → upd (upd (upd H2 P (.tbl (ps ++ #[rawInt gpos.line, rawInt gpos.col, .ref c']))) c' (CodeK c' P')) P' (.tbl #[]) b = some o := fun b o nb e => by
      rw [upd_ne (ne_of_none e fQ), upd_ne (ne_of_none e fc), upd_ne nb]
      exact e
    have tQ : «GxR».TabG (upd (upd (upd H2 P (.tbl (ps ++ #[rawInt gpos.line, rawInt gpos.col, .ref c']))) c' (CodeK c' P')) P' (.tbl #[])) P' := ⟨#[], upd_same, trivial⟩
    have kT : ∀ Z, «GxR».TabG H2 Z → «GxR».TabG (upd (upd (upd H2 P (.tbl (ps ++ #[rawInt gpos.line, rawInt gpos.col, .ref c']))) c' (CodeK c' P')) P' (.tbl #[])) Z := fun Z hZ => by
      obtain ⟨qs, e, t⟩ := hZ
      by_cases z : Z = P
      · rw [z]
        exact ⟨_, atP, htr⟩
      · exact ⟨qs, old Z _ z e, t⟩
    have nest' : NestOk H2 ps.toList → NestOk (upd (upd (upd H2 P (.tbl (ps ++ #[rawInt gpos.line, rawInt gpos.col, .ref c']))) c' (CodeK c' P')) P' (.tbl #[])) (ps ++ #[rawInt gpos.line, rawInt gpos.col, .ref c']).toList := fun nest => by
      have e : (ps ++ #[rawInt gpos.line, rawInt gpos.col, Value.ref c']).toList = ps.toList ++ [rawInt gpos.line, rawInt gpos.col, .ref c'] := by simp
      rw [e]
      exact NestOk.snoc atc tQ (nest.mono (fun d Q z => old d _ (fun w => by rw [w, hP] at z; cases z) z) kT)
    exact cont (.ref c') h' tk _ hx (Nat.le_trans hge (Nat.le_of_lt hlt)) I3 ⟨⟨_, atP, htr⟩, fun ⟨qs, e1, e2, e3⟩ => ⟨_, atP, htr, by rw [hP] at e1; cases e1; exact nest' e3⟩, old⟩ fun b e lt => by
      rw [upd_ne (fun z => absurd (Nat.lt_of_lt_of_le lt hP') (by rw [z]; exact Nat.lt_irrefl _)), upd_ne (fun z => absurd (Nat.lt_of_lt_of_le lt hge) (by rw [z]; exact Nat.lt_irrefl _)), upd_ne (nP b e)]
      exact e
  | some cv =>
    refine wpAny_genexprCode_hit hcode (cd.code hPs ht3) hf ?_
    exact cont cv s2.heap s2.toks H2 (Heap.ExtBut.refl _ _) (Nat.le_refl _) I2 ⟨⟨ps, hP, ht3⟩, fun z => z, fun b o _ e => e⟩ fun b e _ => e
end
end GzN
/-! ### asking -/
section
variable {α : Type} {X : Cx} {A A' : Around} {s_0 : Shared} {H_0 : Hp} {cenv : Env} {fp : List Addr} {tn : Nat → Heap → Prop} {AC : α → List (Addr × Obj) → Prop} {End : α → Hp → Prop} {Yd : α → V → Hp → (α → Hp → Prop) → Prop} {ga : Addr} {gn n : Nat} {go : Obj}
theorem next_gx2 {gs : GenState} {s : Shared} {Q : Option Value → Shared → Prop} {E : Value → Shared → Prop} (hh : A.handled = none) (hroom : A.depth < recursionLimit) (hl : s.heap.NoLimit) (hG : GenObj go gn) (e : s.heap.get? ga = some go) (hgs : s.gens[gn]? = some gs)
    (hgo : gs.Goes (model X.prog X.w) A.in1 (RG (gblk X A' s_0 H_0 cenv fp) AC End) (YG (gblk X A' s_0 H_0 cenv fp) fp tn AC Yd) n (.send .none) (s.setGen gn .running))
    (item : ∀ (a : α) (x : V) (σ : L2.St) (H : Hp) (i : Nat) (cp : List (Addr × Obj)) (Nx : α → Hp → Prop) (v : Value) (s1 : Shared) (gs' : GenState), RelV x v → AC a cp → (∀ p ∈ cp, s.heap.get? p.1 = some p.2) → Inv (gblk X A' s_0 H_0 cenv fp) cp σ H s1 → tn i s1.heap → Yd a x H Nx → s1.gens[gn]? = some gs' →
      (∀ a' cp' s', Nx a' H → AC a' cp' → Inv (gblk X A' s_0 H_0 cenv fp) cp' σ H s' → tn i s'.heap → ∃ m, n = m + 1 ∧ gs'.Goes (model X.prog X.w) A.in1 (RG (gblk X A' s_0 H_0 cenv fp) AC End) (YG (gblk X A' s_0 H_0 cenv fp) fp tn AC Yd) m (.send .none) s') → Q (some v) s1)
    (done : ∀ (a : α) (σ : L2.St) (H : Hp) (cp : List (Addr × Obj)) (s1 : Shared), AC a cp → (∀ p ∈ cp, s.heap.get? p.1 = some p.2) → Inv (gblk X A' s_0 H_0 cenv fp) cp σ H s1 → End a H → Q none s1) :
    wpAny (model X.prog X.w) A (pyNext (.ref ga)) Q E s := by
  have hgl : gn < s.gens.size := (Array.getElem?_eq_some_iff.mp hgs).1
  refine GenW.wpAny_gsz (n := gn + 1) hgl (next_genG (Er := fun _ _ => False) hh hl hroom (hG.isGen e) hgs hgo (fun v s₁ gs' hbare hv => ?_) (fun s₁ hp h' hk => ?_) fun e s₁ he => he.elim)
  · intro hsz
    obtain ⟨a, x, σ, H, i, cp, Nx, r, hac, tie, I, st, nf, hy, kap⟩ := hv
    have hsz1 : gn < s₁.gens.size := by
      have q : (s₁.setGen gn gs').gens.size = s₁.gens.size := GenW.setGen_size _ _ _
      have hsz' : gn + 1 ≤ (s₁.setGen gn gs').gens.size := hsz
      omega
    refine item a x σ H i cp Nx v (s₁.setGen gn gs') gs' r hac tie (inv_moved I rfl (allBare_setGen I.bare hbare) fun _ _ q => q) st hy (setGen_at hsz1) fun a' cp' s' nx hac' I' st' => ?_
    have z := kap a' cp' s' nx hac' I' st'
    cases n with
    | zero => exact z.elim
    | succ m => exact ⟨m, rfl, z⟩
  · intro _
    obtain ⟨a, σ, H, cp, hac, tie, I, q⟩ := hp
    exact done a σ H cp _ hac tie (inv_moved I rfl (allBare_setGen I.bare rfl) hk) q
theorem next_gx {gs : GenState} {s : Shared} {Q : Option Value → Shared → Prop} {E : Value → Shared → Prop} (hh : A.handled = none) (hroom : A.depth < recursionLimit) (hl : s.heap.NoLimit) (hG : GenObj go gn) (e : s.heap.get? ga = some go) (hgs : s.gens[gn]? = some gs)
    (hgo : gs.Goes (model X.prog X.w) A.in1 (RG (gblk X A' s_0 H_0 cenv fp) AC End) (YG (gblk X A' s_0 H_0 cenv fp) fp tn AC Yd) n (.send .none) (s.setGen gn .running))
    (item : ∀ (a : α) (x : V) (σ : L2.St) (H : Hp) (i : Nat) (cp : List (Addr × Obj)) (Nx : α → Hp → Prop) (v : Value) (s1 : Shared) (gs' : GenState), RelV x v → AC a cp → Inv (gblk X A' s_0 H_0 cenv fp) cp σ H s1 → tn i s1.heap → Yd a x H Nx → s1.gens[gn]? = some gs' →
      (∀ a' cp' s', Nx a' H → AC a' cp' → Inv (gblk X A' s_0 H_0 cenv fp) cp' σ H s' → tn i s'.heap → ∃ m, n = m + 1 ∧ gs'.Goes (model X.prog X.w) A.in1 (RG (gblk X A' s_0 H_0 cenv fp) AC End) (YG (gblk X A' s_0 H_0 cenv fp) fp tn AC Yd) m (.send .none) s') → Q (some v) s1)
    (done : ∀ (a : α) (σ : L2.St) (H : Hp) (cp : List (Addr × Obj)) (s1 : Shared), AC a cp → Inv (gblk X A' s_0 H_0 cenv fp) cp σ H s1 → End a H → Q none s1) :
    wpAny (model X.prog X.w) A (pyNext (.ref ga)) Q E s :=
  next_gx2 hh hroom hl hG e hgs hgo (fun a x σ H i cp Nx v s1 gs' r hac _ I st hy at_ kap => item a x σ H i cp Nx v s1 gs' r hac I st hy at_ kap) fun a σ H cp s1 hac _ I q => done a σ H cp s1 hac I q
/-- all(..) asks on -/
theorem all_gx {R : Result → Shared → Prop} {Stop : Hp → Prop} {End : Unit → Hp → Prop} (hh : A.handled = none) (hroom : A.depth < recursionLimit) (hG : GenObj go gn)
    (yes : ∀ (σ : L2.St) (H : Hp) (cp : List (Addr × Obj)) (s1 : Shared), Inv (gblk X A' s_0 H_0 cenv fp) cp σ H s1 → End () H → R (.ok (.ret (.bool true))) s1)
    (no : ∀ (σ : L2.St) (H : Hp) (cp : List (Addr × Obj)) (s1 : Shared), Inv (gblk X A' s_0 H_0 cenv fp) cp σ H s1 → Stop H → R (.ok (.ret (.bool false))) s1) :
    ∀ (n : Nat) (s : Shared), s.heap.NoLimit → s.heap.get? ga = some go → (∃ gs, s.gens[gn]? = some gs ∧ gs.Goes (model X.prog X.w) A.in1.in1 (RG (gblk X A' s_0 H_0 cenv fp) (fun _ cp => cp = [(ga, go)]) End)
      (YG (gblk X A' s_0 H_0 cenv fp) fp tn (fun _ cp => cp = [(ga, go)]) (fun _ y H Nx => ∃ b : Bool, y = .bl b ∧ if b = true then Nx () H else Stop H)) n (.send .none) (s.setGen gn .running)) →
      codeAny (model X.prog X.w) A (.builtin "all.loop" ⟨[.ref ga], []⟩) R s := by
  intro n
  induction n with
  | zero =>
    rintro s hl e ⟨gs, hgs, hgo⟩
    refine codeAny_builtin F.entry_all_loop ?_
    rw [Around.under_plainId F.plain_all_loop _]
    show wpAny _ A.in1 (pyNext (.ref ga) >>= _) _ _ s
    refine wpAny_bind (next_gx (A := A.in1) hh hroom hl hG e hgs hgo (fun a x σ H i cp Nx v s1 gs' r hac I st hy at_ kap => ?_) fun a σ H cp s1 hac I q => ?_)
    · obtain ⟨b, rfl, hb⟩ := hy
      cases (show v = Value.bool b from r)
      refine wpAny_bind (wpAny_holding (wpAny_truthy_bool ?_))
      refine wpAny_bind (wpAny_letGo ?_)
      cases b with
      | true =>
        obtain ⟨m, hm, _⟩ := kap () cp s1 hb hac I st
        cases hm
      | false =>
        simp only [Bool.false_eq_true, if_false] at hb ⊢
        exact wpAny_bind (wpAny_rule (wpAny_pure (no σ H cp s1 I hb)))
    · exact wpAny_bind (wpAny_rule (wpAny_pure (yes σ H cp s1 I q)))
  | succ n ih =>
    rintro s hl e ⟨gs, hgs, hgo⟩
    refine codeAny_builtin F.entry_all_loop ?_
    rw [Around.under_plainId F.plain_all_loop _]
    show wpAny _ A.in1 (pyNext (.ref ga) >>= _) _ _ s
    refine wpAny_bind (next_gx (A := A.in1) hh hroom hl hG e hgs hgo (fun a x σ H i cp Nx v s1 gs' r hac I st hy at_ kap => ?_) fun a σ H cp s1 hac I q => ?_)
    · obtain ⟨b, rfl, hb⟩ := hy
      cases (show v = Value.bool b from r)
      refine wpAny_bind (wpAny_holding (wpAny_truthy_bool ?_))
      refine wpAny_bind (wpAny_letGo ?_)
      cases b with
      | true =>
        simp only [if_true] at hb ⊢
        subst hac
        refine wpAny_pure ⟨plainId_quiet F.plain_all_loop _, ih s1 I.nolimit (I.pin (ga, go) (List.mem_append_right _ List.mem_cons_self)).1 ⟨gs', at_, ?_⟩⟩
        obtain ⟨m, hm, z⟩ := kap () [(ga, go)] (s1.setGen gn .running) hb rfl (inv_moved I rfl (allBare_setGen I.bare rfl) fun _ _ q => q) st
        cases hm
        exact z
      | false =>
        simp only [Bool.false_eq_true, if_false] at hb ⊢
        exact wpAny_bind (wpAny_rule (wpAny_pure (no σ H cp s1 I hb)))
    · exact wpAny_bind (wpAny_rule (wpAny_pure (yes σ H cp s1 I q)))
end
section
variable {X : Cx}
/-- all(elt for tg in iter ..) -/
def tAllX (P : Addr) (wi : TI) (g : TG) (tt : TT) (te : TE) (vs : List Nat) : TE := fun σ H Q => wi σ H fun J H1 => GzN.TabG H1 P ∧ ∀ H2, GzN.Tabbed P H1 H2 → ∃ W : Nat → Nat → Unit → Hp → Prop, (∃ m, W 0 m () H2) ∧
  tGx J g tt te (wipe σ vs) vs (fun _ H => Q (.bl true) H) (fun _ y H Nx => ∃ b : Bool, y = .bl b ∧ if b = true then Nx () H else Q (.bl false) H) W
theorem pe_allX {c P : Addr} {elt tg iter : Expr} {ifs : List Expr} {p pos gpos : Pos} {scope : Scope} {own : List (Str × Nat)} {wi : TI} {g : TG} {tt : TT} {te : TE} {k : Nat}
    (hr : Room (k + 1) X.A) (hc : X.calm = true) (hN : X.N.Nodup) (hgl : Gl X "all") (hm : X.mg "all" = none) (hb : bootBuiltins "all" = some (.builtin "all")) (TB : GxR.TabB X.base X.mg c P) (hcode : X.env.code = .ref c)
    (hco : scope.isCoroutine = false) (hdot : scope.names.lookup (".0" : Str) = some NameKind.local) (ok : BlkOk X.N X.env.scope scope own) (hi : PI X tg iter wi)
    (hg : ∀ (A' : Around) (s : Shared) (H : Hp) (C : Addr) (cl : List (Str × Addr)) (c' P' : Addr) (fp : List Addr), Room k A' → A'.guards = X.A.guards → PG (gblk X A' s H (GzN.envN scope cl C (.ref c') builtinsNs X.env) fp) tg g)
    (ht : ∀ (A' : Around) (s : Shared) (H : Hp) (C : Addr) (cl : List (Str × Addr)) (c' P' : Addr) (fp : List Addr), Room k A' → A'.guards = X.A.guards → PTs (gblk X A' s H (GzN.envN scope cl C (.ref c') builtinsNs X.env) fp) ifs tt)
    (he : ∀ (A' : Around) (s : Shared) (H : Hp) (C : Addr) (cl : List (Str × Addr)) (c' P' : Addr) (fp : List Addr), Room k A' → A'.guards = X.A.guards → PE (gblk X A' s H (GzN.envN scope cl C (.ref c') builtinsNs X.env) fp) elt te)
    (hs : ∀ v, genFold iter X.env v = pure v)
    (hst : starEach [.GeneratorExp elt [⟨tg, iter, ifs, 0⟩] scope gpos] X.env = (false, eval (.GeneratorExp elt [⟨tg, iter, ifs, 0⟩] scope gpos) X.env) :: starEach [] X.env := by rfl) :
    PE X (.Call (.Name "all" p) [.GeneratorExp elt [⟨tg, iter, ifs, 0⟩] scope gpos] [] pos) (tAllX P wi g tt te (own.map (·.2))) := by
  refine ⟨fun pins s σ H Q I h => ?_⟩
  refine wpAny_Call_Name_kw (ld_blt I hgl hm hb ?_)
  refine PyProof.Rows.callWith_builtin1 ?_ hst (by rfl)
  rw [hst]
  show wpAny _ _ (spliced ((false, eval (.GeneratorExp elt [⟨tg, iter, ifs, 0⟩] scope gpos) X.env) :: backTo pos (starEach [] X.env))) _ _ s
  refine Calls.spliced_cons (GzN.gx_makeN (tt := fun _ _ => tt) (te := fun _ _ => te) (A := X.A.in1.in1) hr ⟨rfl, rfl, rfl, rfl, (by show X.A.units + 1 + 1 ≤ _; omega)⟩ hc hN TB hcode hco hdot ok hi hg ht he hs I h fun J H1 H2 u s5 _ _ hR hT _ _ hG => ?_)
  obtain ⟨A', s_0, H_0, cenv, fp, ga, gn, go, tn, gs, rfl, hGO, hgs, hbare, I5, st5, nf, hlt, keep, back, goes⟩ := hG
  obtain ⟨W, ⟨m, w0⟩, turn⟩ := hR H2 hT
  refine Calls.spliced_nil ?_
  have pin5 := (I5.pin (ga, go) (List.mem_append_right _ List.mem_cons_self)).1
  refine call_function_tree F.kind_all F.plain_all F.entry_all (F.args_all1 _) ?_
  unfold Builtin.«all»
  refine wpAny_bind (m := oneArg "all" _) (wpAny_pure ?_)
  refine wpAny_bind (wpAny_pyIter_gen (hGO.isGen pin5) ?_)
  refine wpAny_pure ⟨plainId_quiet F.plain_all_loop _, all_gx (A' := A') (s_0 := s_0) (H_0 := H_0) (cenv := cenv) (fp := fp) (tn := tn) (go := go) (gn := gn) (Stop := fun H => Q (.bl false) H) (End := fun _ H => Q (.bl true) H) hr.hd hr.depth hGO
    (fun σ' H' cp s1 I1 q => ⟨.bl true, H', back _ _ _ _ I1, rfl, q⟩) (fun σ' H' cp s1 I1 q => ⟨.bl false, H', back _ _ _ _ I1, rfl, q⟩) (m + 1) s5 I5.nolimit pin5 ⟨gs, hgs, ?_⟩⟩
  refine goes Unit _ _ _ W m (m + 1) () [(ga, go)] _ turn w0 (Nat.lt_succ_self _) (fun a cp hac p hp b hb z => ?_) rfl (inv_moved I5 rfl (allBare_setGen I5.bare rfl) fun _ _ q => q) st5
  subst hac
  have e : p = (ga, go) := by simpa using hp
  subst e
  exact absurd (hlt b hb) (by rw [← z]; exact Nat.lt_irrefl _)
end
/-! ### tuple(..) -/
section
variable {X : Cx} {A A' : Around} {s_0 : Shared} {H_0 : Hp} {cenv : Env} {fp : List Addr} {tn : Nat → Heap → Prop} {ga S : Addr} {gn n : Nat} {go : Obj}
/-- the asker's list S holds what is out -/
def ACl (ga : Addr) (go : Obj) (S : Addr) (ys : List V) (cp : List (Addr × Obj)) : Prop := ∃ (acc : Array Value) (c : Nat), cp = [(ga, go), (S, lstObj acc c)] ∧ Vals ys acc.toList
def YdL (ys : List V) (y : V) (H : Hp) (Nx : List V → Hp → Prop) : Prop := ys.length < sizeLine ∧ Nx (ys ++ [y]) H
theorem ext_gx {R : Result → Shared → Prop} {End : List V → Hp → Prop} {res : Value} (hh : A.handled = none) (hroom : A.depth < recursionLimit) (hG : GenObj go gn) (hSa : S ≠ ga) (far : (gblk X A' s_0 H_0 cenv fp).s_0.heap.objs.size ≤ S) (hSc : ∀ x c, cenv.cells.lookup x = some c → c ≠ S)
    (keep : ∀ i h h', tn i h → (∀ b ∈ fp, ∀ o, h.get? b = some o → h'.get? b = some o) → tn i h') (hSf : ∀ b ∈ fp, b ≠ S)
    (yes : ∀ (σ : L2.St) (H : Hp) (ys : List V) (acc : Array Value) (c : Nat) (s1 : Shared), Inv (gblk X A' s_0 H_0 cenv fp) [(ga, go), (S, lstObj acc c)] σ H s1 → Vals ys acc.toList → End ys H → R (.ok (.ret res)) s1) :
    ∀ (n : Nat) (s : Shared), s.heap.NoLimit → s.heap.get? ga = some go → (∃ gs, s.gens[gn]? = some gs ∧ gs.Goes (model X.prog X.w) A.in1.in1 (RG (gblk X A' s_0 H_0 cenv fp) (ACl ga go S) End)
      (YG (gblk X A' s_0 H_0 cenv fp) fp tn (ACl ga go S) YdL) n (.send .none) (s.setGen gn .running)) →
      codeAny (model X.prog X.w) A (.builtin "list.extend.loop" ⟨[.ref S, .ref ga, res], []⟩) R s := by
  intro n
  induction n with
  | zero =>
    rintro s hl e ⟨gs, hgs, hgo⟩
    refine codeAny_builtin F.entry_extend_loop ?_
    rw [Around.under_plainId F.plain_extend_loop _]
    show wpAny _ A.in1 (pyNext (.ref ga) >>= _) _ _ s
    refine wpAny_bind (next_gx (A := A.in1) hh hroom hl hG e hgs hgo (fun ys x σ H i cp Nx v s1 gs' r hac I st hy at_ kap => ?_) fun ys σ H cp s1 hac I q => ?_)
    · obtain ⟨acc, c, rfl, rv⟩ := hac
      have pS := I.pin (S, lstObj acc c) (List.mem_append_right _ (List.mem_cons_of_mem _ List.mem_cons_self))
      have I0 : Inv (gblk X A' s_0 H_0 cenv fp) [(ga, go)] σ H s1 := I.pins_of fun p hp => I.pin p (List.mem_append_right _ (by rw [List.mem_singleton.mp hp]; exact List.mem_cons_self))
      have I1 := I0.turned (t' := s1.toks) (h' := s1.heap.update S (Obj.mapSeq (·.push v))) (it := S) (fun b o hb q => (Heap.get?_update_other _ _ (Ne.symm hb)).trans q) pS.2.1 pS.2.2.1 (.inr far) hSc (fun p hp => by rw [List.mem_singleton.mp (show p ∈ [(ga, go)] by simpa using hp)]; exact Ne.symm hSa)
      have e2 := Heap.get?_update_self (Obj.mapSeq (·.push v)) pS.1 rfl
      obtain ⟨m, hm, _⟩ := kap (ys ++ [x]) [(ga, go), (S, _)] _ hy.2 ⟨acc.push v, _, rfl, by rw [Array.toList_push]; exact rv.append (.cons r .nil)⟩ (I1.pins_of fun p hp => by
        rcases List.mem_cons.mp hp with z | z
        · rw [z]; exact I1.pin (ga, go) (List.mem_append_right _ List.mem_cons_self)
        · rw [List.mem_singleton.mp z]; exact ⟨e2, pS.2.1, pS.2.2.1, pS.2.2.2.1, fun v q => by cases q⟩) (keep _ _ _ st fun b hb o q => (Heap.get?_update_other _ _ (Ne.symm (hSf b hb))).trans q)
      cases hm
    · obtain ⟨acc, c, rfl, rv⟩ := hac
      exact wpAny_pure (yes σ H ys acc c s1 I rv q)
  | succ n ih =>
    rintro s hl e ⟨gs, hgs, hgo⟩
    refine codeAny_builtin F.entry_extend_loop ?_
    rw [Around.under_plainId F.plain_extend_loop _]
    show wpAny _ A.in1 (pyNext (.ref ga) >>= _) _ _ s
    refine wpAny_bind (next_gx (A := A.in1) hh hroom hl hG e hgs hgo (fun ys x σ H i cp Nx v s1 gs' r hac I st hy at_ kap => ?_) fun ys σ H cp s1 hac I q => ?_)
    · obtain ⟨acc, c, rfl, rv⟩ := hac
      have pS := I.pin (S, lstObj acc c) (List.mem_append_right _ (List.mem_cons_of_mem _ List.mem_cons_self))
      have I0 : Inv (gblk X A' s_0 H_0 cenv fp) [(ga, go)] σ H s1 := I.pins_of fun p hp => I.pin p (List.mem_append_right _ (by rw [List.mem_singleton.mp hp]; exact List.mem_cons_self))
      have I1 := I0.turned (t' := s1.toks) (h' := s1.heap.update S (Obj.mapSeq (·.push v))) (it := S) (fun b o hb q => (Heap.get?_update_other _ _ (Ne.symm hb)).trans q) pS.2.1 pS.2.2.1 (.inr far) hSc (fun p hp => by rw [List.mem_singleton.mp (show p ∈ [(ga, go)] by simpa using hp)]; exact Ne.symm hSa)
      have e2 := Heap.get?_update_self (Obj.mapSeq (·.push v)) pS.1 rfl
      have hln := rv.length
      have hlt : acc.size < sizeLine := by
        have := hy.1
        rw [hln] at this
        simpa using this
      have pG := I1.pin (ga, go) (List.mem_append_right _ List.mem_cons_self)
      show wpAny _ A.in1 (updateSeq S (·.push v) >>= _) _ _ _
      refine wpAny_bind ?_
      refine wpAny_updateSeq pS.1 rfl (wpAny_pure ⟨plainId_quiet F.plain_extend_loop _, ih _ I1.nolimit pG.1 ⟨gs', at_, ?_⟩⟩) (Nat.le_of_lt hlt) (by show (acc.push v).size ≤ sizeLine + 1; rw [Array.size_push]; omega)
      obtain ⟨m, hm, z⟩ := kap (ys ++ [x]) [(ga, go), (S, _)] (({ s1 with heap := s1.heap.update S (Obj.mapSeq (·.push v)) } : Shared).setGen gn .running) hy.2 ⟨acc.push v, _, rfl, by rw [Array.toList_push]; exact rv.append (.cons r .nil)⟩ (inv_moved (I1.pins_of fun p hp => by
        rcases List.mem_cons.mp hp with z | z
        · rw [z]; exact pG
        · rw [List.mem_singleton.mp z]; exact ⟨e2, pS.2.1, pS.2.2.1, pS.2.2.2.1, fun v q => by cases q⟩) rfl (allBare_setGen (s := { s1 with heap := s1.heap.update S (Obj.mapSeq (·.push v)) }) I1.bare rfl) fun _ _ q => q) (keep _ _ _ st fun b hb o q => (Heap.get?_update_other _ _ (Ne.symm (hSf b hb))).trans q)
      cases hm
      exact z
    · obtain ⟨acc, c, rfl, rv⟩ := hac
      exact wpAny_pure (yes σ H ys acc c s1 I rv q)
end
section
variable {X : Cx} {pins : List (Addr × Obj)} {σ : L2.St} {s5 : Shared} {J : It} {g : TG} {tt : TT} {te : TE} {vs : List Nat} {H4 : Hp} {u : Value}
/-- all that a generator hands out, in a list of the asker's own -/
theorem collect_gx {A : Around} {E : Value → Shared → Prop} {Q : List Value → Shared → Prop} {End : List V → Hp → Prop} {W : Nat → Nat → List V → Hp → Prop} {m : Nat} (hh : A.handled = none) (hroom : A.depth < recursionLimit) (G : Gx X pins σ A.in1.in1 J g tt te vs H4 u s5)
    (w0 : W 0 m [] H4) (turn : tGx J g tt te (wipe σ vs) vs End YdL W)
    (hQ : ∀ (s' : Shared) (acc : Array Value) (ys : List V) (H' : Hp), Inv X pins σ H' s' → Vals ys acc.toList → End ys H' → Q acc.toList s') : wpAny (model X.prog X.w) A (collect u) Q E s5 := by
  obtain ⟨A', s_0, H_0, cenv, fp, ga, gn, go, tn, gs, rfl, hGO, hgs, hbare, I5, st5, nf, hlt, keep, back, goes⟩ := G
  have pin5 := I5.pin (ga, go) (List.mem_append_right _ List.mem_cons_self)
  have glt : ga < s5.heap.objs.size := Heap.lt_size pin5.1
  have hSI : s5.heap.objs.size ≠ ga := Nat.ne_of_gt glt
  unfold collect
  refine wpAny_bind (wpAny_runValue (codeAny_builtin F.entry_proto_collect ?_))
  rw [Around.under_plainId F.plain_proto_collect _]
  show wpAny _ A.in1 (newList [] >>= fun l => again (.builtin "list.__iadd__" ⟨[l, .ref ga], []⟩)) _ _ s5
  refine wpAny_bind (wpAny_newObj_type ?_)
  refine wpAny_pure ⟨plainId_quiet F.plain_list_iadd _, codeAny_builtin F.entry_list_iadd ?_⟩
  rw [Around.under_plainId F.plain_list_iadd _]
  show wpAny _ A.in1 (Builtin.List.listExtendWith (.ref s5.heap.objs.size) (.ref ga) (.ref s5.heap.objs.size)) _ _ _
  unfold Builtin.List.listExtendWith
  have k1 : ∀ b o, s5.heap.get? b = some o → (s5.heap.push { cls := .type "list", data := .seq ([] : List Value).toArray }).get? b = some o := fun b o e => Heap.get?_push_of_some _ e
  have hT : Shared.TypeIs { s5 with heap := s5.heap.push { cls := .type "list", data := .seq ([] : List Value).toArray } } (.ref ga) "generator" := Heap.IsGen.typeIs (s := { s5 with heap := _ }) (hGO.isGen (k1 _ _ pin5.1))
  refine wpAny_bind (wpAny_typeOf hT ?_)
  have h1 : Builtin.List.listSameRef (.ref s5.heap.objs.size) (.ref ga) = false := by simp [Builtin.List.listSameRef, hSI]
  have h2 : (Value.type "generator" == Value.type "list") = false := by decide
  have h3 : (Value.type "generator" == Value.type "tuple") = false := by decide
  simp only [h1, h2, h3, Bool.or_false, Bool.false_eq_true, if_false]
  refine wpAny_bind (wpAny_pyIter_gen (s := { s5 with heap := _ }) (hGO.isGen (k1 _ _ pin5.1)) ?_)
  refine wpAny_bind (wpAny_holding ?_)
  unfold Builtin.List.listLengthHint
  refine wpAny_bind (wpAny_specialOf hT F.gen_no_len ?_)
  show wpAny _ A.in1 (specialOf (Value.ref ga) (Str.ofString "__length_hint__") >>= _) _ _ _
  refine wpAny_bind (wpAny_specialOf hT F.gen_no_hint ?_)
  refine wpAny_pure ?_
  show wpAny _ A.in1 (rule "list.extend.makes-room" >>= fun _ => Builtin.List.listTouch (.ref s5.heap.objs.size) >>= fun _ =>
    again (.builtin "list.extend.loop" ⟨[.ref s5.heap.objs.size, .ref ga, .ref s5.heap.objs.size], []⟩)) _ _ _
  refine wpAny_bind (wpAny_rule ?_)
  have hS₁ : (s5.heap.push { cls := .type "list", data := .seq ([] : List Value).toArray }).get? s5.heap.objs.size = some { cls := .type "list", data := .seq ([] : List Value).toArray } := Heap.get?_push_size _ rfl
  refine wpAny_bind ?_
  show wpAny _ A.in1 (updateSeq s5.heap.objs.size (·.push .none) >>= fun _ => updateSeq s5.heap.objs.size (·.pop)) _ _ _
  refine wpAny_bind (wpAny_updateSeq hS₁ rfl ?_)
  have hS₂ := Heap.get?_update_self (Obj.mapSeq (·.push Value.none)) hS₁ rfl
  refine wpAny_updateSeq hS₂ rfl ?_
  have hS₃ := Heap.get?_update_self (Obj.mapSeq (·.pop)) hS₂ rfl
  obtain ⟨c3, hS₄⟩ : ∃ c, (((s5.heap.push { cls := .type "list", data := .seq ([] : List Value).toArray }).update s5.heap.objs.size (Obj.mapSeq (·.push Value.none))).update s5.heap.objs.size (Obj.mapSeq (·.pop))).get? s5.heap.objs.size = some (lstObj #[] c) := ⟨_, hS₃⟩
  have k3 : ∀ b o, s5.heap.get? b = some o → (((s5.heap.push { cls := .type "list", data := .seq ([] : List Value).toArray }).update s5.heap.objs.size (Obj.mapSeq (·.push Value.none))).update s5.heap.objs.size (Obj.mapSeq (·.pop))).get? b = some o :=
    fun b o e => (Heap.get?_update_other _ _ (Ne.symm (Nat.ne_of_lt (Heap.lt_size e)))).trans ((Heap.get?_update_other _ _ (Ne.symm (Nat.ne_of_lt (Heap.lt_size e)))).trans (k1 b o e))
  have fS : FpOk (gblk X A' s_0 H_0 cenv fp) [(ga, go)] H4 s5.heap.objs.size := I5.fpOk (Nat.le_refl _) (I5.hok.fresh (Nat.le_refl _))
  have hfS : ∀ b ∈ fp, b ≠ s5.heap.objs.size := fun b hb => Nat.ne_of_lt (Nat.lt_trans (hlt b hb) glt)
  have I6 := inv_moved (s' := { s5 with heap := ((s5.heap.push { cls := .type "list", data := .seq ([] : List Value).toArray }).update s5.heap.objs.size (Obj.mapSeq (·.push Value.none))).update s5.heap.objs.size (Obj.mapSeq (·.pop)) }) I5 rfl I5.bare k3
  refine wpAny_pure ⟨plainId_quiet F.plain_extend_loop _, ext_gx (A := A) (A' := A') (s_0 := s_0) (H_0 := H_0) (cenv := cenv) (fp := fp) (tn := tn) (go := go) (gn := gn) (End := End) hh hroom hGO hSI ?_ fS.2.2.2.2.1 keep hfS
    (fun σ' H' ys acc c s1 I1 rv q => ?_) (m + 1) _ I6.nolimit (k3 _ _ pin5.1) ⟨gs, hgs, ?_⟩⟩
  · exact Nat.le_trans I5.sz (Nat.le_refl _)
  · show wpAny _ A (load s5.heap.objs.size >>= _) _ _ s1
    have pS := (I1.pin (s5.heap.objs.size, lstObj acc c) (List.mem_append_right _ (List.mem_cons_of_mem _ List.mem_cons_self))).1
    refine wpAny_bind (wpAny_load pS ?_)
    exact wpAny_pure (hQ s1 acc ys H' (back _ _ _ _ I1) rv q)
  · refine goes (List V) (ACl ga go s5.heap.objs.size) End YdL W m (m + 1) [] [(ga, go), (s5.heap.objs.size, lstObj #[] c3)] _ turn w0 (Nat.lt_succ_self _) (fun ys cp hac p hp b hb z => ?_) ⟨#[], c3, rfl, .nil⟩
      (inv_moved (I6.pins_of fun p hp => ?_) rfl (allBare_setGen (s := { s5 with heap := _ }) I5.bare rfl) fun _ _ q => q) (keep _ _ _ st5 fun b hb o q => k3 b o q)
    · obtain ⟨acc, c, rfl, _⟩ := hac
      rcases List.mem_cons.mp hp with e | e
      · rw [e] at z
        exact absurd (hlt b hb) (by rw [← z]; exact Nat.lt_irrefl _)
      · rw [List.mem_singleton.mp e] at z
        exact hfS b hb z.symm
    · rcases List.mem_cons.mp hp with e | e
      · rw [e]
        exact I6.pin (ga, go) (List.mem_append_right _ List.mem_cons_self)
      · rw [List.mem_singleton.mp e]
        exact ⟨hS₄, fS.1, fS.2.1, fS.2.2.1, fun v q => by cases q⟩
end
section
variable {X : Cx}
/-- tuple(elt for tg in iter ..) -/
def tTupX (P : Addr) (wi : TI) (g : TG) (tt : TT) (te : TE) (vs : List Nat) : TE := fun σ H Q => wi σ H fun J H1 => GzN.TabG H1 P ∧ ∀ H2, GzN.Tabbed P H1 H2 → ∃ W : Nat → Nat → List V → Hp → Prop, (∃ m, W 0 m [] H2) ∧
  tGx J g tt te (wipe σ vs) vs (fun ys H => ys.length ≤ sizeLine ∧ ∀ p, H p = none → Q (.ref p) (upd H p (.tup ys))) YdL W
theorem pe_tupX {c P : Addr} {elt tg iter : Expr} {ifs : List Expr} {p pos gpos : Pos} {scope : Scope} {own : List (Str × Nat)} {wi : TI} {g : TG} {tt : TT} {te : TE} {k : Nat}
    (hr : Room (k + 1) X.A) (hc : X.calm = true) (hN : X.N.Nodup) (hgl : Gl X "tuple") (hm : X.mg "tuple" = none) (hb : bootBuiltins "tuple" = some (.type "tuple")) (TB : GxR.TabB X.base X.mg c P) (hcode : X.env.code = .ref c)
    (hco : scope.isCoroutine = false) (hdot : scope.names.lookup (".0" : Str) = some NameKind.local) (ok : BlkOk X.N X.env.scope scope own) (hi : PI X tg iter wi)
    (hg : ∀ (A' : Around) (s : Shared) (H : Hp) (C : Addr) (cl : List (Str × Addr)) (c' P' : Addr) (fp : List Addr), Room k A' → A'.guards = X.A.guards → PG (gblk X A' s H (GzN.envN scope cl C (.ref c') builtinsNs X.env) fp) tg g)
    (ht : ∀ (A' : Around) (s : Shared) (H : Hp) (C : Addr) (cl : List (Str × Addr)) (c' P' : Addr) (fp : List Addr), Room k A' → A'.guards = X.A.guards → PTs (gblk X A' s H (GzN.envN scope cl C (.ref c') builtinsNs X.env) fp) ifs tt)
    (he : ∀ (A' : Around) (s : Shared) (H : Hp) (C : Addr) (cl : List (Str × Addr)) (c' P' : Addr) (fp : List Addr), Room k A' → A'.guards = X.A.guards → PE (gblk X A' s H (GzN.envN scope cl C (.ref c') builtinsNs X.env) fp) elt te)
    (hs : ∀ v, genFold iter X.env v = pure v)
    (hst : starEach [.GeneratorExp elt [⟨tg, iter, ifs, 0⟩] scope gpos] X.env = (false, eval (.GeneratorExp elt [⟨tg, iter, ifs, 0⟩] scope gpos) X.env) :: starEach [] X.env := by rfl) :
    PE X (.Call (.Name "tuple" p) [.GeneratorExp elt [⟨tg, iter, ifs, 0⟩] scope gpos] [] pos) (tTupX P wi g tt te (own.map (·.2))) := by
  refine ⟨fun pins s σ H Q I h => ?_⟩
  refine wpAny_Call_Name_kw (ld_blt I hgl hm hb ?_)
  refine PyProof.Rows.callWith_type1 ?_ hst (by rfl)
  rw [hst]
  show wpAny _ _ (spliced ((false, eval (.GeneratorExp elt [⟨tg, iter, ifs, 0⟩] scope gpos) X.env) :: backTo pos (starEach [] X.env))) _ _ s
  refine Calls.spliced_cons (GzN.gx_makeN (tt := fun _ _ => tt) (te := fun _ _ => te) (A := X.A.in1.in1.in1.in1) hr ⟨rfl, rfl, rfl, rfl, (by show X.A.units + 1 + 1 + 1 + 1 ≤ _; omega)⟩ hc hN TB hcode hco hdot ok hi hg ht he hs I h fun J H1 H2 u s5 _ _ hR hT _ _ hG => ?_)
  obtain ⟨W, ⟨m, w0⟩, turn⟩ := hR H2 hT
  refine Calls.spliced_nil ?_
  have ⟨A', s_0, H_0, cenv, fp, ga, gn, go, tn, gs, eu, hGO, hgs, hbare, I5, st5, nf, hlt, keep, back, goes⟩ := hG
  have pin5 := (I5.pin (ga, go) (List.mem_append_right _ List.mem_cons_self)).1
  rw [eu] at hG ⊢
  refine callType_codes (Q₁ := fun obj s₁ => s₁.TypeIs obj "tuple" ∧ EP X pins σ Q obj s₁) F.called_tuple (F.typeCall_tuple_1 _) F.entry_object_init ?_ fun obj s₁ h₁ =>
    ⟨h₁.1, F.args_object_init_2 obj _, object_init_meets F.called_tuple.init.lookup F.called_tuple.made (by decide) X.prog X.w X.A.in1 _ s₁ ⟨h₁.1, rfl, h₁.2⟩⟩
  refine codeAny_of_tree ?_
  show wpAny _ X.A.in1.in1 (do checkBuiltinCall "tuple.__new__" ⟨[.type "tuple", .ref ga], []⟩; again (.builtin "tuple.__new__" ⟨[.type "tuple", .ref ga], []⟩)) _ _ s5
  refine wpAny_bind (wpAny_of_eq (F.newCall_tuple_1 _) (wpAny_pure ⟨plainId_quiet F.plain_tuple_new _, codeAny_builtin F.entry_tuple_new ?_⟩))
  rw [Around.under_plainId F.plain_tuple_new _]
  have hsub := sub_tuple_self
  have hinit := init_tuple_lookup
  have hmh := madeHere_tuple
  have hTI : s5.TypeIs (.ref ga) "generator" := (hGO.isGen pin5).typeIs
  have col : ∀ {Q0 : List Value → Shared → Prop} {E0 : Value → Shared → Prop}, (∀ (s' : Shared) (acc : Array Value), (∃ (ys : List V) (H' : Hp), Inv X pins σ H' s' ∧ Vals ys acc.toList ∧ ys.length ≤ sizeLine ∧ ∀ p, H' p = none → Q (.ref p) (upd H' p (.tup ys))) → Q0 acc.toList s') →
      wpAny (model X.prog X.w) X.A.in1.in1 (collect (.ref ga)) Q0 E0 s5 := fun hq => collect_gx hr.hd hr.depth hG w0 turn (fun s' acc ys H' I' rv q => hq s' acc ⟨ys, H', I', rv, q.1, q.2⟩)
  wp_walk using wpAny_typeOf hTI, col
  rintro s' acc ⟨ys, H', I', rv, small, q⟩
  show wpAny _ _ (Builtin.Tuple.tupleExact acc.toList.toArray >>= fun v => ret v) _ _ _
  unfold Builtin.Tuple.tupleExact
  refine wpAny_bind (wpAny_newObj_type ?_ (by show acc.toList.toArray.size ≤ sizeLine; rw [List.size_toArray, ← rv.length]; exact small))
  refine wpAny_pure ?_
  have free : H' s'.heap.objs.size = none := I'.hok.fresh (Nat.le_refl _)
  refine ⟨⟨_, Heap.get?_push_size _ rfl, rfl⟩, .ref s'.heap.objs.size, upd H' s'.heap.objs.size (.tup ys), I'.laid (t' := s'.toks) (fun b u z => Heap.get?_push_of_some _ z) (Nat.le_refl _) ⟨small, acc.toList, rv, ?_⟩, rfl, q _ free⟩
  exact ⟨_, Heap.get?_push_size _ rfl, rfl, 0, rfl⟩
end
/-! ### a def by its body, its code object known -/
theorem okC {P : Program} {w : World} {K : PySem.W.Frag} {mg : Str → Option Value} {base : Heap} {x qual : Str} {st : Stmt} {f : Addr} {fd : FuncData} {N ps : List Str} {k : Nat} {sp : Sp} (F : Fun K x qual st f fd) (S : FnScope N ps (defScope st)) (len : ∀ vs H Q E, sp vs H Q E → vs.length = ps.length)
    (body : ∀ (A : Around) (outer : List Env) (s : Shared) (H : Hp) (vs : List V) (Q : VK) (E : XK), Room k (A.deeper (envOfC qual (defScope st) s.heap.objs.size f fd.code)) → sp vs H Q E →
      ∃ t, PSs (cxOf CX0 P w K mg base N qual (defScope st) f fd.code A outer s H E).nox (defBody st) t ∧ t { nx := fun _ H' => Q .non H', rt := Q } (start N vs) H) : FnOk P w K mg base CX0 (k + 1) f fd ps sp := by
  obtain ⟨oc, od, kV, doc, pm, an, cdv, ct, osl, rfl, lk, hcd⟩ := F.ex
  refine fn_of lk hcd S len fun A outer s H vs Q E hr hsp => ?_
  obtain ⟨t, h, q⟩ := body A outer s H vs Q E hr hsp
  exact ⟨t, h.nox, q⟩
/-! ### from the head's facts -/
theorem fun_of {K : PySem.W.Frag} {x qual : Str} {st : Stmt} {f : Addr} {fd : FuncData} (F : FunD K x qual (defArgs st) (defBody st) (defScope st) [] [] f fd) : Fun K x qual st f fd := by
  obtain ⟨oc, od, dV, kV, doc, pm, an, cdv, ct, osl, rfl, lk, hcd, hd, _⟩ := F.ex
  rcases hd with ⟨_, rfl⟩ | ⟨z, _⟩
  · exact ⟨⟨oc, od, kV, doc, pm, an, cdv, ct, osl, rfl, lk, hcd⟩, F.kp⟩
  · exact absurd rfl z
theorem code_of {K : PySem.W.Frag} {x qual : Str} {st : Stmt} {p : He.Defn} {fd : FuncData} (F : Fun K x qual st (He.fAd K p) fd) : fd.code = .ref (He.cT K p).1 := by
  obtain ⟨oc, od, kV, doc, pm, an, cdv, ct, osl, rfl, lk, hcd⟩ := F.ex
  obtain ⟨c, rfl⟩ := He.codeIn_ref hcd
  show Value.ref c = Value.ref (He.codeOf K p)
  rw [He.codeOf_eq lk rfl]
theorem tab_of {base : Heap} {mg : Str → Option Value} {c P : Addr} (h : LamX.TabB base mg c P) : GxR.TabB base mg c P := ⟨h.code, h.bm, h.gP⟩
section
variable {X : Cx}
def tTupZ (P : Addr) (wi : TI) (g : TG) (tt : Addr → Addr → TT) (te : Addr → Addr → TE) (vs : List Nat) : TE := fun σ H Q => wi σ H fun J H1 => GzN.TabG H1 P ∧ ∀ H2 c' P', GzN.Tabbed P H1 H2 → H2 c' = some (GzN.CodeK c' P') → «GxR».TabG H2 P' → ∃ W : Nat → Nat → List V → Hp → Prop, (∃ m, W 0 m [] H2) ∧
  tGx J g (tt c' P') (te c' P') (wipe σ vs) vs (fun ys H => ys.length ≤ sizeLine ∧ ∀ p, H p = none → Q (.ref p) (upd H p (.tup ys))) YdL W
theorem pe_tupZ {c P : Addr} {elt tg iter : Expr} {ifs : List Expr} {p pos gpos : Pos} {scope : Scope} {own : List (Str × Nat)} {wi : TI} {g : TG} {tt : Addr → Addr → TT} {te : Addr → Addr → TE} {k : Nat}
    (hr : Room (k + 1) X.A) (hc : X.calm = true) (hN : X.N.Nodup) (hgl : Gl X "tuple") (hm : X.mg "tuple" = none) (hb : bootBuiltins "tuple" = some (.type "tuple")) (TB : GxR.TabB X.base X.mg c P) (hcode : X.env.code = .ref c)
    (hco : scope.isCoroutine = false) (hdot : scope.names.lookup (".0" : Str) = some NameKind.local) (ok : BlkOk X.N X.env.scope scope own) (hi : PI X tg iter wi)
    (hg : ∀ (A' : Around) (s : Shared) (H : Hp) (C : Addr) (cl : List (Str × Addr)) (c' P' : Addr) (fp : List Addr), Room k A' → A'.guards = X.A.guards → PG (gblk X A' s H (GzN.envN scope cl C (.ref c') builtinsNs X.env) fp) tg g)
    (ht : ∀ (A' : Around) (s : Shared) (H : Hp) (C : Addr) (cl : List (Str × Addr)) (c' P' : Addr) (fp : List Addr), Room k A' → A'.guards = X.A.guards → PTs (gblk X A' s H (GzN.envN scope cl C (.ref c') builtinsNs X.env) fp) ifs (tt c' P'))
    (he : ∀ (A' : Around) (s : Shared) (H : Hp) (C : Addr) (cl : List (Str × Addr)) (c' P' : Addr) (fp : List Addr), Room k A' → A'.guards = X.A.guards → PE (gblk X A' s H (GzN.envN scope cl C (.ref c') builtinsNs X.env) fp) elt (te c' P'))
    (hs : ∀ v, genFold iter X.env v = pure v)
    (hst : starEach [.GeneratorExp elt [⟨tg, iter, ifs, 0⟩] scope gpos] X.env = (false, eval (.GeneratorExp elt [⟨tg, iter, ifs, 0⟩] scope gpos) X.env) :: starEach [] X.env := by rfl) :
    PE X (.Call (.Name "tuple" p) [.GeneratorExp elt [⟨tg, iter, ifs, 0⟩] scope gpos] [] pos) (tTupZ P wi g tt te (own.map (·.2))) := by
  refine ⟨fun pins s σ H Q I h => ?_⟩
  refine wpAny_Call_Name_kw (ld_blt I hgl hm hb ?_)
  refine PyProof.Rows.callWith_type1 ?_ hst (by rfl)
  rw [hst]
  show wpAny _ _ (spliced ((false, eval (.GeneratorExp elt [⟨tg, iter, ifs, 0⟩] scope gpos) X.env) :: backTo pos (starEach [] X.env))) _ _ s
  refine Calls.spliced_cons (GzN.gx_makeN (tt := tt) (te := te) (A := X.A.in1.in1.in1.in1) hr ⟨rfl, rfl, rfl, rfl, (by show X.A.units + 1 + 1 + 1 + 1 ≤ _; omega)⟩ hc hN TB hcode hco hdot ok hi hg ht he hs I h fun J H1 H2 u s5 c' P' hR hT kc kP hG => ?_)
  obtain ⟨W, ⟨m, w0⟩, turn⟩ := hR H2 c' P' hT kc kP
  refine Calls.spliced_nil ?_
  have ⟨A', s_0, H_0, cenv, fp, ga, gn, go, tn, gs, eu, hGO, hgs, hbare, I5, st5, nf, hlt, keep, back, goes⟩ := hG
  have pin5 := (I5.pin (ga, go) (List.mem_append_right _ List.mem_cons_self)).1
  rw [eu] at hG ⊢
  refine callType_codes (Q₁ := fun obj s₁ => s₁.TypeIs obj "tuple" ∧ EP X pins σ Q obj s₁) F.called_tuple (F.typeCall_tuple_1 _) F.entry_object_init ?_ fun obj s₁ h₁ =>
    ⟨h₁.1, F.args_object_init_2 obj _, object_init_meets F.called_tuple.init.lookup F.called_tuple.made (by decide) X.prog X.w X.A.in1 _ s₁ ⟨h₁.1, rfl, h₁.2⟩⟩
  refine codeAny_of_tree ?_
  show wpAny _ X.A.in1.in1 (do checkBuiltinCall "tuple.__new__" ⟨[.type "tuple", .ref ga], []⟩; again (.builtin "tuple.__new__" ⟨[.type "tuple", .ref ga], []⟩)) _ _ s5
  refine wpAny_bind (wpAny_of_eq (F.newCall_tuple_1 _) (wpAny_pure ⟨plainId_quiet F.plain_tuple_new _, codeAny_builtin F.entry_tuple_new ?_⟩))
  rw [Around.under_plainId F.plain_tuple_new _]
  have hsub := sub_tuple_self
  have hinit := init_tuple_lookup
  have hmh := madeHere_tuple
  have hTI : s5.TypeIs (.ref ga) "generator" := (hGO.isGen pin5).typeIs
  have col : ∀ {Q0 : List Value → Shared → Prop} {E0 : Value → Shared → Prop}, (∀ (s' : Shared) (acc : Array Value), (∃ (ys : List V) (H' : Hp), Inv X pins σ H' s' ∧ Vals ys acc.toList ∧ ys.length ≤ sizeLine ∧ ∀ p, H' p = none → Q (.ref p) (upd H' p (.tup ys))) → Q0 acc.toList s') →
      wpAny (model X.prog X.w) X.A.in1.in1 (collect (.ref ga)) Q0 E0 s5 := fun hq => collect_gx hr.hd hr.depth hG w0 turn (fun s' acc ys H' I' rv q => hq s' acc ⟨ys, H', I', rv, q.1, q.2⟩)
  wp_walk using wpAny_typeOf hTI, col
  rintro s' acc ⟨ys, H', I', rv, small, q⟩
  show wpAny _ _ (Builtin.Tuple.tupleExact acc.toList.toArray >>= fun v => ret v) _ _ _
  unfold Builtin.Tuple.tupleExact
  refine wpAny_bind (wpAny_newObj_type ?_ (by show acc.toList.toArray.size ≤ sizeLine; rw [List.size_toArray, ← rv.length]; exact small))
  refine wpAny_pure ?_
  have free : H' s'.heap.objs.size = none := I'.hok.fresh (Nat.le_refl _)
  refine ⟨⟨_, Heap.get?_push_size _ rfl, rfl⟩, .ref s'.heap.objs.size, upd H' s'.heap.objs.size (.tup ys), I'.laid (t' := s'.toks) (fun b u z => Heap.get?_push_of_some _ z) (Nat.le_refl _) ⟨small, acc.toList, rv, ?_⟩, rfl, q _ free⟩
  exact ⟨_, Heap.get?_push_size _ rfl, rfl, 0, rfl⟩
end
/-! ### heaps whose tables grow -/
def Tabs (H : Hp) (Ps : List Addr) : Prop := ∀ P ∈ Ps, GzN.TabG H P
/-- what is no table stays; tables stay tables -/
structure Gr (H H' : Hp) : Prop where
  a : ∀ b o, (∀ ps, o ≠ HO.tbl ps) → H b = some o → H' b = some o
  b : ∀ b, GzN.TabG H b → GzN.TabG H' b
  c : ∀ b, «GxR».TabG H b → «GxR».TabG H' b
theorem Gr.refl {H : Hp} : Gr H H := ⟨fun _ _ _ e => e, fun _ e => e, fun _ e => e⟩
theorem Gr.trans {H H1 H2 : Hp} (a : Gr H H1) (b : Gr H1 H2) : Gr H H2 := ⟨fun c o n e => b.1 c o n (a.1 c o n e), fun c e => b.2 c (a.2 c e), fun c e => b.3 c (a.3 c e)⟩
theorem Gr.of {H H' : Hp} (h : ∀ b o, H b = some o → H' b = some o) : Gr H H' := by
  have p : ∀ b, «GxR».TabG H b → «GxR».TabG H' b := fun b ⟨ps, e, t⟩ => ⟨ps, h _ _ e, t⟩
  exact ⟨fun b o _ e => h b o e, fun b t => t.grown (fun c o _ e => h c o e) p (fun ps e => h _ _ e), p⟩
theorem Gr.tab {P : Addr} {H H' : Hp} (t : GzN.TabG H P) (h : GzN.Tabbed P H H') : Gr H H' := by
  obtain ⟨ps, e, _⟩ := t
  have k : ∀ b o, (∀ ps, o ≠ HO.tbl ps) → H b = some o → H' b = some o := fun b o n q => by
    by_cases hb : b = P
    · rw [hb, e] at q
      exact absurd (Option.some.inj q).symm (n ps)
    · exact h.2 b o hb q
  have p : ∀ b, «GxR».TabG H b → «GxR».TabG H' b := fun b ⟨qs, q, t⟩ => by
    by_cases hb : b = P
    · rw [hb]; exact h.1.plain
    · exact ⟨qs, h.2 b _ hb q, t⟩
  refine ⟨k, fun b t => ?_, p⟩
  by_cases hb : b = P
  · rw [hb]; exact h.1
  · exact t.grown k p fun qs q => h.2 b _ hb q
theorem Gr.tabD {P : Addr} {H H' : Hp} (t : «GxR».TabG H P) (h : GzN.TabbedD P H H') : Gr H H' := by
  obtain ⟨ps, e, _⟩ := t
  have k : ∀ b o, (∀ ps, o ≠ HO.tbl ps) → H b = some o → H' b = some o := fun b o n q => by
    by_cases hb : b = P
    · rw [hb, e] at q
      exact absurd (Option.some.inj q).symm (n ps)
    · exact h.2.2 b o hb q
  have p : ∀ b, «GxR».TabG H b → «GxR».TabG H' b := fun b ⟨qs, q, t⟩ => by
    by_cases hb : b = P
    · rw [hb]; exact h.1
    · exact ⟨qs, h.2.2 b _ hb q, t⟩
  refine ⟨k, fun b t => ?_, p⟩
  by_cases hb : b = P
  · rw [hb] at t ⊢; exact h.2.1 t
  · exact t.grown k p fun qs q => h.2.2 b _ hb q
theorem Gr.code {H H' : Hp} (g : Gr H H') {c P : Addr} (h : H c = some (GzN.CodeK c P)) : H' c = some (GzN.CodeK c P) := g.1 c _ (fun ps => GzN.codeK_ne ps) h
theorem Gr.tup {H H' : Hp} (g : Gr H H') {a : Addr} {xs : List V} (h : H a = some (.tup xs)) : H' a = some (.tup xs) := g.1 a _ (fun _ z => by cases z) h
theorem Gr.lst {H H' : Hp} (g : Gr H H') {a : Addr} {xs : List V} (h : H a = some (.lst xs)) : H' a = some (.lst xs) := g.1 a _ (fun _ z => by cases z) h
theorem Gr.tabs {H H' : Hp} (g : Gr H H') {Ps : List Addr} (h : Tabs H Ps) : Tabs H' Ps := fun P hP => g.2 P (h P hP)
theorem Gr.none {H : Hp} {a : Addr} {o : HO} (n : H a = Option.none) : Gr H (upd H a o) := Gr.of fun b u e => by
  rw [upd_ne (ne_of_none e n)]
  exact e
/-- tables stay where only lists and dicts are written -/
theorem tab_fr {H H' : Hp} (f : ∀ b o, (∀ xs, o ≠ HO.lst xs) → (∀ kvs, o ≠ HO.dK kvs) → H b = some o → H' b = some o) {P : Addr} (t : GzN.TabG H P) : GzN.TabG H' P := by
  obtain ⟨ps, e, z, n⟩ := t
  refine ⟨ps, f P _ (fun _ w => by cases w) (fun _ w => by cases w) e, z, n.mono (fun c Q h => f c _ (fun _ w => by unfold GzN.CodeK at w; cases w) (fun _ w => by unfold GzN.CodeK at w; cases w) h) fun Q hQ => ?_⟩
  obtain ⟨qs, e, t⟩ := hQ
  exact ⟨qs, f Q _ (fun _ w => by cases w) (fun _ w => by cases w) e, t⟩
namespace CwR
/-- behind it a token is out -/
def PEp (X : Cx) (e : Expr) (t : TE) : Prop := ∀ (pins : List (Addr × Obj)) (s : Shared) (σ : L2.St) (H : Hp) (Q : VK), Inv X pins σ H s → t σ H Q → wpAny (model X.prog X.w) X.A (eval e X.env) (fun u s' => 1 ≤ s'.toks ∧ EP X pins σ Q u s') X.xe s
theorem pep_ix {X : Cx} {a : Expr} {i : Int} {j : Nat} {p pos : Pos} {ta : TE} {r : R2} (hr : IxR X r) (ha : PE X a ta) (hs : PlainIx (.Constant (.int i) j p)) : PEp X (.Subscript a (.Constant (.int i) j p) pos) (tOp r ta (tC (.int i))) := by
  intro pins s σ H Q I h
  refine Subscript_ (thn (ha.run pins s σ H _ I h) fun v s1 ⟨x, H1, I1, r1, q1⟩ => wpAny_Constant_int ?_)
  refine wpAny_mono (PySem.wpAny_toks (hr a _ pins { s1 with toks := s1.toks + 1 } σ H1 x (.int i) v (.int i s1.toks) Q (I1.tok _) r1 ⟨_, rfl⟩ q1 (hs _ _))) (fun u s2 q => ⟨?_, q.2⟩) fun _ _ z => z.2
  have h1 : s1.toks + 1 ≤ s2.toks := q.1
  omega
theorem pep_repl {X : Cx} {o : Expr} {to : TE} {y z : Str} {j k : Nat} {c0 c1 apos pos : Pos} (ho : PEp X o to) (hyz : (y == z) = false := by decide)
    (hst : starEach [.Constant (.str y) j c0, .Constant (.str z) k c1] X.env = [(false, eval (.Constant (.str y) j c0) X.env), (false, eval (.Constant (.str z) k c1) X.env)] := by rfl)
    (hbase : attributeBase o "replace" X.env (eval o X.env) = eval o X.env := by rfl) (hline : (apos.endLine == pos.line) = true := by rfl) :
    PEp X (.Call (.Attribute o "replace" apos) [.Constant (.str y) j c0, .Constant (.str z) k c1] [] pos) (CwR.tReplC to y z) := by
  intro pins s σ H Q I h
  refine PySem.Call_method2 hbase hst hline (wpAny_mono (ho pins s σ H _ I h) (fun v s1 q => ?_) fun _ _ z => z)
  obtain ⟨hk, v', H1, I1, r1, x, e1, hb, q⟩ := q
  subst e1
  obtain ⟨tx, e2⟩ := r1
  subst e2
  refine ⟨"str", _, PySem.F.plainAttrs_str, PySem.F.slot_str_replace, PySem.F.type_str_replace, typeIs_str _ _ _, (fun _ e => nomatch e), Calls.callWith_builtin rfl (Calls.evalArgs_plain (Calls.spliced_cons ?_))⟩
  refine Calls.Constant_str (Calls.spliced_cons (Calls.Constant_str (Calls.spliced_nil ?_)))
  refine wpAny_mono (PySem.wpAny_toks (PySem.SC.replace (Q := fun u s' => EP X pins σ Q u s') (by show s1.toks ≠ 0; omega) (by show s1.toks + 1 ≠ 0; omega) (by show s1.toks ≠ s1.toks + 1; omega) hyz hb fun t' k => ⟨.str (Txt.replace x y z), H1, I1.tok k, ⟨t', rfl⟩, q⟩)) (fun u s2 q => ⟨?_, q.2⟩) fun _ _ z => z.2
  have h1 : s1.toks + 1 + 1 ≤ s2.toks := q.1
  omega
theorem pe_replP {X : Cx} {e : Expr} {t : TE} (h : PEp X e t) : PE X e t := ⟨fun pins s σ H Q I q => wpAny_mono (h pins s σ H Q I q) (fun _ _ z => z.2) fun _ _ z => z⟩
end CwR

/-! ### any(..) -/
section
variable {α : Type} {X : Cx} {A A' : Around} {s_0 : Shared} {H_0 : Hp} {cenv : Env} {fp : List Addr} {tn : Nat → Heap → Prop} {AC : α → List (Addr × Obj) → Prop} {End : α → Hp → Prop} {Yd : α → V → Hp → (α → Hp → Prop) → Prop} {ga : Addr} {gn n : Nat} {go : Obj}
/-- any(..) asks on -/
theorem any_gx {R : Result → Shared → Prop} {Stop : Hp → Prop} {End : Unit → Hp → Prop} (hh : A.handled = none) (hroom : A.depth < recursionLimit) (hG : GenObj go gn)
    (yes : ∀ (σ : L2.St) (H : Hp) (cp : List (Addr × Obj)) (s1 : Shared), Inv (gblk X A' s_0 H_0 cenv fp) cp σ H s1 → End () H → R (.ok (.ret (.bool false))) s1)
    (no : ∀ (σ : L2.St) (H : Hp) (cp : List (Addr × Obj)) (s1 : Shared), Inv (gblk X A' s_0 H_0 cenv fp) cp σ H s1 → Stop H → R (.ok (.ret (.bool true))) s1) :
    ∀ (n : Nat) (s : Shared), s.heap.NoLimit → s.heap.get? ga = some go → (∃ gs, s.gens[gn]? = some gs ∧ gs.Goes (model X.prog X.w) A.in1.in1 (RG (gblk X A' s_0 H_0 cenv fp) (fun _ cp => cp = [(ga, go)]) End)
      (YG (gblk X A' s_0 H_0 cenv fp) fp tn (fun _ cp => cp = [(ga, go)]) (fun _ y H Nx => ∃ b : Bool, y = .bl b ∧ if b = true then Stop H else Nx () H)) n (.send .none) (s.setGen gn .running)) →
      codeAny (model X.prog X.w) A (.builtin "any.loop" ⟨[.ref ga], []⟩) R s := by
  intro n
  induction n with
  | zero =>
    rintro s hl e ⟨gs, hgs, hgo⟩
    refine codeAny_builtin F.entry_any_loop ?_
    rw [Around.under_plainId F.plain_any_loop _]
    show wpAny _ A.in1 (pyNext (.ref ga) >>= _) _ _ s
    refine wpAny_bind (next_gx (A := A.in1) hh hroom hl hG e hgs hgo (fun a x σ H i cp Nx v s1 gs' r hac I st hy at_ kap => ?_) fun a σ H cp s1 hac I q => ?_)
    · obtain ⟨b, rfl, hb⟩ := hy
      cases (show v = Value.bool b from r)
      refine wpAny_bind (wpAny_holding (wpAny_truthy_bool ?_))
      refine wpAny_bind (wpAny_letGo ?_)
      cases b with
      | false =>
        obtain ⟨m, hm, _⟩ := kap () cp s1 (by simpa using hb) hac I st
        cases hm
      | true =>
        simp only [if_true] at hb ⊢
        exact wpAny_bind (wpAny_rule (wpAny_pure (no σ H cp s1 I hb)))
    · exact wpAny_bind (wpAny_rule (wpAny_pure (yes σ H cp s1 I q)))
  | succ n ih =>
    rintro s hl e ⟨gs, hgs, hgo⟩
    refine codeAny_builtin F.entry_any_loop ?_
    rw [Around.under_plainId F.plain_any_loop _]
    show wpAny _ A.in1 (pyNext (.ref ga) >>= _) _ _ s
    refine wpAny_bind (next_gx (A := A.in1) hh hroom hl hG e hgs hgo (fun a x σ H i cp Nx v s1 gs' r hac I st hy at_ kap => ?_) fun a σ H cp s1 hac I q => ?_)
    · obtain ⟨b, rfl, hb⟩ := hy
      cases (show v = Value.bool b from r)
      refine wpAny_bind (wpAny_holding (wpAny_truthy_bool ?_))
      refine wpAny_bind (wpAny_letGo ?_)
      cases b with
      | false =>
        simp only [Bool.false_eq_true, if_false] at hb ⊢
        subst hac
        refine wpAny_pure ⟨plainId_quiet F.plain_any_loop _, ih s1 I.nolimit (I.pin (ga, go) (List.mem_append_right _ List.mem_cons_self)).1 ⟨gs', at_, ?_⟩⟩
        obtain ⟨m, hm, z⟩ := kap () [(ga, go)] (s1.setGen gn .running) hb rfl (inv_moved I rfl (allBare_setGen I.bare rfl) fun _ _ q => q) st
        cases hm
        exact z
      | true =>
        simp only [if_true] at hb ⊢
        exact wpAny_bind (wpAny_rule (wpAny_pure (no σ H cp s1 I hb)))
    · exact wpAny_bind (wpAny_rule (wpAny_pure (yes σ H cp s1 I q)))
end
section
variable {X : Cx}
/-- any(elt for tg in iter ..) -/
def tAnyX (P : Addr) (wi : TI) (g : TG) (tt : TT) (te : TE) (vs : List Nat) : TE := fun σ H Q => wi σ H fun J H1 => GzN.TabG H1 P ∧ ∀ H2, GzN.Tabbed P H1 H2 → ∃ W : Nat → Nat → Unit → Hp → Prop, (∃ m, W 0 m () H2) ∧
  tGx J g tt te (wipe σ vs) vs (fun _ H => Q (.bl false) H) (fun _ y H Nx => ∃ b : Bool, y = .bl b ∧ if b = true then Q (.bl true) H else Nx () H) W
theorem pe_anyX {c P : Addr} {elt tg iter : Expr} {ifs : List Expr} {p pos gpos : Pos} {scope : Scope} {own : List (Str × Nat)} {wi : TI} {g : TG} {tt : TT} {te : TE} {k : Nat}
    (hr : Room (k + 1) X.A) (hc : X.calm = true) (hN : X.N.Nodup) (hgl : Gl X "any") (hm : X.mg "any" = none) (hb : bootBuiltins "any" = some (.builtin "any")) (TB : GxR.TabB X.base X.mg c P) (hcode : X.env.code = .ref c)
    (hco : scope.isCoroutine = false) (hdot : scope.names.lookup (".0" : Str) = some NameKind.local) (ok : BlkOk X.N X.env.scope scope own) (hi : PI X tg iter wi)
    (hg : ∀ (A' : Around) (s : Shared) (H : Hp) (C : Addr) (cl : List (Str × Addr)) (c' P' : Addr) (fp : List Addr), Room k A' → A'.guards = X.A.guards → PG (gblk X A' s H (GzN.envN scope cl C (.ref c') builtinsNs X.env) fp) tg g)
    (ht : ∀ (A' : Around) (s : Shared) (H : Hp) (C : Addr) (cl : List (Str × Addr)) (c' P' : Addr) (fp : List Addr), Room k A' → A'.guards = X.A.guards → PTs (gblk X A' s H (GzN.envN scope cl C (.ref c') builtinsNs X.env) fp) ifs tt)
    (he : ∀ (A' : Around) (s : Shared) (H : Hp) (C : Addr) (cl : List (Str × Addr)) (c' P' : Addr) (fp : List Addr), Room k A' → A'.guards = X.A.guards → PE (gblk X A' s H (GzN.envN scope cl C (.ref c') builtinsNs X.env) fp) elt te)
    (hs : ∀ v, genFold iter X.env v = pure v)
    (hst : starEach [.GeneratorExp elt [⟨tg, iter, ifs, 0⟩] scope gpos] X.env = (false, eval (.GeneratorExp elt [⟨tg, iter, ifs, 0⟩] scope gpos) X.env) :: starEach [] X.env := by rfl) :
    PE X (.Call (.Name "any" p) [.GeneratorExp elt [⟨tg, iter, ifs, 0⟩] scope gpos] [] pos) (tAnyX P wi g tt te (own.map (·.2))) := by
  refine ⟨fun pins s σ H Q I h => ?_⟩
  refine wpAny_Call_Name_kw (ld_blt I hgl hm hb ?_)
  refine PyProof.Rows.callWith_builtin1 ?_ hst (by rfl)
  rw [hst]
  show wpAny _ _ (spliced ((false, eval (.GeneratorExp elt [⟨tg, iter, ifs, 0⟩] scope gpos) X.env) :: backTo pos (starEach [] X.env))) _ _ s
  refine Calls.spliced_cons (GzN.gx_makeN (tt := fun _ _ => tt) (te := fun _ _ => te) (A := X.A.in1.in1) hr ⟨rfl, rfl, rfl, rfl, (by show X.A.units + 1 + 1 ≤ _; omega)⟩ hc hN TB hcode hco hdot ok hi hg ht he hs I h fun J H1 H2 u s5 _ _ hR hT _ _ hG => ?_)
  obtain ⟨A', s_0, H_0, cenv, fp, ga, gn, go, tn, gs, rfl, hGO, hgs, hbare, I5, st5, nf, hlt, keep, back, goes⟩ := hG
  obtain ⟨W, ⟨m, w0⟩, turn⟩ := hR H2 hT
  refine Calls.spliced_nil ?_
  have pin5 := (I5.pin (ga, go) (List.mem_append_right _ List.mem_cons_self)).1
  refine call_function_tree F.kind_any F.plain_any F.entry_any (F.args_any1 _) ?_
  unfold Builtin.«any»
  refine wpAny_bind (m := oneArg "any" _) (wpAny_pure ?_)
  refine wpAny_bind (wpAny_pyIter_gen (hGO.isGen pin5) ?_)
  refine wpAny_pure ⟨plainId_quiet F.plain_any_loop _, any_gx (A' := A') (s_0 := s_0) (H_0 := H_0) (cenv := cenv) (fp := fp) (tn := tn) (go := go) (gn := gn) (Stop := fun H => Q (.bl true) H) (End := fun _ H => Q (.bl false) H) hr.hd hr.depth hGO
    (fun σ' H' cp s1 I1 q => ⟨.bl false, H', back _ _ _ _ I1, rfl, q⟩) (fun σ' H' cp s1 I1 q => ⟨.bl true, H', back _ _ _ _ I1, rfl, q⟩) (m + 1) s5 I5.nolimit pin5 ⟨gs, hgs, ?_⟩⟩
  refine goes Unit _ _ _ W m (m + 1) () [(ga, go)] _ turn w0 (Nat.lt_succ_self _) (fun a cp hac p hp b hb z => ?_) rfl (inv_moved I5 rfl (allBare_setGen I5.bare rfl) fun _ _ q => q) st5
  subst hac
  have e : p = (ga, go) := by simpa using hp
  subst e
  exact absurd (hlt b hb) (by rw [← z]; exact Nat.lt_irrefl _)
end

section
variable {X : Cx}
def tAnyD (c P : Addr) (wi : TI) (g : TG) (tt : TT) (te : TE) (vs : List Nat) : TE := fun σ H Q => wi σ H fun J H1 => (H1 c = some (GzN.CodeK c P) ∧ «GxR».TabG H1 P) ∧ ∀ H2, GzN.TabbedD P H1 H2 → ∃ W : Nat → Nat → Unit → Hp → Prop, (∃ m, W 0 m () H2) ∧
  tGx J g tt te (wipe σ vs) vs (fun _ H => Q (.bl false) H) (fun _ y H Nx => ∃ b : Bool, y = .bl b ∧ if b = true then Q (.bl true) H else Nx () H) W
theorem pe_anyD {c P c0 P0 : Addr} {elt tg iter : Expr} {ifs : List Expr} {p pos gpos : Pos} {scope : Scope} {own : List (Str × Nat)} {wi : TI} {g : TG} {tt : TT} {te : TE} {k : Nat}
    (hr : Room (k + 1) X.A) (hc : X.calm = true) (hN : X.N.Nodup) (hgl : Gl X "any") (hm : X.mg "any" = none) (hb : bootBuiltins "any" = some (.builtin "any")) (TB : GxR.TabB X.base X.mg c0 P0) (hcode : X.env.code = .ref c)
    (hco : scope.isCoroutine = false) (hdot : scope.names.lookup (".0" : Str) = some NameKind.local) (ok : BlkOk X.N X.env.scope scope own) (hi : PI X tg iter wi)
    (hg : ∀ (A' : Around) (s : Shared) (H : Hp) (C : Addr) (cl : List (Str × Addr)) (code : Value) (fp : List Addr), Room k A' → A'.guards = X.A.guards → PG (gblk X A' s H (GzN.envN scope cl C code builtinsNs X.env) fp) tg g)
    (ht : ∀ (A' : Around) (s : Shared) (H : Hp) (C : Addr) (cl : List (Str × Addr)) (code : Value) (fp : List Addr), Room k A' → A'.guards = X.A.guards → PTs (gblk X A' s H (GzN.envN scope cl C code builtinsNs X.env) fp) ifs tt)
    (he : ∀ (A' : Around) (s : Shared) (H : Hp) (C : Addr) (cl : List (Str × Addr)) (code : Value) (fp : List Addr), Room k A' → A'.guards = X.A.guards → PE (gblk X A' s H (GzN.envN scope cl C code builtinsNs X.env) fp) elt te)
    (hs : ∀ v, genFold iter X.env v = pure v)
    (hst : starEach [.GeneratorExp elt [⟨tg, iter, ifs, 0⟩] scope gpos] X.env = (false, eval (.GeneratorExp elt [⟨tg, iter, ifs, 0⟩] scope gpos) X.env) :: starEach [] X.env := by rfl) :
    PE X (.Call (.Name "any" p) [.GeneratorExp elt [⟨tg, iter, ifs, 0⟩] scope gpos] [] pos) (tAnyD c P wi g tt te (own.map (·.2))) := by
  refine ⟨fun pins s σ H Q I h => ?_⟩
  refine wpAny_Call_Name_kw (ld_blt I hgl hm hb ?_)
  refine PyProof.Rows.callWith_builtin1 ?_ hst (by rfl)
  rw [hst]
  show wpAny _ _ (spliced ((false, eval (.GeneratorExp elt [⟨tg, iter, ifs, 0⟩] scope gpos) X.env) :: backTo pos (starEach [] X.env))) _ _ s
  refine Calls.spliced_cons (GzN.gx_makeD (A := X.A.in1.in1) hr ⟨rfl, rfl, rfl, rfl, (by show X.A.units + 1 + 1 ≤ _; omega)⟩ hc hN TB hcode hco hdot ok hi hg ht he hs I h fun J H1 H2 u s5 hR hT hG => ?_)
  obtain ⟨A', s_0, H_0, cenv, fp, ga, gn, go, tn, gs, rfl, hGO, hgs, hbare, I5, st5, nf, hlt, keep, back, goes⟩ := hG
  obtain ⟨W, ⟨m, w0⟩, turn⟩ := hR H2 hT
  refine Calls.spliced_nil ?_
  have pin5 := (I5.pin (ga, go) (List.mem_append_right _ List.mem_cons_self)).1
  refine call_function_tree F.kind_any F.plain_any F.entry_any (F.args_any1 _) ?_
  unfold Builtin.«any»
  refine wpAny_bind (m := oneArg "any" _) (wpAny_pure ?_)
  refine wpAny_bind (wpAny_pyIter_gen (hGO.isGen pin5) ?_)
  refine wpAny_pure ⟨plainId_quiet F.plain_any_loop _, any_gx (A' := A') (s_0 := s_0) (H_0 := H_0) (cenv := cenv) (fp := fp) (tn := tn) (go := go) (gn := gn) (Stop := fun H => Q (.bl true) H) (End := fun _ H => Q (.bl false) H) hr.hd hr.depth hGO
    (fun σ' H' cp s1 I1 q => ⟨.bl false, H', back _ _ _ _ I1, rfl, q⟩) (fun σ' H' cp s1 I1 q => ⟨.bl true, H', back _ _ _ _ I1, rfl, q⟩) (m + 1) s5 I5.nolimit pin5 ⟨gs, hgs, ?_⟩⟩
  refine goes Unit _ _ _ W m (m + 1) () [(ga, go)] _ turn w0 (Nat.lt_succ_self _) (fun a cp hac p hp b hb z => ?_) rfl (inv_moved I5 rfl (allBare_setGen I5.bare rfl) fun _ _ q => q) st5
  subst hac
  have e : p = (ga, go) := by simpa using hp
  subst e
  exact absurd (hlt b hb) (by rw [← z]; exact Nat.lt_irrefl _)
end

/-! ### sep.join(elt for tg in iter ..) -/
namespace GxJ
open PySem PySem.Spec PyProof.Rows L2 Builtin Builtin.Str
section
variable {X : Cx}
def tJoinX (P : Addr) (to : TE) (wi : TI) (g : TG) (tt : TT) (te : TE) (vs : List Nat) : TE := fun σ H Q => to σ H fun v H0 => ∃ sep : PySem.Str, v = .str sep ∧ wi σ H0 fun J H1 => GzN.TabG H1 P ∧ ∀ H2, GzN.Tabbed P H1 H2 → ∃ W : Nat → Nat → List V → Hp → Prop, (∃ m, W 0 m [] H2) ∧
  tGx J g tt te (wipe σ vs) vs (fun ys H => ∃ ws : List PySem.Str, ys = ws.map V.str ∧ JoinOk sep ws = true ∧ Q (.str (Txt.join sep ws)) H) YdL W
theorem l_strs : ∀ {ws : List PySem.Str} {us : List Value}, Vals (ws.map V.str) us → ∃ l : List (PySem.Str × Tok), strValues l = us ∧ l.map (·.1) = ws
  | [], _, .nil => ⟨[], rfl, rfl⟩
  | y :: ys, _, .cons r t => by
    obtain ⟨k, rfl⟩ := r
    obtain ⟨l, rfl, e⟩ := l_strs t
    exact ⟨(y, k) :: l, rfl, by rw [List.map_cons, e]⟩
theorem pe_joinX {c P : Addr} {o elt tg iter : Expr} {ifs : List Expr} {apos cpos gpos : Pos} {scope : Scope} {own : List (PySem.Str × Nat)} {to : TE} {wi : TI} {g : TG} {tt : TT} {te : TE} {k : Nat}
    (hr : Room (k + 1) X.A) (hc : X.calm = true) (hN : X.N.Nodup) (ho : PE X o to) (TB : GxR.TabB X.base X.mg c P) (hcode : X.env.code = .ref c)
    (hco : scope.isCoroutine = false) (hdot : scope.names.lookup (".0" : PySem.Str) = some NameKind.local) (ok : BlkOk X.N X.env.scope scope own) (hi : PI X tg iter wi)
    (hg : ∀ (A' : Around) (s : Shared) (H : Hp) (C : Addr) (cl : List (PySem.Str × Addr)) (c' P' : Addr) (fp : List Addr), Room k A' → A'.guards = X.A.guards → PG (gblk X A' s H (GzN.envN scope cl C (.ref c') builtinsNs X.env) fp) tg g)
    (ht : ∀ (A' : Around) (s : Shared) (H : Hp) (C : Addr) (cl : List (PySem.Str × Addr)) (c' P' : Addr) (fp : List Addr), Room k A' → A'.guards = X.A.guards → PTs (gblk X A' s H (GzN.envN scope cl C (.ref c') builtinsNs X.env) fp) ifs tt)
    (he : ∀ (A' : Around) (s : Shared) (H : Hp) (C : Addr) (cl : List (PySem.Str × Addr)) (c' P' : Addr) (fp : List Addr), Room k A' → A'.guards = X.A.guards → PE (gblk X A' s H (GzN.envN scope cl C (.ref c') builtinsNs X.env) fp) elt te)
    (hs : ∀ v, genFold iter X.env v = pure v) (hbase : attributeBase o "join" X.env (eval o X.env) = eval o X.env := by rfl)
    (hfew : ((backTo cpos (starEach [.GeneratorExp elt [⟨tg, iter, ifs, 0⟩] scope gpos] X.env)).all (fun x => !x.1) && (backToKw cpos (keywordEach [] X.env)).all (fun x => x.1.isSome)
      && decide (([.GeneratorExp elt [⟨tg, iter, ifs, 0⟩] scope gpos] : List Expr).length + ([] : List Keyword).length + (if ([] : List Keyword).isEmpty then 0 else 1) < 30)) = true := by rfl)
    (hline : (apos.endLine == cpos.line) = true := by rfl)
    (hst : starEach [.GeneratorExp elt [⟨tg, iter, ifs, 0⟩] scope gpos] X.env = (false, eval (.GeneratorExp elt [⟨tg, iter, ifs, 0⟩] scope gpos) X.env) :: starEach [] X.env := by rfl)
    (hplain : (backTo cpos (starEach [] X.env)).any (·.1) = false := by rfl) :
    PE X (.Call (.Attribute o "join" apos) [.GeneratorExp elt [⟨tg, iter, ifs, 0⟩] scope gpos] [] cpos) (tJoinX P to wi g tt te (own.map (·.2))) := by
  refine ⟨fun pins s σ H Q I h => ?_⟩
  refine wpAny_Call_method_late hbase hfew hline rfl (thn (ho.run pins s σ H _ I h) fun v s1 ⟨x', H1, I1, r1, sep, ex, q1⟩ => ?_)
  subst ex
  obtain ⟨tk, rfl⟩ := (show ∃ t, v = Value.str sep t from r1)
  refine ⟨"str", _, PySem.F.plainAttrs_str, PySem.F.slot_str_join, PySem.F.type_str_join, typeIs_str _ _ _, (fun _ e => nomatch e), ?_⟩
  rw [hst]
  refine Calls.callWith_builtin (by show (false || (backTo cpos (starEach [] X.env)).any (·.1)) = false; rw [hplain] <;> rfl) (Calls.evalArgs_plain ?_)
  show wpAny _ _ (spliced ((false, eval (.GeneratorExp elt [⟨tg, iter, ifs, 0⟩] scope gpos) X.env) :: backTo cpos (starEach [] X.env))) _ _ s1
  refine Calls.spliced_cons (GzN.gx_makeN (tt := fun _ _ => tt) (te := fun _ _ => te) (A := X.A.in1.in1.in1) hr ⟨rfl, rfl, rfl, rfl, (by show X.A.units + 1 + 1 + 1 ≤ _; omega)⟩ hc hN TB hcode hco hdot ok hi hg ht he hs I1 q1 fun J H2 H3 u s5 _ _ hR hT _ _ hG => ?_)
  obtain ⟨W, ⟨m, w0⟩, turn⟩ := hR H3 hT
  refine Calls.spliced_nil ?_
  have ⟨A', s_0, H_0, cenv, fp, ga, gn, go, tn, gs, eu, hGO, hgs, hbare, I5, st5, nf, hlt, keep, back, goes⟩ := hG
  have pin5 := (I5.pin (ga, go) (List.mem_append_right _ List.mem_cons_self)).1
  rw [eu] at hG ⊢
  have hTI : s5.TypeIs (.ref ga) "generator" := (hGO.isGen pin5).typeIs
  refine wpAny_call (codeAny_call_builtin F.slot_str_join.plain F.entry_str_join (F.slot_str_join.check _ _ _ _ _ _ _ _ (typeIs_str _ _ _) (F.args_str_join_2 _ _) ?_))
  show wpAny _ X.A.in1 («str.join» ⟨[.str sep tk, .ref ga], []⟩) _ _ s5
  rw [join_tree_other]
  refine wpAny_bind (wpAny_typeOf hTI ?_)
  show wpAny _ X.A.in1 ((pyIter (.ref ga)).tryCatch _ >>= fun it => collect it >>= fun items => joinTail sep items) _ _ s5
  refine wpAny_bind (wpAny_tryCatch (wpAny_pyIter_gen (hGO.isGen pin5) ?_))
  refine wpAny_bind (collect_gx (A := X.A.in1) hr.hd hr.depth hG w0 turn (fun s' acc ys H' I' rv q => ?_))
  obtain ⟨ws, rfl, hok, hq⟩ := q
  obtain ⟨l, hl, el⟩ := l_strs rv
  rw [← hl]
  subst el
  unfold JoinOk at hok
  rw [Bool.not_eq_true'] at hok
  have gj : Gives (joinTail sep (strValues l)) (joinMade sep l) := by
    have g0 := gives_joinTail sep l hok
    cases l with
    | nil => exact g0
    | cons p r => cases r with
      | nil => exact g0
      | cons q r' => exact g0
  exact gj X.prog X.w X.A (wants _ _) s' (post_join l ⟨joinFit_length hok, fun t' k' => ⟨.str _, H', I'.tok k', ⟨t', rfl⟩, hq⟩⟩)
end
end GxJ

/-! ### heaps -/
theorem same_upd {H : Hp} {p : Addr} {o : HO} (h : H p = none) : Same H (upd H p o) := fun b x e => by
  rw [upd_ne (ne_of_none e h)]
  exact e
def Fr (d l : Addr) (H H' : Hp) : Prop := ∀ b o, b ≠ d → b ≠ l → H b = some o → H' b = some o
theorem Fr.trans {d l : Addr} {H H1 H2 : Hp} (a : Fr d l H H1) (b : Fr d l H1 H2) : Fr d l H H2 := fun c o h1 h2 h => b c o h1 h2 (a c o h1 h2 h)
theorem Fr.refl {d l : Addr} {H : Hp} : Fr d l H H := fun _ _ _ _ h => h
theorem Fr.new {d l p : Addr} {H : Hp} {o : HO} (h : H p = none) : Fr d l H (upd H p o) := fun b x _ _ e => same_upd h b x e
theorem Fr.of {d l : Addr} {H H' : Hp} (h : Same H H') : Fr d l H H' := fun b x _ _ e => h b x e
theorem Fr.d {d l : Addr} {H : Hp} {o : HO} : Fr d l H (upd H d o) := fun b x h1 _ e => by rw [upd_ne h1]; exact e
theorem Fr.l {d l : Addr} {H : Hp} {o : HO} : Fr d l H (upd H l o) := fun b x _ h2 e => by rw [upd_ne h2]; exact e
def Deck (H : Hp) (d l : Addr) : Prop := d ≠ l ∧ ∃ (cs : List Int) (z : Int), H d = some (.lst [.ref l, .int z]) ∧ H l = some (.lst (cs.map V.int)) ∧ cs.length ≤ 63 ∧ 0 ≤ z ∧ z < 4294967296
theorem Deck.same {H H' : Hp} {d l : Addr} (D : Deck H d l) (s : Same H H') : Deck H' d l := by
  obtain ⟨ne, cs, z, hd, hl, r⟩ := D
  exact ⟨ne, cs, z, s _ _ hd, s _ _ hl, r⟩
theorem Deck.new {H : Hp} {d l p : Addr} {o : HO} (D : Deck H d l) (h : H p = none) : Deck (upd H p o) d l := D.same (same_upd h)
theorem Deck.ne_new {H : Hp} {d l p : Addr} (D : Deck H d l) (h : H p = none) : p ≠ d ∧ p ≠ l := by
  obtain ⟨ne, cs, z, hd, hl, r⟩ := D
  exact ⟨(ne_of_none hd h).symm, (ne_of_none hl h).symm⟩
theorem p29 : (0 : Int) < 2147483629 := by decide
theorem p47 : (0 : Int) < 2147483647 := by decide
theorem p87 : (0 : Int) < 2147483587 := by decide
theorem sl1 : 1 ≤ sizeLine := by decide
theorem sl2 : 2 ≤ sizeLine := by decide
theorem sl3 : 3 ≤ sizeLine := by decide
theorem sl4 : 4 ≤ sizeLine := by decide
theorem seqIx0 {α : Type} (x : α) (xs : List α) : seqIndex? 0 (x :: xs).length = some 0 := by
  refine (ixN_seq (n := (x :: xs).length) (i := 0) (j := 0) ?_).1
  unfold ixN
  rw [if_pos (by decide), if_pos (by rw [List.length_cons]; omega)]
  rfl
theorem dpInts {K : PySem.W.Frag} {H : Hp} : ∀ cs : List Int, DpAll K H (cs.map V.int) (cs.map PyData.int)
  | [] => .nil
  | c :: r => .cons (.int c) (dpInts r)
theorem shInts (ns : List Int) : SeqAt.shaped (.list (ns.map PyData.int)) = true := by
  unfold SeqAt.shaped
  rw [Bool.and_eq_true]
  refine ⟨?_, ?_⟩
  · simp only [PyData.canLay0, canLayAll_ints]
  · simp only [PyData.depth, depthAll_ints]
    decide
theorem at_pick {xs : List V} {j : Int} (h0 : 0 ≤ j) (h1 : j < xs.length) : ∃ x, atI xs j = some x ∧ x ∈ xs := by
  obtain ⟨k, rfl⟩ : ∃ k : Nat, j = (k : Int) := ⟨j.toNat, (Int.toNat_of_nonneg h0).symm⟩
  have hk : k < xs.length := by omega
  exact ⟨xs[k], atI_nat (List.getElem?_eq_getElem hk), List.getElem_mem hk⟩
theorem units65 {k : Nat} {A : Around} (r : Room k A) : A.units + 65 < cLine := by have := r.un; omega
def rLenK (K : PySem.W.Frag) : List V → Hp → VK → Prop := fun xs H Q => ∃ p ys, xs = [.ref p] ∧ (SqL K H p ys ∨ SqT K H p ys) ∧ Q (.int ys.length) H
def rTupK (K : PySem.W.Frag) : List V → Hp → VK → Prop := fun xs H Q => ∃ p ys, xs = [.ref p] ∧ ((SqL K H p ys ∧ ∀ l, H l = none → Q (.ref l) (upd H l (.tup ys))) ∨ (SqT K H p ys ∧ Q (.ref p) H))
def rLstK (K : PySem.W.Frag) : List V → Hp → VK → Prop := fun xs H Q => ∃ p ys, xs = [.ref p] ∧ (SqL K H p ys ∨ SqT K H p ys) ∧ ∀ l, H l = none → Q (.ref l) (upd H l (.lst ys))
/-- joining ways behind a test, behind an expression -/
def tCutT (t : TT) : TT := fun σ H Q => ∃ Mid : Bool → Hp → Prop, t σ H Mid ∧ ∀ b H1, Mid b H1 → Q b H1
theorem pt_cut {X : Cx} {e : Expr} {t : TT} (h : PT X e t) : PT X e (tCutT t) := ⟨fun pins s σ H Q I hw => by
  obtain ⟨Mid, h1, q⟩ := hw
  exact thn (h.run pins s σ H _ I h1) fun c s1 ⟨H1, I1, m⟩ => ⟨H1, I1, q _ _ m⟩⟩
def tCutE (t : TE) : TE := fun σ H Q => ∃ Mid : VK, t σ H Mid ∧ ∀ v H1, Mid v H1 → Q v H1
theorem pe_cut {X : Cx} {e : Expr} {t : TE} (h : PE X e t) : PE X e (tCutE t) := ⟨fun pins s σ H Q I hw => by
  obtain ⟨Mid, h1, q⟩ := hw
  exact thn (h.run pins s σ H _ I h1) fun u s1 ⟨v, H1, I1, r, m⟩ => ⟨v, H1, I1, r, q _ _ m⟩⟩

/-! ### data made by the law or the program: numbers, truths, texts, lists and tuples of these -/
mutual
inductive Tk (H : Hp) : V → PyData → Prop
  | bl (b : Bool) : Tk H (.bl b) (.bool b)
  | int (i : Int) : Tk H (.int i) (.int i)
  | str (x : Str) : Tk H (.str x) (.str x)
  | lst {a : Addr} {xs : List V} {ds : List PyData} : H a = some (.lst xs) → TkAll H xs ds → Tk H (.ref a) (.list ds)
  | tup {a : Addr} {xs : List V} {ds : List PyData} : H a = some (.tup xs) → TkAll H xs ds → Tk H (.ref a) (.tuple ds)
inductive TkAll (H : Hp) : List V → List PyData → Prop
  | nil : TkAll H [] []
  | cons {v : V} {vs : List V} {d : PyData} {ds : List PyData} : Tk H v d → TkAll H vs ds → TkAll H (v :: vs) (d :: ds)
end
theorem TkAll.length {H : Hp} : ∀ {vs : List V} {ds : List PyData}, TkAll H vs ds → vs.length = ds.length
  | _, _, .nil => rfl
  | _, _, .cons _ t => by rw [List.length_cons, List.length_cons, t.length]
mutual
theorem Tk.same {H H' : Hp} (s : Same H H') : ∀ {v : V} {d : PyData}, Tk H v d → Tk H' v d
  | _, _, .bl b => .bl b
  | _, _, .int i => .int i
  | _, _, .str x => .str x
  | _, _, .lst h t => .lst (s _ _ h) (t.same s)
  | _, _, .tup h t => .tup (s _ _ h) (t.same s)
theorem TkAll.same {H H' : Hp} (s : Same H H') : ∀ {vs : List V} {ds : List PyData}, TkAll H vs ds → TkAll H' vs ds
  | _, _, .nil => .nil
  | _, _, .cons h t => .cons (h.same s) (t.same s)
end
theorem TkAll.get {H : Hp} : ∀ {xs : List V} {ds : List PyData} {j : Nat} {x : V}, TkAll H xs ds → xs[j]? = some x → ∃ d, ds[j]? = some d ∧ Tk H x d
  | _, _, _, _, .nil, h => by simp at h
  | _, _, 0, _, .cons (d := d) a _, h => by
    cases (Option.some.inj h)
    exact ⟨d, rfl, a⟩
  | _, _, j + 1, _, .cons _ t, h => t.get h
theorem TkAll.append {H : Hp} : ∀ {xs ys : List V} {ds es : List PyData}, TkAll H xs ds → TkAll H ys es → TkAll H (xs ++ ys) (ds ++ es)
  | _, _, _, _, .nil, t => t
  | _, _, _, _, .cons a r, t => .cons a (r.append t)
theorem TkAll.ints {H : Hp} : ∀ ns : List Int, TkAll H (ns.map V.int) (ns.map PyData.int)
  | [] => .nil
  | n :: r => .cons (.int n) (TkAll.ints r)
theorem Tk.int_inv {H : Hp} {v : V} {i : Int} (h : Tk H v (.int i)) : v = .int i := by cases h; rfl
theorem Tk.tup_inv {H : Hp} {v : V} {ds : List PyData} (h : Tk H v (.tuple ds)) : ∃ a xs, v = .ref a ∧ H a = some (.tup xs) ∧ TkAll H xs ds := by
  cases h with
  | tup h t => exact ⟨_, _, rfl, h, t⟩
theorem Tk.lst_inv {H : Hp} {v : V} {ds : List PyData} (h : Tk H v (.list ds)) : ∃ a xs, v = .ref a ∧ H a = some (.lst xs) ∧ TkAll H xs ds := by
  cases h with
  | lst h t => exact ⟨_, _, rfl, h, t⟩
theorem TkAll.int_inv {H : Hp} : ∀ {vs : List V} {ns : List Int}, TkAll H vs (ns.map PyData.int) → vs = ns.map V.int
  | _, [], .nil => rfl
  | _, n :: r, .cons h t => by rw [List.map_cons, h.int_inv, t.int_inv]
/-- heaps without one place -/
def hd1 (p : Addr) (H : Hp) : Hp := fun b => if b = p then none else H b
theorem hd1_le {p : Addr} {H : Hp} : Same (hd1 p H) H := fun b o e => by
  unfold hd1 at e
  by_cases h : b = p
  · rw [if_pos h] at e; cases e
  · rw [if_neg h] at e; exact e
theorem hd1_same {p : Addr} {H H' : Hp} (s : Same H H') : Same (hd1 p H) (hd1 p H') := fun b o e => by
  unfold hd1 at e ⊢
  by_cases h : b = p
  · rw [if_pos h] at e; cases e
  · rw [if_neg h] at e ⊢; exact s _ _ e
theorem hd1_upd {p : Addr} {H : Hp} {o : HO} : Same (hd1 p H) (hd1 p (upd H p o)) := fun b x e => by
  unfold hd1 at e ⊢
  by_cases h : b = p
  · rw [if_pos h] at e; cases e
  · rw [if_neg h] at e ⊢; rw [upd_ne h]; exact e
theorem hd1_at {p b : Addr} {H : Hp} (h : b ≠ p) : hd1 p H b = H b := if_neg h
theorem hd1_of {p : Addr} {H H' : Hp} (s : Same H H') (n : H p = none) : Same H (hd1 p H') := fun b o e => by
  rw [hd1_at (ne_of_none e n)]
  exact s _ _ e
theorem same_of_hd1 {p : Addr} {H H' : Hp} {o : HO} (s : Same H (hd1 p H')) : Same H (upd H' p o) := fun b x e => by
  have z := s b x e
  unfold hd1 at z
  by_cases h : b = p
  · rw [if_pos h] at z; cases z
  · rw [if_neg h] at z; rw [upd_ne h]; exact z

/-! ### tables and gates -/
def tabOf (bs : List Bool) : Str := ⟨(bs.map fun b => if b = true then 49 else 48).toArray⟩
def plc (ws : List Int) : Int := ws.foldl (fun p w => 2 * p + w) 0
def gateM (bs : List Bool) (ws : List Int) : Int := if bs.getD (plc ws).toNat false = true then 1 else 0
theorem plc_snoc (ws : List Int) (w : Int) : plc (ws ++ [w]) = 2 * plc ws + w := by
  unfold plc
  rw [List.foldl_append]
  rfl
theorem plc_take {ws : List Int} {i : Nat} {u : Int} (h : ws[i]? = some u) : plc (ws.take (i + 1)) = 2 * plc (ws.take i) + u := by
  rw [List.take_add_one, h]
  exact plc_snoc _ _
theorem plc_bd : ∀ (n : Nat) (ws : List Int), ws.length = n → (∀ w ∈ ws, w = 0 ∨ w = 1) → 0 ≤ plc ws ∧ plc ws < 2 ^ n := by
  intro n
  induction n with
  | zero =>
    intro ws h _
    cases List.eq_nil_of_length_eq_zero h
    decide
  | succ n ih =>
    intro ws h hw
    have hne : ws ≠ [] := fun z => by rw [z] at h; cases h
    obtain ⟨r, x, rfl⟩ : ∃ r x, ws = r ++ [x] := ⟨ws.dropLast, ws.getLast hne, (List.dropLast_concat_getLast hne).symm⟩
    have hr := ih r (by rw [List.length_append] at h; simpa using h) fun w h' => hw w (List.mem_append_left _ h')
    have hx := hw x (by simp)
    rw [plc_snoc, Int.pow_succ]
    omega
theorem gate01 (bs : List Bool) (ws : List Int) : gateM bs ws = 0 ∨ gateM bs ws = 1 := by
  unfold gateM
  split
  · exact .inr rfl
  · exact .inl rfl
theorem int_sign (b : Bool) : PySem.intText? ⟨#[if b = true then 49 else 48]⟩ = some (if b = true then 1 else 0) := by
  cases b <;> decide +kernel
def spGate (K : PySem.W.Frag) : Sp := fun vs H Q _ => ∃ (bs : List Bool) (la : Addr) (ws : List Int), vs = [.str (tabOf bs), .ref la] ∧ SqL K H la (ws.map V.int) ∧ (∀ w ∈ ws, w = 0 ∨ w = 1) ∧ bs.length = 2 ^ ws.length ∧ ws.length ≤ 3 ∧ Q (.int (gateM bs ws)) H
theorem gate_read {bs : List Bool} {ws : List Int} (hw : ∀ w ∈ ws, w = 0 ∨ w = 1) (hb : bs.length = 2 ^ ws.length) (h3 : ws.length ≤ 3) : ∃ b : Bool, 0 ≤ plc ws ∧ plc ws < 2 ^ 63 ∧ plc ws < (tabOf bs).length ∧ (tabOf bs).cps[(plc ws).toNat]? = some (if b = true then 49 else 48) ∧ gateM bs ws = if b = true then 1 else 0 := by
  obtain ⟨p0, p1⟩ := plc_bd _ ws rfl hw
  have p8 : plc ws < 8 := by
    have : (2 : Int) ^ ws.length ≤ 8 := by
      have : ws.length = 0 ∨ ws.length = 1 ∨ ws.length = 2 ∨ ws.length = 3 := by omega
      rcases this with h | h | h | h <;> rw [h] <;> decide
    omega
  have hlt : (plc ws).toNat < bs.length := by
    have : ((2 ^ ws.length : Nat) : Int) = (2 : Int) ^ ws.length := by simp
    omega
  refine ⟨bs[(plc ws).toNat], p0, by omega, ?_, ?_, ?_⟩
  · have : (tabOf bs).length = bs.length := by simp [tabOf, Str.length]
    rw [this]
    omega
  · simp [tabOf, List.getElem?_eq_getElem hlt]
  · unfold gateM
    rw [List.getD_eq_getElem?_getD, List.getElem?_eq_getElem hlt]
    rfl

/-! ### walks -/
theorem gx_tup {α : Type} {K : PySem.W.Frag} {a : Addr} {xs : List V} {g : TG} {tt : TT} {te : TE} {vs : List Nat} {σ0 : L2.St} {End : α → Hp → Prop} {Yd : α → V → Hp → (α → Hp → Prop) → Prop} {a0 : α} {H0 : Hp} (Pv : Nat → α → Hp → Prop) (h0 : Pv 0 a0 H0)
    (hl : ∀ i c H, i ≤ xs.length → Pv i c H → SqT K H a xs)
    (hs : ∀ i x c H, xs[i]? = some x → Pv i c H → g x σ0 H fun σ2 H2 => wipe σ2 vs = σ0 ∧ tt σ2 H2 fun b H3 => if b = true then te σ2 H3 fun y H4 => Yd c y H4 (Pv (i + 1)) else Pv (i + 1) c H3) (hd : ∀ c H, Pv xs.length c H → End c H) :
    ∃ W : Nat → Nat → α → Hp → Prop, (∃ m, W 0 m a0 H0) ∧ tGx (Itt K a) g tt te σ0 vs End Yd W := by
  refine ⟨fun i m c H => m = xs.length - i ∧ i ≤ xs.length ∧ Pv i c H, ⟨xs.length, rfl, Nat.zero_le _, h0⟩, ?_⟩
  rintro i m c H ⟨rfl, hi, p⟩
  by_cases hlt : i < xs.length
  · have hx : xs[i]? = some xs[i] := List.getElem?_eq_getElem hlt
    refine .inr ⟨⟨xs, xs[i], hl i c H hi p, hx⟩, Pv (i + 1), fun c' H' p' => ⟨xs.length - (i + 1), by omega, rfl, hlt, p'⟩, fun x H' y => ?_⟩
    obtain ⟨rfl, y⟩ := y
    exact hs i x c _ (y xs (hl i c _ hi p)) p
  · have e : i = xs.length := by omega
    subst e
    exact .inl ⟨⟨xs, hl _ c H hi p, Nat.le_refl _⟩, hd c H p⟩
theorem lc_zipT {K : PySem.W.Frag} {a b : Addr} {xs ys : List V} {g : TG} {tt : TT} {te : TE} {vs : List Nat} {σ : L2.St} {H1 : Hp} {D : Addr} {Qd : Hp → Prop} (el : xs.length = ys.length) (Pv : Nat → Hp → Prop) (h0 : Pv 0 (upd H1 D (.lst []))) (hl : ∀ i H, i ≤ xs.length → Pv i H → SqT K H a xs ∧ SqT K H b ys)
    (hs : ∀ i x y T H, xs[i]? = some x → ys[i]? = some y → H T = none → Pv i H → g (.ref T) (wipe σ vs) (upd H T (.tup [x, y])) fun σ2 H2 => wipe σ2 vs = wipe σ vs ∧ tt σ2 H2 fun b H3 =>
      if b = true then te σ2 H3 fun y H4 => ∃ acc, H4 D = some (.lst acc) ∧ acc.length < sizeLine ∧ Pv (i + 1) (upd H4 D (.lst (acc ++ [y]))) else Pv (i + 1) H3) (hd : ∀ H, Pv xs.length H → Qd H) :
    ∃ W : Nat → Nat → Hp → Prop, (∃ m, W 0 m (upd H1 D (.lst []))) ∧ ∀ i m H, W i m H →
      ((RZ.ItzT K a b).stop i H ∧ Qd H) ∨ ((RZ.ItzT K a b).go i H ∧ ∃ Nx : Hp → Prop, (∀ H', Nx H' → ∃ m', m' < m ∧ W (i + 1) m' H') ∧ ∀ x H', (RZ.ItzT K a b).yld i H x H' → g x (wipe σ vs) H' fun σ2 H2 => wipe σ2 vs = wipe σ vs ∧ tt σ2 H2 fun b H3 =>
        if b = true then te σ2 H3 fun y H4 => ∃ acc, H4 D = some (.lst acc) ∧ acc.length < sizeLine ∧ Nx (upd H4 D (.lst (acc ++ [y]))) else Nx H3) := by
  refine ⟨fun i m H => m = xs.length - i ∧ i ≤ xs.length ∧ Pv i H, ⟨xs.length, by simp, Nat.zero_le _, h0⟩, ?_⟩
  rintro i m H ⟨rfl, hi, p⟩
  obtain ⟨qx, qy⟩ := hl i H hi p
  by_cases hlt : i < xs.length
  · have hx : xs[i]? = some xs[i] := List.getElem?_eq_getElem hlt
    have hy : ys[i]? = some (ys[i]'(by omega)) := List.getElem?_eq_getElem _
    refine .inr ⟨⟨xs, ys, _, _, qx, qy, hx, hy⟩, Pv (i + 1), fun H' p' => ⟨xs.length - (i + 1), by omega, rfl, hlt, p'⟩, fun x H' y => ?_⟩
    obtain ⟨T, x1, y1, rfl, nT, rfl, e1, e2⟩ := y
    exact hs i x1 y1 T H (e1 xs qx) (e2 ys qy) nT p
  · have e : i = xs.length := by omega
    subst e
    exact .inl ⟨⟨xs, ys, qx, qy, .inl (Nat.le_refl _)⟩, hd H p⟩

/-! ### nets, and the words of nets -/
abbrev Gt := List Bool × List Nat
def gD (g : Gt) : PyData := .tuple [.str (tabOf g.1), .tuple ((g.2.map Int.ofNat).map PyData.int)]
def netD (many : Int) (gs : List Gt) : PyData := .tuple [.int many, .tuple (gs.map gD)]
def rowD (r : List Int) : PyData := .tuple (r.map PyData.int)
def chD (a b : List Int) : PyData := .tuple [rowD a, rowD b]
def GtOk (n : Nat) (g : Gt) : Prop := g.1.length = 2 ^ g.2.length ∧ 1 ≤ g.2.length ∧ g.2.length ≤ 3 ∧ ∀ i ∈ g.2, i < n
def NetOk (n : Nat) (gs : List Gt) : Prop := ∀ k g, gs[k]? = some g → GtOk (n + k) g
def Row01 (r : List Int) : Prop := ∀ x ∈ r, x = 0 ∨ x = 1
mutual
theorem Tk.gr {H H' : Hp} (s : Gr H H') : ∀ {v : V} {d : PyData}, Tk H v d → Tk H' v d
  | _, _, .bl b => .bl b
  | _, _, .int i => .int i
  | _, _, .str x => .str x
  | _, _, .lst h t => .lst (s.lst h) (t.gr s)
  | _, _, .tup h t => .tup (s.tup h) (t.gr s)
theorem TkAll.gr {H H' : Hp} (s : Gr H H') : ∀ {vs : List V} {ds : List PyData}, TkAll H vs ds → TkAll H' vs ds
  | _, _, .nil => .nil
  | _, _, .cons h t => .cons (h.gr s) (t.gr s)
end
theorem Tk.row_inv {H : Hp} {v : V} {r : List Int} (h : Tk H v (rowD r)) : ∃ a, v = .ref a ∧ H a = some (.tup (r.map V.int)) := by
  obtain ⟨a, xs, rfl, ha, t⟩ := h.tup_inv
  rw [t.int_inv] at ha
  exact ⟨a, rfl, ha⟩
theorem Tk.ch_inv {H : Hp} {v : V} {a b : List Int} (h : Tk H v (chD a b)) : ∃ c ra rb, v = .ref c ∧ H c = some (.tup [.ref ra, .ref rb]) ∧ H ra = some (.tup (a.map V.int)) ∧ H rb = some (.tup (b.map V.int)) := by
  obtain ⟨c, xs, rfl, hc, t⟩ := h.tup_inv
  cases t with
  | cons h1 t => cases t with
    | cons h2 t =>
      cases t
      obtain ⟨ra, rfl, ha⟩ := h1.row_inv
      obtain ⟨rb, rfl, hb⟩ := h2.row_inv
      exact ⟨c, ra, rb, rfl, hc, ha, hb⟩
theorem Tk.net_inv {H : Hp} {v : V} {m : Int} {gs : List Gt} (h : Tk H v (netD m gs)) : ∃ n g xs, v = .ref n ∧ H n = some (.tup [.int m, .ref g]) ∧ H g = some (.tup xs) ∧ TkAll H xs (gs.map gD) := by
  obtain ⟨n, xs, rfl, hn, t⟩ := h.tup_inv
  cases t with
  | cons h1 t => cases t with
    | cons h2 t =>
      cases t
      cases h1
      obtain ⟨g, ys, rfl, hg, t2⟩ := h2.tup_inv
      exact ⟨n, g, ys, rfl, hn, hg, t2⟩
theorem Tk.gt_inv {H : Hp} {v : V} {g : Gt} (h : Tk H v (gD g)) : ∃ a i, v = .ref a ∧ H a = some (.tup [.str (tabOf g.1), .ref i]) ∧ H i = some (.tup ((g.2.map Int.ofNat).map V.int)) := by
  obtain ⟨a, xs, rfl, ha, t⟩ := h.tup_inv
  cases t with
  | cons h1 t => cases t with
    | cons h2 t =>
      cases t
      cases h1
      obtain ⟨i, rfl, hi⟩ := (show Tk H _ (rowD (g.2.map Int.ofNat)) from h2).row_inv
      exact ⟨a, i, rfl, ha, hi⟩
theorem TkAll.at {H : Hp} {α : Type} {f : α → PyData} {xs : List V} {ds : List α} (t : TkAll H xs (ds.map f)) {j : Nat} {v : V} (h : xs[j]? = some v) : ∃ x, ds[j]? = some x ∧ Tk H v (f x) := by
  obtain ⟨dx, hdx, tx⟩ := t.get h
  rw [List.getElem?_map] at hdx
  cases hz : ds[j]? with
  | none => rw [hz] at hdx; cases hdx
  | some x =>
    rw [hz] at hdx
    cases Option.some.inj hdx
    exact ⟨x, rfl, tx⟩
theorem TkAll.at' {H : Hp} {α : Type} {f : α → PyData} {xs : List V} {ds : List α} (t : TkAll H xs (ds.map f)) {j : Nat} {x : α} (h : ds[j]? = some x) : ∃ v, xs[j]? = some v ∧ Tk H v (f x) := by
  have hl := t.length
  rw [List.length_map] at hl
  have hj := (List.getElem?_eq_some_iff.mp h).1
  obtain ⟨y, hy, ty⟩ := t.at (List.getElem?_eq_getElem (l := xs) (i := j) (by omega))
  cases Option.some.inj (h.symm.trans hy)
  exact ⟨_, List.getElem?_eq_getElem _, ty⟩
theorem grow_upd {H H' : Hp} {p : Addr} {o : HO} (g : Gr H H') (n : H' p = none) : Gr H (upd H' p o) := g.trans (Gr.none n)
/-- no table, no older list: only the list at D is written -/
def GrD (D : Addr) (H H' : Hp) : Prop := Gr H (hd1 D H')
theorem GrD.gr {D : Addr} {H H' : Hp} (g : GrD D H H') : Gr H H' := g.trans (Gr.of hd1_le)
theorem GrD.new {D : Addr} {H : Hp} {o : HO} (n : H D = none) : GrD D H (upd H D o) := Gr.of (hd1_of (same_upd n) n)
theorem hd1_gr {D : Addr} {H H' : Hp} {xs : List V} (g : Gr H H') (hD : H D = some (.lst xs)) : Gr (hd1 D H) (hd1 D H') := by
  have hD' := g.lst hD
  have far : ∀ b o, (∀ ys, o ≠ HO.lst ys) → H' b = some o → hd1 D H' b = some o := fun b o n e => by
    rw [hd1_at fun z => by rw [z, hD'] at e; exact n xs (Option.some.inj e).symm]
    exact e
  have k : ∀ b o, (∀ ps, o ≠ HO.tbl ps) → hd1 D H b = some o → hd1 D H' b = some o := fun b o n e => by
    have hb : b ≠ D := fun z => by
      unfold hd1 at e
      rw [if_pos z] at e; cases e
    rw [hd1_at hb] at e ⊢
    exact g.1 b o n e
  have p : ∀ b, «GxR».TabG (hd1 D H) b → «GxR».TabG (hd1 D H') b := fun b ⟨ps, e, t⟩ => by
    obtain ⟨qs, e', t'⟩ := g.3 b ⟨ps, hd1_le _ _ e, t⟩
    exact ⟨qs, far b _ (fun _ z => by cases z) e', t'⟩
  refine ⟨k, fun b t => ?_, p⟩
  have t1 : GzN.TabG H b := by
    obtain ⟨ps, e, t, n⟩ := t
    exact ⟨ps, hd1_le _ _ e, t, n.mono (fun c P z => hd1_le _ _ z) fun P ⟨qs, e, t⟩ => ⟨qs, hd1_le _ _ e, t⟩⟩
  obtain ⟨ps, e, t, n⟩ := g.2 b t1
  exact ⟨ps, far b _ (fun _ z => by cases z) e, t, n.mono (fun c P z => far c _ (fun _ w => by unfold GzN.CodeK at w; cases w) z) fun P ⟨qs, e, t⟩ => ⟨qs, far P _ (fun _ z => by cases z) e, t⟩⟩
theorem GrD.then {D : Addr} {H H1 H2 : Hp} {xs : List V} (a : GrD D H H1) (hD : H1 D = some (.lst xs)) (b : Gr H1 H2) : GrD D H H2 := a.trans (hd1_gr b hD)
theorem GrD.set {D : Addr} {H H1 : Hp} {o : HO} (a : GrD D H H1) : GrD D H (upd H1 D o) := a.trans (Gr.of hd1_upd)

end Gk

--@NEST
set_option Elab.async false
set_option linter.all false
set_option maxRecDepth 100000
set_option maxHeartbeats 1000000
set_option pp.maxSteps 1500
namespace Gk
open PySem PySem.Spec PyProof.Rows L2
/-! ### xs[lo::st] of a list -/
namespace SlSt
def pickL {α : Type} (xs : List α) (lo hi st : Option Int) : List α :=
  (sliceRange (sliceBounds lo hi st xs.length).1 (sliceBounds lo hi st xs.length).2.1 (sliceBounds lo hi st xs.length).2.2).filterMap (xs[·]?)
theorem pick_mem {α : Type} {xs : List α} {lo hi st : Option Int} : ∀ x ∈ pickL xs lo hi st, x ∈ xs := fun x hx => by
  unfold pickL at hx
  obtain ⟨i, _, hi⟩ := List.mem_filterMap.mp hx
  exact List.mem_of_getElem? hi
theorem vals_at : ∀ {xs : List V} {us : List Value}, Vals xs us → ∀ i : Nat, (xs[i]? = none ∧ us[i]? = none) ∨ ∃ x u, xs[i]? = some x ∧ us[i]? = some u ∧ RelV x u
  | _, _, .nil, _ => .inl ⟨rfl, rfl⟩
  | _, _, .cons a _, 0 => .inr ⟨_, _, rfl, rfl, a⟩
  | _, _, .cons _ t, i + 1 => by
    rw [List.getElem?_cons_succ, List.getElem?_cons_succ]
    exact vals_at t i
theorem vals_pick {xs : List V} {us : List Value} (r : Vals xs us) : ∀ ks : List Nat, Vals (ks.filterMap (xs[·]?)) (ks.filterMap (us[·]?))
  | [] => .nil
  | k :: ks => by
    have ih := vals_pick r ks
    rcases vals_at r k with ⟨h1, h2⟩ | ⟨x, u, h1, h2, z⟩
    · rw [List.filterMap_cons_none h1, List.filterMap_cons_none h2]
      exact ih
    · rw [List.filterMap_cons_some h1, List.filterMap_cons_some h2]
      exact .cons z ih
section
variable {X : Cx}
def tSlSt (K : PySem.W.Frag) (te : TE) (tl ts : TO) : TE := fun σ H Q => te σ H fun x H1 => tl σ H1 fun l H2 => ts σ H2 fun st H3 => ∃ a xs, x = .ref a ∧ SqL K H3 a xs ∧ st ≠ some 0 ∧ ∀ p, H3 p = none → Q (.ref p) (upd H3 p (.lst (pickL xs l none st)))
theorem pe_sliceSt {e : Expr} {te : TE} {lo : Option Expr} {st : Expr} {tl ts : TO} {p3 pos : Pos} (he : PE X e te) (hl : PO X lo tl) (hs : PO X (some st) ts) : PE X (.Subscript e (.Slice lo none (some st) p3) pos) (tSlSt X.K te tl ts) := by
  refine ⟨fun pins s σ H Q I h => ?_⟩
  refine Subscript_ (thn (he.run pins s σ H _ I h) fun v s1 ⟨x, H1, I1, r1, q1⟩ => ?_)
  refine wpAny_Slice (thn (hl.run pins s1 σ H1 _ I1 q1) fun vl s2 ⟨l, H2, I2, pl, q2⟩ => ?_)
  refine thn (po_none.run pins s2 σ H2 (fun o H3 => o = none ∧ H3 = H2) I2 ⟨rfl, rfl⟩) fun vu s3 ⟨u, H3, I3, pu, eu, e3⟩ => ?_
  subst eu e3
  refine thn (hs.run pins s3 σ H3 _ I3 q2) fun vs s4 ⟨o, H4, I4, ps, q4⟩ => ?_
  obtain ⟨a, xs, ex, hx, h0, q⟩ := q4
  subst ex
  cases r1
  have I5 : Inv X pins σ H4 { s4 with heap := s4.heap.push { cls := .type "slice", data := .fields #[vl, vu, vs] } } := I4.kept (t' := s4.toks) fun b ob q => Heap.get?_push_of_some _ q
  obtain ⟨its, r, ht, hz⟩ := I5.list hx
  have hlen := r.length
  show wpAny (model X.prog X.w) X.A (subscriptTail e (.Slice lo none (some st) p3) (.ref a) (.ref s4.heap.objs.size)) (EP X pins σ Q) X.xe { s4 with heap := s4.heap.push { cls := .type "slice", data := .fields #[vl, vu, vs] } }
  refine tail_any (ops := [.ref a, .ref s4.heap.objs.size]) ht.isList.typeIs (PySem.slot_list_getitem.lookup) ?_ (by with_unfolding_all rfl)
  refine wpAny_getItem_list_slice ht.isList (Heap.IsSliceOf.new _ vl vu vs) pl pu ps h0 ?_ (by rw [List.size_toArray]; omega)
  have e1 : slicePick its.toArray l none o = ((sliceRange (sliceBounds l none o xs.length).1 (sliceBounds l none o xs.length).2.1 (sliceBounds l none o xs.length).2.2).filterMap (its[·]?)).toArray := by
    unfold slicePick
    rw [List.size_toArray, hlen]
    have e0 : ∀ i : Nat, its.toArray[i]? = its[i]? := fun i => List.getElem?_toArray
    rw [funext e0]
  have hsz := slicePick_size_le its.toArray l none o
  rw [List.size_toArray] at hsz
  rw [e1] at hsz
  simp only [List.size_toArray] at hsz
  rw [e1]
  have rv := vals_pick r (sliceRange (sliceBounds l none o xs.length).1 (sliceBounds l none o xs.length).2.1 (sliceBounds l none o xs.length).2.2)
  have lp := rv.length
  refine ⟨.ref _, _, I5.laid (t' := s4.toks) (o := .lst (pickL xs l none o)) (fun b ob q => Heap.get?_push_of_some _ q) (Nat.le_refl _) ?_, rfl, q _ (I5.hok.fresh (Nat.le_refl _))⟩
  refine ⟨?_, _, 0, rv, Heap.get?_push_size _ rfl⟩
  show (List.filterMap _ _).length ≤ _
  omega
end
end SlSt

end Gk

--@NEST
set_option Elab.async false
set_option linter.all false
set_option maxRecDepth 100000
set_option maxHeartbeats 1000000
set_option pp.maxSteps 1500
namespace Gk
open PySem PySem.Spec PyProof.Rows L2
/-! ### zip of two or three texts, tuples, lists -/
namespace ZpG
open PySem PySem.Spec PyProof.Rows L2
inductive ZS where
  | tx (x : PySem.Str)
  | tu (a : Addr)
  | li (a : Addr)
def ZS.val : ZS → V
  | .tx x => .str x
  | .tu a => .ref a
  | .li a => .ref a
def ZS.at (K : PySem.W.Frag) : ZS → Hp → List V → Prop
  | .tx x, _, xs => xs = x.cps.toList.map fun c => V.str ⟨#[c]⟩
  | .tu a, H, xs => SqT K H a xs
  | .li a, H, xs => SqL K H a xs
def ZS.it : ZS → Addr → Nat → Heap → Prop
  | .tx x, it, i, h => ∃ t, h.IsStrIter it (strIterType x) x t i
  | .tu a, it, i, h => h.IsTupleIter it a i
  | .li a, it, i, h => h.IsListIter it a i
def ZS.lt : ZS → Nat → Prop
  | .tx _, _ => True
  | .tu a, n => a < n
  | .li a, n => a < n
def ZS.off : ZS → Addr → Prop
  | .tx _, _ => True
  | .tu a, c => a ≠ c
  | .li a, c => a ≠ c
theorem ne' {a b : Nat} (h : a ≠ b) : @Ne Addr a b := h
theorem ZS.off_of {n c : Nat} (hc : n ≤ c) : ∀ {z : ZS}, z.lt n → z.off c
  | .tx _, _ => trivial
  | .tu _, h => Nat.ne_of_lt (Nat.lt_of_lt_of_le h hc)
  | .li _, h => Nat.ne_of_lt (Nat.lt_of_lt_of_le h hc)
theorem ZS.obj {it : Addr} {i : Nat} {h : Heap} : ∀ {z : ZS}, z.it it i h → ∃ o, h.get? it = some o ∧ ∀ v, o.data ≠ .cell v
  | .tx _, ⟨_, o, e, _, d⟩ => ⟨o, e, fun v q => by rw [d] at q; cases q⟩
  | .tu _, ⟨o, e, _, d⟩ => ⟨o, e, fun v q => by rw [d] at q; cases q⟩
  | .li _, ⟨o, e, _, d⟩ => ⟨o, e, fun v q => by rw [d] at q; cases q⟩
theorem ZS.move {it : Addr} {i : Nat} {h h' : Heap} (k : ∀ o, h.get? it = some o → h'.get? it = some o) : ∀ {z : ZS}, z.it it i h → z.it it i h'
  | .tx _, ⟨t, o, e, r⟩ => ⟨t, o, k o e, r⟩
  | .tu _, ⟨o, e, r⟩ => ⟨o, k o e, r⟩
  | .li _, ⟨o, e, r⟩ => ⟨o, k o e, r⟩
section
variable {X : Cx} {pins : List (Addr × Obj)} {σ : L2.St} {H : Hp} {s : Shared}
theorem ZS.inj (I : Inv X pins σ H s) {z : ZS} {xs ys : List V} (h1 : z.at X.K H xs) (h2 : z.at X.K H ys) : xs = ys := by
  cases z with
  | tx x =>
    have e1 : xs = _ := h1
    have e2 : ys = _ := h2
    rw [e1, e2]
  | tu a => exact I.tuple_inj h1 h2
  | li a => exact I.list_inj h1 h2
theorem ZS.draws {A : Around} {it : Addr} {i : Nat} {xs : List V} (z : ZS) (I : Inv X pins σ H s) (hq : z.at X.K H xs) (hh : A.handled = none) (off : z.off it) (st : z.it it i s.heap) :
    ∃ (fp : List Addr) (P : Nat → Value → Prop) (St : Nat → Heap → Prop), Draws X.prog X.w A it fp xs.length P St ∧ it ∈ fp ∧ (∀ c, c ∈ fp → c = it ∨ ¬ z.off c) ∧ St i s.heap ∧ (∀ j h, St j h → z.it it j h) ∧ ∀ j v, P j v → ∃ x, xs[j]? = some x ∧ RelV x v := by
  cases z with
  | tx x =>
    obtain ⟨t, st⟩ := st
    have e : xs = x.cps.toList.map fun c => V.str ⟨#[c]⟩ := hq
    have el : xs.length = x.cps.size := by rw [e, List.length_map, Array.length_toList]
    refine ⟨[it], fun i v => ∃ c u, x.cps[i]? = some c ∧ v = .str ⟨#[c]⟩ u, fun i h => h.IsStrIter it (strIterType x) x t i, ?_, List.mem_cons_self, fun c hc => .inl (List.mem_singleton.mp hc), st, fun j h q => ⟨t, q⟩, fun j v p => ?_⟩
    · rw [el]
      exact Draws.text hh it x t
    · obtain ⟨c, u, hc, rfl⟩ := p
      refine ⟨.str ⟨#[c]⟩, ?_, ⟨u, rfl⟩⟩
      rw [e, List.getElem?_map, Array.getElem?_toList, hc]
      rfl
  | tu a =>
    obtain ⟨its, rv, p, _⟩ := I.tuple hq
    have hl := rv.length
    refine ⟨[it, a], fun i v => its.toArray[i]? = some v, fun i h => h.IsTupleIter it a i ∧ h.IsTuple a its.toArray, ?_, List.mem_cons_self, fun c hc => ?_, ⟨st, p⟩, fun j h q => q.1, fun j v q => ?_⟩
    · rw [hl, ← List.size_toArray]
      exact Draws.tuple hh it a off its.toArray
    · rcases List.mem_cons.mp hc with e | e
      · exact .inl e
      · refine .inr fun q => ?_
        rw [List.mem_singleton.mp e] at q
        exact q rfl
    · have q : its[j]? = some v := by simpa using q
      have hj := (List.getElem?_eq_some_iff.mp q).1
      have hx : xs[j]? = some (xs[j]'(by omega)) := List.getElem?_eq_getElem _
      obtain ⟨u, hu, ru⟩ := rv.get hx
      rw [q] at hu
      cases Option.some.inj hu
      exact ⟨_, hx, ru⟩
  | li a =>
    obtain ⟨its, rv, p, _⟩ := I.list hq
    have hl := rv.length
    refine ⟨[it, a], fun i v => its.toArray[i]? = some v, fun i h => h.IsListIter it a i ∧ h.IsList a its.toArray, ?_, List.mem_cons_self, fun c hc => ?_, ⟨st, p.isList⟩, fun j h q => q.1, fun j v q => ?_⟩
    · rw [hl, ← List.size_toArray]
      exact Draws.list hh it a off its.toArray
    · rcases List.mem_cons.mp hc with e | e
      · exact .inl e
      · refine .inr fun q => ?_
        rw [List.mem_singleton.mp e] at q
        exact q rfl
    · have q : its[j]? = some v := by simpa using q
      have hj := (List.getElem?_eq_some_iff.mp q).1
      have hx : xs[j]? = some (xs[j]'(by omega)) := List.getElem?_eq_getElem _
      obtain ⟨u, hu, ru⟩ := rv.get hx
      rw [q] at hu
      cases Option.some.inj hu
      exact ⟨_, hx, ru⟩
theorem ZS.begins {v : Value} {xs : List V} (z : ZS) (I : Inv X pins σ H s) (hq : z.at X.K H xs) (r : RelV z.val v) : ∃ o Hh, Begins v o Hh ∧ Hh s.heap ∧ (∀ it h, h.get? it = some o → z.it it 0 h) ∧ z.lt s.heap.objs.size := by
  cases z with
  | tx x =>
    obtain ⟨t, rfl⟩ := (show ∃ t, v = Value.str x t from r)
    exact ⟨_, _, begins_text x t, trivial, fun it h e => ⟨t, _, e, rfl, rfl⟩, trivial⟩
  | tu a =>
    cases (show v = Value.ref a from r)
    obtain ⟨its, rv, p, _⟩ := I.tuple hq
    obtain ⟨o1, ho1, _⟩ := id p
    exact ⟨_, _, begins_tuple a its.toArray, p, fun it h e => ⟨_, e, rfl, rfl⟩, Heap.lt_size ho1⟩
  | li a =>
    cases (show v = Value.ref a from r)
    obtain ⟨its, rv, p, _⟩ := I.list hq
    exact ⟨_, _, begins_list a its.toArray, p.isList, fun it h e => ⟨_, e, rfl, rfl⟩, p.lt⟩
end
def Itz2 (K : PySem.W.Frag) (z1 z2 : ZS) : It :=
  ⟨fun i H => ∃ (xs1 xs2 : List V) (x1 x2 : V), z1.at K H xs1 ∧ z2.at K H xs2 ∧ xs1[i]? = some x1 ∧ xs2[i]? = some x2,
    fun i H v H' => ∃ T x1 x2, v = .ref T ∧ H T = none ∧ H' = upd H T (.tup [x1, x2]) ∧ (∀ xs, z1.at K H xs → xs[i]? = some x1) ∧ (∀ xs, z2.at K H xs → xs[i]? = some x2),
    fun i H => ∃ xs1 xs2 : List V, z1.at K H xs1 ∧ z2.at K H xs2 ∧ i ≤ xs1.length ∧ i ≤ xs2.length ∧ (i = xs1.length ∨ i = xs2.length)⟩
theorem turn_zip2 {P : Program} {w : World} {K : PySem.W.Frag} {elts : List Expr} {kk : Nat} {tpos : Pos} {z1 z2 : ZS} {n : Nat} (l1 : z1.lt n) (l2 : z2.lt n) :
    Turn P w K (.Tuple elts kk tpos) (Itz2 K z1 z2) [n + 4, n + 2, n + 3, n, n + 1] (n + 4) (fun i h => IsZip h (n + 4) (n + 2) (n + 3) .none ∧ IsTupOf2 h (n + 2) (.ref (n)) (.ref (n + 1)) ∧ (∃ x1 x2, IsTupOf2 h (n + 3) x1 x2) ∧ z1.it (n) i h ∧ z2.it (n + 1) i h) where
  mem := List.mem_cons_self
  obj := fun i h st c hc => by
    obtain ⟨hz, hTI, ⟨x1, x2, hTO⟩, st1, st2⟩ := st
    have e' : c = n + 4 ∨ c = n + 2 ∨ c = n + 3 ∨ c = n ∨ c = n + 1 := by simpa using hc
    rcases e' with q | q | q | q | q
    · rw [q]; exact ⟨_, hz, fun v q => nomatch q⟩
    · rw [q]; exact ⟨_, hTI, fun v q => nomatch q⟩
    · rw [q]; exact ⟨_, hTO, fun v q => nomatch q⟩
    · rw [q]; exact ZS.obj (z := z1) st1
    · rw [q]; exact ZS.obj (z := z2) st2
  keep := fun i h h' st k => by
    obtain ⟨hz, hTI, ⟨x1, x2, hTO⟩, st1, st2⟩ := st
    exact ⟨k _ (by simp) _ hz, k _ (by simp) _ hTI, ⟨x1, x2, k _ (by simp) _ hTO⟩, ZS.move (z := z1) (fun o q => k _ (by simp) o q) st1, ZS.move (z := z2) (fun o q => k _ (by simp) o q) st2⟩
  item := by
    intro X hP hw hK hc i pins s σ H E I hf st hg
    subst hP hw hK
    obtain ⟨hz, hTI, ⟨y1, y2, hTO⟩, st1, st2⟩ := st
    obtain ⟨xs1, xs2, x1, x2, q1, q2, h1, h2⟩ := hg
    have hh : X.A.in1.handled = none := I.ok.hd hc
    obtain ⟨fp1, P1, St1, D1, m1, f1, s1, b1, p1⟩ := z1.draws (A := X.A.in1) I q1 hh (ZS.off_of (by omega) l1) st1
    have nf1 : ∀ c, n ≤ c → c ≠ n → c ∉ fp1 := fun c h1 h2 h3 => by
      rcases f1 c h3 with e | e
      · exact h2 e
      · exact e (ZS.off_of h1 l1)
    obtain ⟨fp2, P2, St2, D2, m2, f2, s2, b2, p2⟩ := z2.draws (A := X.A.in1) I q2 hh (ZS.off_of (by omega) l2) st2
    have nf2 : ∀ c, n ≤ c → c ≠ n + 1 → c ∉ fp2 := fun c h1 h2 h3 => by
      rcases f2 c h3 with e | e
      · exact h2 e
      · exact e (ZS.off_of h1 l2)
    have t1 : i < xs1.length := (List.getElem?_eq_some_iff.mp h1).1
    have t2 : i < xs2.length := (List.getElem?_eq_some_iff.mp h2).1
    have hzl : n + 4 < s.heap.objs.size := Heap.lt_size hz
    have S : ZipSep2 (n + 4) (n + 2) (n + 3) (n) (n + 1) fp1 fp2 := { TIz := (ne' (a := n + 2) (b := n + 4) (by omega)), TOz := (ne' (a := n + 3) (b := n + 4) (by omega)), TITO := (ne' (a := n + 2) (b := n + 3) (by omega)), TIi1 := (ne' (a := n + 2) (b := n) (by omega)), mem1 := m1, zf1 := nf1 (n + 4) (by omega) (ne' (a := n + 4) (b := n) (by omega)), Tf1 := nf1 (n + 3) (by omega) (ne' (a := n + 3) (b := n) (by omega)), TIi2 := (ne' (a := n + 2) (b := n + 1) (by omega)), mem2 := m2, zf2 := nf2 (n + 4) (by omega) (ne' (a := n + 4) (b := n + 1) (by omega)), Tf2 := nf2 (n + 3) (by omega) (ne' (a := n + 3) (b := n + 1) (by omega)), sep1_2 := nf2 (n) (by omega) (ne' (a := n) (b := n + 1) (by omega)), sep2_1 := nf1 (n + 1) (by omega) (ne' (a := n + 1) (b := n) (by omega)) }
    refine wpAny_pyNext_zipD2_item S D1 D2 hz hTI hTO s1 s2 t1 t2 fun u1 u2 h' tk g1 g2 z' TO' w1 w2 hT hsz hk => ?_
    refine ⟨_, rfl, wpAny_letOwnedTupleGo_zip (s := { s with heap := h', toks := tk }) z' fun h'' z'' sb => ?_⟩
    obtain ⟨x1', e1, ru1⟩ := p1 i u1 g1
    rw [h1] at e1
    cases Option.some.inj e1
    obtain ⟨x2', e2, ru2⟩ := p2 i u2 g2
    rw [h2] at e2
    cases Option.some.inj e2
    have hT2 : h''.get? s.heap.objs.size = some { cls := .type "tuple", data := .seq #[u1, u2] } := (sb.2 _ (Nat.ne_of_gt hzl)).trans hT
    have new : ObjOk X.prog X.w (upd H s.heap.objs.size (.tup [x1, x2])) h'' s.heap.objs.size (.tup [x1, x2]) :=
      ⟨by show 2 ≤ sizeLine; decide, [u1, u2], .cons ru1 (.cons ru2 (.nil)), ⟨_, hT2, rfl, _, rfl⟩⟩
    have out5 : ∀ c, c ∉ [n + 4, n + 2, n + 3, n, n + 1] → c ≠ n + 4 ∧ c ≠ n + 3 ∧ c ≠ n ∧ c ≠ n + 1 := fun c hb => ⟨fun q' => hb (by simp [q']), fun q' => hb (by simp [q']), fun q' => hb (by simp [q']), fun q' => hb (by simp [q'])⟩
    have I1 : Inv X pins σ (upd H s.heap.objs.size (.tup [x1, x2])) { s with heap := h'', toks := tk } :=
      I.turnedNew (t' := tk) (ch := [n + 4, n + 2, n + 3, n, n + 1]) (fun c o hb q => by
        obtain ⟨a1, a2, b1', b2'⟩ := out5 c hb
        exact (sb.2 c a1).trans (hk c o a1 a2 b1' b2' q)) hf (Nat.le_refl _) new
    refine ⟨.ref s.heap.objs.size, _, I1, rfl, ⟨_, x1, x2, rfl, I.hok.fresh (Nat.le_refl _), rfl, fun l hl => by rw [ZS.inj I hl q1]; exact h1, fun l hl => by rw [ZS.inj I hl q2]; exact h2⟩, ⟨z'', ?_, ⟨u1, u2, ?_⟩, ?_, ?_⟩, fun c hcm => ?_⟩
    · exact (sb.2 (n + 2) (ne' (a := n + 2) (b := n + 4) (by omega))).trans (hk (n + 2) _ (ne' (a := n + 2) (b := n + 4) (by omega)) (ne' (a := n + 2) (b := n + 3) (by omega)) (ne' (a := n + 2) (b := n) (by omega)) (ne' (a := n + 2) (b := n + 1) (by omega)) hTI)
    · exact (sb.2 (n + 3) (ne' (a := n + 3) (b := n + 4) (by omega))).trans TO'
    · exact ZS.move (z := z1) (fun o q => (sb.2 (n) (ne' (a := n) (b := n + 4) (by omega))).trans q) (b1 _ _ w1)
    · exact ZS.move (z := z2) (fun o q => (sb.2 (n + 1) (ne' (a := n + 1) (b := n + 4) (by omega))).trans q) (b2 _ _ w2)
    · have hlt : c < s.heap.objs.size := by
        have e' : c = n + 4 ∨ c = n + 2 ∨ c = n + 3 ∨ c = n ∨ c = n + 1 := by simpa using hcm
        rcases e' with q | q | q | q | q
        · rw [q]; exact (show (n + 4 : Nat) < s.heap.objs.size by omega)
        · rw [q]; exact (show (n + 2 : Nat) < s.heap.objs.size by omega)
        · rw [q]; exact (show (n + 3 : Nat) < s.heap.objs.size by omega)
        · rw [q]; exact (show (n : Nat) < s.heap.objs.size by omega)
        · rw [q]; exact (show (n + 1 : Nat) < s.heap.objs.size by omega)
      rw [upd_ne (Nat.ne_of_lt hlt)]
      exact (hf c hcm).1
  done := by
    intro X hP hw hK hc i pins s σ H E I hf st hg
    subst hP hw hK
    obtain ⟨hz, hTI, ⟨y1, y2, hTO⟩, st1, st2⟩ := st
    obtain ⟨xs1, xs2, q1, q2, t1, t2, hend⟩ := hg
    have hh : X.A.in1.handled = none := I.ok.hd hc
    obtain ⟨fp1, P1, St1, D1, m1, f1, s1, b1, p1⟩ := z1.draws (A := X.A.in1) I q1 hh (ZS.off_of (by omega) l1) st1
    have nf1 : ∀ c, n ≤ c → c ≠ n → c ∉ fp1 := fun c h1 h2 h3 => by
      rcases f1 c h3 with e | e
      · exact h2 e
      · exact e (ZS.off_of h1 l1)
    obtain ⟨fp2, P2, St2, D2, m2, f2, s2, b2, p2⟩ := z2.draws (A := X.A.in1) I q2 hh (ZS.off_of (by omega) l2) st2
    have nf2 : ∀ c, n ≤ c → c ≠ n + 1 → c ∉ fp2 := fun c h1 h2 h3 => by
      rcases f2 c h3 with e | e
      · exact h2 e
      · exact e (ZS.off_of h1 l2)
    have S : ZipSep2 (n + 4) (n + 2) (n + 3) (n) (n + 1) fp1 fp2 := { TIz := (ne' (a := n + 2) (b := n + 4) (by omega)), TOz := (ne' (a := n + 3) (b := n + 4) (by omega)), TITO := (ne' (a := n + 2) (b := n + 3) (by omega)), TIi1 := (ne' (a := n + 2) (b := n) (by omega)), mem1 := m1, zf1 := nf1 (n + 4) (by omega) (ne' (a := n + 4) (b := n) (by omega)), Tf1 := nf1 (n + 3) (by omega) (ne' (a := n + 3) (b := n) (by omega)), TIi2 := (ne' (a := n + 2) (b := n + 1) (by omega)), mem2 := m2, zf2 := nf2 (n + 4) (by omega) (ne' (a := n + 4) (b := n + 1) (by omega)), Tf2 := nf2 (n + 3) (by omega) (ne' (a := n + 3) (b := n + 1) (by omega)), sep1_2 := nf2 (n) (by omega) (ne' (a := n) (b := n + 1) (by omega)), sep2_1 := nf1 (n + 1) (by omega) (ne' (a := n + 1) (b := n) (by omega)) }
    exact wpAny_pyNext_zipD2_end S D1 D2 hz hTI hTO s1 s2 t1 t2 hend fun h' tk hk => ⟨rfl, I.turnedL (t' := tk) (ch := [n + 4, n + 2, n + 3, n, n + 1]) (fun c o hb q =>
      hk c o (fun q' => hb (by simp [q'])) (fun q' => hb (by simp [q'])) (fun q' => hb (by simp [q'])) (fun q' => hb (by simp [q'])) q) hf⟩
  self := fun A i s Q E st h => wpAny_pyIter_zip st.1 h
def iZip2 (K : PySem.W.Frag) (ta : TA) : TI := fun σ H R => ta σ H fun vs H1 => ∃ (z1 z2 : ZS) (xs1 xs2 : List V), vs = [z1.val, z2.val] ∧ z1.at K H1 xs1 ∧ z2.at K H1 xs2 ∧ R (Itz2 K z1 z2) H1
theorem pi_zip2 {X : Cx} {e e2 : Expr} {ta : TA} {p pos tpos : Pos} {elts : List Expr} {kk : Nat} (hg : Gl X "zip") (hm : X.mg "zip" = none) (ha : PA X [e, e2] ta)
    (hs : starEach [e, e2] X.env = (false, eval e X.env) :: starEach [e2] X.env := by rfl) (hpl : (backTo pos (starEach [e2] X.env)).any (·.1) = false := by rfl) :
    PI X (.Tuple elts kk tpos) (.Call (.Name "zip" p) [e, e2] [] pos) (iZip2 X.K ta) := by
  refine ⟨fun pins s σ H R I h => ?_⟩
  refine Call_ (ld_blt I hg hm PyProof.Rows.boot_zip (PyProof.Rows.callWith_type1 (thn (ha.run pos pins s σ H _ I h) fun us s1 ⟨vs, H1, I1, r1, q1⟩ => ?_) hs hpl))
  obtain ⟨z1, z2, xs1, xs2, ex, q1, q2, q⟩ := q1
  subst ex
  cases r1 with
  | cons r1 rr =>
    cases rr with
    | cons r2 rr =>
      cases rr
      obtain ⟨o1, G1, B1, h1, i1, l1⟩ := z1.begins I1 q1 r1
      obtain ⟨o2, G2, B2, h2, i2, l2⟩ := z2.begins I1 q2 r2
      have fresh5 : ∀ c, c ∈ [s1.heap.objs.size + 4, s1.heap.objs.size + 2, s1.heap.objs.size + 3, s1.heap.objs.size, s1.heap.objs.size + 1] → FpOk X pins H1 c := fun c hcm => by
        have e' : c = s1.heap.objs.size + 4 ∨ c = s1.heap.objs.size + 2 ∨ c = s1.heap.objs.size + 3 ∨ c = s1.heap.objs.size ∨ c = s1.heap.objs.size + 1 := by simpa using hcm
        have hle : s1.heap.objs.size ≤ c := by omega
        exact I1.fpOk hle (I1.hok.fresh hle)
      refine zip_begins2 B1 B2 h1 h2 fun h' hz hTI hTO g1 g2 hsz hk => wpAny_pyIter_zip hz ?_
      have I2 : Inv X pins σ H1 { s1 with heap := h' } := I1.kept (t' := s1.toks) hk
      exact ⟨s1.heap.objs.size + 4, [s1.heap.objs.size + 4, s1.heap.objs.size + 2, s1.heap.objs.size + 3, s1.heap.objs.size, s1.heap.objs.size + 1], _, _, H1, rfl, I2, turn_zip2 l1 l2, ⟨hz, hTI, ⟨_, _, hTO⟩, i1 _ _ g1, i2 _ _ g2⟩, fresh5, q⟩
theorem for_zip2 {K : PySem.W.Frag} {z1 z2 : ZS} {xs1 xs2 : List V} {n : Nat} {g : TG} {tb : TS} {D : Ends} {σ : L2.St} {H : Hp} (n1 : xs1.length = n) (n2 : xs2.length = n) (Pv : Nat → L2.St → Hp → Prop) (h0 : Pv 0 σ H) (hl : ∀ i σ H, i ≤ n → Pv i σ H → z1.at K H xs1 ∧ z2.at K H xs2)
    (hs : ∀ (i : Nat) (x1 x2 : V) (T : Addr) (σ : L2.St) (H : Hp), xs1[i]? = some x1 → xs2[i]? = some x2 → H T = none → Pv i σ H → g (.ref T) σ (upd H T (.tup [x1, x2])) fun σ2 H2 => tb { D with nx := Pv (i + 1), ct := Pv (i + 1), bk := D.nx } σ2 H2) (hd : ∀ σ H, Pv n σ H → D.nx σ H) :
    ∃ W : Nat → Nat → L2.St → Hp → Prop, (∃ m, W 0 m σ H) ∧ ∀ i m σ H, W i m σ H →
      ((Itz2 K z1 z2).stop i H ∧ D.nx σ H) ∨ ((Itz2 K z1 z2).go i H ∧ ∃ N : L2.St → Hp → Prop, (∀ σ' H', N σ' H' → ∃ m', m' < m ∧ W (i + 1) m' σ' H') ∧ ∀ v H', (Itz2 K z1 z2).yld i H v H' → g v σ H' fun σ2 H2 => tb { D with nx := N, ct := N, bk := D.nx } σ2 H2) := by
  refine ⟨fun i m σ H => m = n - i ∧ i ≤ n ∧ Pv i σ H, ⟨n, rfl, Nat.zero_le _, h0⟩, ?_⟩
  rintro i m σ H ⟨rfl, hi, p⟩
  obtain ⟨q1, q2⟩ := hl i σ H hi p
  by_cases hlt : i < n
  · have e1 : xs1[i]? = some (xs1[i]'(by omega)) := List.getElem?_eq_getElem _
    have e2 : xs2[i]? = some (xs2[i]'(by omega)) := List.getElem?_eq_getElem _
    refine .inr ⟨⟨xs1, xs2, _, _, q1, q2, e1, e2⟩, Pv (i + 1), fun σ' H' p' => ⟨n - (i + 1), by omega, rfl, hlt, p'⟩, fun v H' y => ?_⟩
    obtain ⟨T, y1, y2, rfl, hT, rfl, f1, f2⟩ := y
    exact hs i y1 y2 T σ H (f1 xs1 q1) (f2 xs2 q2) hT p
  · have e : i = n := by omega
    subst e
    exact .inl ⟨⟨xs1, xs2, q1, q2, by omega, by omega, .inl (by omega)⟩, hd σ H p⟩
theorem lc_zip2 {K : PySem.W.Frag} {z1 z2 : ZS} {xs1 xs2 : List V} {n : Nat} {g : TG} {tt : TT} {te : TE} {vs : List Nat} {σ : L2.St} {H1 : Hp} {D : Addr} {Qd : Hp → Prop} (n1 : xs1.length = n) (n2 : xs2.length = n) (Pv : Nat → Hp → Prop) (h0 : Pv 0 (upd H1 D (.lst []))) (hl : ∀ i H, i ≤ n → Pv i H → z1.at K H xs1 ∧ z2.at K H xs2)
    (hs : ∀ (i : Nat) (x1 x2 : V) (T : Addr) (H : Hp), xs1[i]? = some x1 → xs2[i]? = some x2 → H T = none → Pv i H → g (.ref T) (wipe σ vs) (upd H T (.tup [x1, x2])) fun σ2 H2 => wipe σ2 vs = wipe σ vs ∧ tt σ2 H2 fun b H3 =>
      if b = true then te σ2 H3 fun y H4 => ∃ acc, H4 D = some (.lst acc) ∧ acc.length < sizeLine ∧ Pv (i + 1) (upd H4 D (.lst (acc ++ [y]))) else Pv (i + 1) H3) (hd : ∀ H, Pv n H → Qd H) :
    ∃ W : Nat → Nat → Hp → Prop, (∃ m, W 0 m (upd H1 D (.lst []))) ∧ ∀ i m H, W i m H →
      ((Itz2 K z1 z2).stop i H ∧ Qd H) ∨ ((Itz2 K z1 z2).go i H ∧ ∃ Nx : Hp → Prop, (∀ H', Nx H' → ∃ m', m' < m ∧ W (i + 1) m' H') ∧ ∀ x H', (Itz2 K z1 z2).yld i H x H' → g x (wipe σ vs) H' fun σ2 H2 => wipe σ2 vs = wipe σ vs ∧ tt σ2 H2 fun b H3 =>
        if b = true then te σ2 H3 fun y H4 => ∃ acc, H4 D = some (.lst acc) ∧ acc.length < sizeLine ∧ Nx (upd H4 D (.lst (acc ++ [y]))) else Nx H3) := by
  refine ⟨fun i m H => m = n - i ∧ i ≤ n ∧ Pv i H, ⟨n, by simp, Nat.zero_le _, h0⟩, ?_⟩
  rintro i m H ⟨rfl, hi, p⟩
  obtain ⟨q1, q2⟩ := hl i H hi p
  by_cases hlt : i < n
  · have e1 : xs1[i]? = some (xs1[i]'(by omega)) := List.getElem?_eq_getElem _
    have e2 : xs2[i]? = some (xs2[i]'(by omega)) := List.getElem?_eq_getElem _
    refine .inr ⟨⟨xs1, xs2, _, _, q1, q2, e1, e2⟩, Pv (i + 1), fun H' p' => ⟨n - (i + 1), by omega, rfl, hlt, p'⟩, fun v H' y => ?_⟩
    obtain ⟨T, y1, y2, rfl, hT, rfl, f1, f2⟩ := y
    exact hs i y1 y2 T H (f1 xs1 q1) (f2 xs2 q2) hT p
  · have e : i = n := by omega
    subst e
    exact .inl ⟨⟨xs1, xs2, q1, q2, by omega, by omega, .inl (by omega)⟩, hd H p⟩
theorem gx_zip2 {α : Type} {K : PySem.W.Frag} {z1 z2 : ZS} {xs1 xs2 : List V} {n : Nat} {g : TG} {tt : TT} {te : TE} {vs : List Nat} {σ0 : L2.St} {End : α → Hp → Prop} {Yd : α → V → Hp → (α → Hp → Prop) → Prop} {a0 : α} {H0 : Hp} (n1 : xs1.length = n) (n2 : xs2.length = n) (Pv : Nat → α → Hp → Prop) (h0 : Pv 0 a0 H0) (hl : ∀ i c H, i ≤ n → Pv i c H → z1.at K H xs1 ∧ z2.at K H xs2)
    (hs : ∀ (i : Nat) (x1 x2 : V) (T : Addr) (c : α) (H : Hp), xs1[i]? = some x1 → xs2[i]? = some x2 → H T = none → Pv i c H → g (.ref T) σ0 (upd H T (.tup [x1, x2])) fun σ2 H2 => wipe σ2 vs = σ0 ∧ tt σ2 H2 fun b H3 => if b = true then te σ2 H3 fun y H4 => Yd c y H4 (Pv (i + 1)) else Pv (i + 1) c H3) (hd : ∀ c H, Pv n c H → End c H) :
    ∃ W : Nat → Nat → α → Hp → Prop, (∃ m, W 0 m a0 H0) ∧ tGx (Itz2 K z1 z2) g tt te σ0 vs End Yd W := by
  refine ⟨fun i m c H => m = n - i ∧ i ≤ n ∧ Pv i c H, ⟨n, rfl, Nat.zero_le _, h0⟩, ?_⟩
  rintro i m c H ⟨rfl, hi, p⟩
  obtain ⟨q1, q2⟩ := hl i c H hi p
  by_cases hlt : i < n
  · have e1 : xs1[i]? = some (xs1[i]'(by omega)) := List.getElem?_eq_getElem _
    have e2 : xs2[i]? = some (xs2[i]'(by omega)) := List.getElem?_eq_getElem _
    refine .inr ⟨⟨xs1, xs2, _, _, q1, q2, e1, e2⟩, Pv (i + 1), fun c' H' p' => ⟨n - (i + 1), by omega, rfl, hlt, p'⟩, fun v H' y => ?_⟩
    obtain ⟨T, y1, y2, rfl, hT, rfl, f1, f2⟩ := y
    exact hs i y1 y2 T c H (f1 xs1 q1) (f2 xs2 q2) hT p
  · have e : i = n := by omega
    subst e
    exact .inl ⟨⟨xs1, xs2, q1, q2, by omega, by omega, .inl (by omega)⟩, hd c H p⟩
def Itz3 (K : PySem.W.Frag) (z1 z2 z3 : ZS) : It :=
  ⟨fun i H => ∃ (xs1 xs2 xs3 : List V) (x1 x2 x3 : V), z1.at K H xs1 ∧ z2.at K H xs2 ∧ z3.at K H xs3 ∧ xs1[i]? = some x1 ∧ xs2[i]? = some x2 ∧ xs3[i]? = some x3,
    fun i H v H' => ∃ T x1 x2 x3, v = .ref T ∧ H T = none ∧ H' = upd H T (.tup [x1, x2, x3]) ∧ (∀ xs, z1.at K H xs → xs[i]? = some x1) ∧ (∀ xs, z2.at K H xs → xs[i]? = some x2) ∧ (∀ xs, z3.at K H xs → xs[i]? = some x3),
    fun i H => ∃ xs1 xs2 xs3 : List V, z1.at K H xs1 ∧ z2.at K H xs2 ∧ z3.at K H xs3 ∧ i ≤ xs1.length ∧ i ≤ xs2.length ∧ i ≤ xs3.length ∧ (i = xs1.length ∨ i = xs2.length ∨ i = xs3.length)⟩
theorem turn_zip3 {P : Program} {w : World} {K : PySem.W.Frag} {elts : List Expr} {kk : Nat} {tpos : Pos} {z1 z2 z3 : ZS} {n : Nat} (l1 : z1.lt n) (l2 : z2.lt n) (l3 : z3.lt n) :
    Turn P w K (.Tuple elts kk tpos) (Itz3 K z1 z2 z3) [n + 5, n + 3, n + 4, n, n + 1, n + 2] (n + 5) (fun i h => IsZip h (n + 5) (n + 3) (n + 4) .none ∧ IsTupOf3 h (n + 3) (.ref (n)) (.ref (n + 1)) (.ref (n + 2)) ∧ (∃ x1 x2 x3, IsTupOf3 h (n + 4) x1 x2 x3) ∧ z1.it (n) i h ∧ z2.it (n + 1) i h ∧ z3.it (n + 2) i h) where
  mem := List.mem_cons_self
  obj := fun i h st c hc => by
    obtain ⟨hz, hTI, ⟨x1, x2, x3, hTO⟩, st1, st2, st3⟩ := st
    have e' : c = n + 5 ∨ c = n + 3 ∨ c = n + 4 ∨ c = n ∨ c = n + 1 ∨ c = n + 2 := by simpa using hc
    rcases e' with q | q | q | q | q | q
    · rw [q]; exact ⟨_, hz, fun v q => nomatch q⟩
    · rw [q]; exact ⟨_, hTI, fun v q => nomatch q⟩
    · rw [q]; exact ⟨_, hTO, fun v q => nomatch q⟩
    · rw [q]; exact ZS.obj (z := z1) st1
    · rw [q]; exact ZS.obj (z := z2) st2
    · rw [q]; exact ZS.obj (z := z3) st3
  keep := fun i h h' st k => by
    obtain ⟨hz, hTI, ⟨x1, x2, x3, hTO⟩, st1, st2, st3⟩ := st
    exact ⟨k _ (by simp) _ hz, k _ (by simp) _ hTI, ⟨x1, x2, x3, k _ (by simp) _ hTO⟩, ZS.move (z := z1) (fun o q => k _ (by simp) o q) st1, ZS.move (z := z2) (fun o q => k _ (by simp) o q) st2, ZS.move (z := z3) (fun o q => k _ (by simp) o q) st3⟩
  item := by
    intro X hP hw hK hc i pins s σ H E I hf st hg
    subst hP hw hK
    obtain ⟨hz, hTI, ⟨y1, y2, y3, hTO⟩, st1, st2, st3⟩ := st
    obtain ⟨xs1, xs2, xs3, x1, x2, x3, q1, q2, q3, h1, h2, h3⟩ := hg
    have hh : X.A.in1.handled = none := I.ok.hd hc
    obtain ⟨fp1, P1, St1, D1, m1, f1, s1, b1, p1⟩ := z1.draws (A := X.A.in1) I q1 hh (ZS.off_of (by omega) l1) st1
    have nf1 : ∀ c, n ≤ c → c ≠ n → c ∉ fp1 := fun c h1 h2 h3 => by
      rcases f1 c h3 with e | e
      · exact h2 e
      · exact e (ZS.off_of h1 l1)
    obtain ⟨fp2, P2, St2, D2, m2, f2, s2, b2, p2⟩ := z2.draws (A := X.A.in1) I q2 hh (ZS.off_of (by omega) l2) st2
    have nf2 : ∀ c, n ≤ c → c ≠ n + 1 → c ∉ fp2 := fun c h1 h2 h3 => by
      rcases f2 c h3 with e | e
      · exact h2 e
      · exact e (ZS.off_of h1 l2)
    obtain ⟨fp3, P3, St3, D3, m3, f3, s3, b3, p3⟩ := z3.draws (A := X.A.in1) I q3 hh (ZS.off_of (by omega) l3) st3
    have nf3 : ∀ c, n ≤ c → c ≠ n + 2 → c ∉ fp3 := fun c h1 h2 h3 => by
      rcases f3 c h3 with e | e
      · exact h2 e
      · exact e (ZS.off_of h1 l3)
    have t1 : i < xs1.length := (List.getElem?_eq_some_iff.mp h1).1
    have t2 : i < xs2.length := (List.getElem?_eq_some_iff.mp h2).1
    have t3 : i < xs3.length := (List.getElem?_eq_some_iff.mp h3).1
    have hzl : n + 5 < s.heap.objs.size := Heap.lt_size hz
    have S : ZipSep3 (n + 5) (n + 3) (n + 4) (n) (n + 1) (n + 2) fp1 fp2 fp3 := { TIz := (ne' (a := n + 3) (b := n + 5) (by omega)), TOz := (ne' (a := n + 4) (b := n + 5) (by omega)), TITO := (ne' (a := n + 3) (b := n + 4) (by omega)), TIi1 := (ne' (a := n + 3) (b := n) (by omega)), mem1 := m1, zf1 := nf1 (n + 5) (by omega) (ne' (a := n + 5) (b := n) (by omega)), Tf1 := nf1 (n + 4) (by omega) (ne' (a := n + 4) (b := n) (by omega)), TIi2 := (ne' (a := n + 3) (b := n + 1) (by omega)), mem2 := m2, zf2 := nf2 (n + 5) (by omega) (ne' (a := n + 5) (b := n + 1) (by omega)), Tf2 := nf2 (n + 4) (by omega) (ne' (a := n + 4) (b := n + 1) (by omega)), TIi3 := (ne' (a := n + 3) (b := n + 2) (by omega)), mem3 := m3, zf3 := nf3 (n + 5) (by omega) (ne' (a := n + 5) (b := n + 2) (by omega)), Tf3 := nf3 (n + 4) (by omega) (ne' (a := n + 4) (b := n + 2) (by omega)), sep1_2 := nf2 (n) (by omega) (ne' (a := n) (b := n + 1) (by omega)), sep1_3 := nf3 (n) (by omega) (ne' (a := n) (b := n + 2) (by omega)), sep2_1 := nf1 (n + 1) (by omega) (ne' (a := n + 1) (b := n) (by omega)), sep2_3 := nf3 (n + 1) (by omega) (ne' (a := n + 1) (b := n + 2) (by omega)), sep3_1 := nf1 (n + 2) (by omega) (ne' (a := n + 2) (b := n) (by omega)), sep3_2 := nf2 (n + 2) (by omega) (ne' (a := n + 2) (b := n + 1) (by omega)) }
    refine wpAny_pyNext_zipD3_item S D1 D2 D3 hz hTI hTO s1 s2 s3 t1 t2 t3 fun u1 u2 u3 h' tk g1 g2 g3 z' TO' w1 w2 w3 hT hsz hk => ?_
    refine ⟨_, rfl, wpAny_letOwnedTupleGo_zip (s := { s with heap := h', toks := tk }) z' fun h'' z'' sb => ?_⟩
    obtain ⟨x1', e1, ru1⟩ := p1 i u1 g1
    rw [h1] at e1
    cases Option.some.inj e1
    obtain ⟨x2', e2, ru2⟩ := p2 i u2 g2
    rw [h2] at e2
    cases Option.some.inj e2
    obtain ⟨x3', e3, ru3⟩ := p3 i u3 g3
    rw [h3] at e3
    cases Option.some.inj e3
    have hT2 : h''.get? s.heap.objs.size = some { cls := .type "tuple", data := .seq #[u1, u2, u3] } := (sb.2 _ (Nat.ne_of_gt hzl)).trans hT
    have new : ObjOk X.prog X.w (upd H s.heap.objs.size (.tup [x1, x2, x3])) h'' s.heap.objs.size (.tup [x1, x2, x3]) :=
      ⟨by show 3 ≤ sizeLine; decide, [u1, u2, u3], .cons ru1 (.cons ru2 (.cons ru3 (.nil))), ⟨_, hT2, rfl, _, rfl⟩⟩
    have out5 : ∀ c, c ∉ [n + 5, n + 3, n + 4, n, n + 1, n + 2] → c ≠ n + 5 ∧ c ≠ n + 4 ∧ c ≠ n ∧ c ≠ n + 1 ∧ c ≠ n + 2 := fun c hb => ⟨fun q' => hb (by simp [q']), fun q' => hb (by simp [q']), fun q' => hb (by simp [q']), fun q' => hb (by simp [q']), fun q' => hb (by simp [q'])⟩
    have I1 : Inv X pins σ (upd H s.heap.objs.size (.tup [x1, x2, x3])) { s with heap := h'', toks := tk } :=
      I.turnedNew (t' := tk) (ch := [n + 5, n + 3, n + 4, n, n + 1, n + 2]) (fun c o hb q => by
        obtain ⟨a1, a2, b1', b2', b3'⟩ := out5 c hb
        exact (sb.2 c a1).trans (hk c o a1 a2 b1' b2' b3' q)) hf (Nat.le_refl _) new
    refine ⟨.ref s.heap.objs.size, _, I1, rfl, ⟨_, x1, x2, x3, rfl, I.hok.fresh (Nat.le_refl _), rfl, fun l hl => by rw [ZS.inj I hl q1]; exact h1, fun l hl => by rw [ZS.inj I hl q2]; exact h2, fun l hl => by rw [ZS.inj I hl q3]; exact h3⟩, ⟨z'', ?_, ⟨u1, u2, u3, ?_⟩, ?_, ?_, ?_⟩, fun c hcm => ?_⟩
    · exact (sb.2 (n + 3) (ne' (a := n + 3) (b := n + 5) (by omega))).trans (hk (n + 3) _ (ne' (a := n + 3) (b := n + 5) (by omega)) (ne' (a := n + 3) (b := n + 4) (by omega)) (ne' (a := n + 3) (b := n) (by omega)) (ne' (a := n + 3) (b := n + 1) (by omega)) (ne' (a := n + 3) (b := n + 2) (by omega)) hTI)
    · exact (sb.2 (n + 4) (ne' (a := n + 4) (b := n + 5) (by omega))).trans TO'
    · exact ZS.move (z := z1) (fun o q => (sb.2 (n) (ne' (a := n) (b := n + 5) (by omega))).trans q) (b1 _ _ w1)
    · exact ZS.move (z := z2) (fun o q => (sb.2 (n + 1) (ne' (a := n + 1) (b := n + 5) (by omega))).trans q) (b2 _ _ w2)
    · exact ZS.move (z := z3) (fun o q => (sb.2 (n + 2) (ne' (a := n + 2) (b := n + 5) (by omega))).trans q) (b3 _ _ w3)
    · have hlt : c < s.heap.objs.size := by
        have e' : c = n + 5 ∨ c = n + 3 ∨ c = n + 4 ∨ c = n ∨ c = n + 1 ∨ c = n + 2 := by simpa using hcm
        rcases e' with q | q | q | q | q | q
        · rw [q]; exact (show (n + 5 : Nat) < s.heap.objs.size by omega)
        · rw [q]; exact (show (n + 3 : Nat) < s.heap.objs.size by omega)
        · rw [q]; exact (show (n + 4 : Nat) < s.heap.objs.size by omega)
        · rw [q]; exact (show (n : Nat) < s.heap.objs.size by omega)
        · rw [q]; exact (show (n + 1 : Nat) < s.heap.objs.size by omega)
        · rw [q]; exact (show (n + 2 : Nat) < s.heap.objs.size by omega)
      rw [upd_ne (Nat.ne_of_lt hlt)]
      exact (hf c hcm).1
  done := by
    intro X hP hw hK hc i pins s σ H E I hf st hg
    subst hP hw hK
    obtain ⟨hz, hTI, ⟨y1, y2, y3, hTO⟩, st1, st2, st3⟩ := st
    obtain ⟨xs1, xs2, xs3, q1, q2, q3, t1, t2, t3, hend⟩ := hg
    have hh : X.A.in1.handled = none := I.ok.hd hc
    obtain ⟨fp1, P1, St1, D1, m1, f1, s1, b1, p1⟩ := z1.draws (A := X.A.in1) I q1 hh (ZS.off_of (by omega) l1) st1
    have nf1 : ∀ c, n ≤ c → c ≠ n → c ∉ fp1 := fun c h1 h2 h3 => by
      rcases f1 c h3 with e | e
      · exact h2 e
      · exact e (ZS.off_of h1 l1)
    obtain ⟨fp2, P2, St2, D2, m2, f2, s2, b2, p2⟩ := z2.draws (A := X.A.in1) I q2 hh (ZS.off_of (by omega) l2) st2
    have nf2 : ∀ c, n ≤ c → c ≠ n + 1 → c ∉ fp2 := fun c h1 h2 h3 => by
      rcases f2 c h3 with e | e
      · exact h2 e
      · exact e (ZS.off_of h1 l2)
    obtain ⟨fp3, P3, St3, D3, m3, f3, s3, b3, p3⟩ := z3.draws (A := X.A.in1) I q3 hh (ZS.off_of (by omega) l3) st3
    have nf3 : ∀ c, n ≤ c → c ≠ n + 2 → c ∉ fp3 := fun c h1 h2 h3 => by
      rcases f3 c h3 with e | e
      · exact h2 e
      · exact e (ZS.off_of h1 l3)
    have S : ZipSep3 (n + 5) (n + 3) (n + 4) (n) (n + 1) (n + 2) fp1 fp2 fp3 := { TIz := (ne' (a := n + 3) (b := n + 5) (by omega)), TOz := (ne' (a := n + 4) (b := n + 5) (by omega)), TITO := (ne' (a := n + 3) (b := n + 4) (by omega)), TIi1 := (ne' (a := n + 3) (b := n) (by omega)), mem1 := m1, zf1 := nf1 (n + 5) (by omega) (ne' (a := n + 5) (b := n) (by omega)), Tf1 := nf1 (n + 4) (by omega) (ne' (a := n + 4) (b := n) (by omega)), TIi2 := (ne' (a := n + 3) (b := n + 1) (by omega)), mem2 := m2, zf2 := nf2 (n + 5) (by omega) (ne' (a := n + 5) (b := n + 1) (by omega)), Tf2 := nf2 (n + 4) (by omega) (ne' (a := n + 4) (b := n + 1) (by omega)), TIi3 := (ne' (a := n + 3) (b := n + 2) (by omega)), mem3 := m3, zf3 := nf3 (n + 5) (by omega) (ne' (a := n + 5) (b := n + 2) (by omega)), Tf3 := nf3 (n + 4) (by omega) (ne' (a := n + 4) (b := n + 2) (by omega)), sep1_2 := nf2 (n) (by omega) (ne' (a := n) (b := n + 1) (by omega)), sep1_3 := nf3 (n) (by omega) (ne' (a := n) (b := n + 2) (by omega)), sep2_1 := nf1 (n + 1) (by omega) (ne' (a := n + 1) (b := n) (by omega)), sep2_3 := nf3 (n + 1) (by omega) (ne' (a := n + 1) (b := n + 2) (by omega)), sep3_1 := nf1 (n + 2) (by omega) (ne' (a := n + 2) (b := n) (by omega)), sep3_2 := nf2 (n + 2) (by omega) (ne' (a := n + 2) (b := n + 1) (by omega)) }
    exact wpAny_pyNext_zipD3_end S D1 D2 D3 hz hTI hTO s1 s2 s3 t1 t2 t3 hend fun h' tk hk => ⟨rfl, I.turnedL (t' := tk) (ch := [n + 5, n + 3, n + 4, n, n + 1, n + 2]) (fun c o hb q =>
      hk c o (fun q' => hb (by simp [q'])) (fun q' => hb (by simp [q'])) (fun q' => hb (by simp [q'])) (fun q' => hb (by simp [q'])) (fun q' => hb (by simp [q'])) q) hf⟩
  self := fun A i s Q E st h => wpAny_pyIter_zip st.1 h
def iZip3 (K : PySem.W.Frag) (ta : TA) : TI := fun σ H R => ta σ H fun vs H1 => ∃ (z1 z2 z3 : ZS) (xs1 xs2 xs3 : List V), vs = [z1.val, z2.val, z3.val] ∧ z1.at K H1 xs1 ∧ z2.at K H1 xs2 ∧ z3.at K H1 xs3 ∧ R (Itz3 K z1 z2 z3) H1
theorem pi_zip3 {X : Cx} {e e2 e3 : Expr} {ta : TA} {p pos tpos : Pos} {elts : List Expr} {kk : Nat} (hg : Gl X "zip") (hm : X.mg "zip" = none) (ha : PA X [e, e2, e3] ta)
    (hs : starEach [e, e2, e3] X.env = (false, eval e X.env) :: starEach [e2, e3] X.env := by rfl) (hpl : (backTo pos (starEach [e2, e3] X.env)).any (·.1) = false := by rfl) :
    PI X (.Tuple elts kk tpos) (.Call (.Name "zip" p) [e, e2, e3] [] pos) (iZip3 X.K ta) := by
  refine ⟨fun pins s σ H R I h => ?_⟩
  refine Call_ (ld_blt I hg hm PyProof.Rows.boot_zip (PyProof.Rows.callWith_type1 (thn (ha.run pos pins s σ H _ I h) fun us s1 ⟨vs, H1, I1, r1, q1⟩ => ?_) hs hpl))
  obtain ⟨z1, z2, z3, xs1, xs2, xs3, ex, q1, q2, q3, q⟩ := q1
  subst ex
  cases r1 with
  | cons r1 rr =>
    cases rr with
    | cons r2 rr =>
      cases rr with
      | cons r3 rr =>
        cases rr
        obtain ⟨o1, G1, B1, h1, i1, l1⟩ := z1.begins I1 q1 r1
        obtain ⟨o2, G2, B2, h2, i2, l2⟩ := z2.begins I1 q2 r2
        obtain ⟨o3, G3, B3, h3, i3, l3⟩ := z3.begins I1 q3 r3
        have fresh5 : ∀ c, c ∈ [s1.heap.objs.size + 5, s1.heap.objs.size + 3, s1.heap.objs.size + 4, s1.heap.objs.size, s1.heap.objs.size + 1, s1.heap.objs.size + 2] → FpOk X pins H1 c := fun c hcm => by
          have e' : c = s1.heap.objs.size + 5 ∨ c = s1.heap.objs.size + 3 ∨ c = s1.heap.objs.size + 4 ∨ c = s1.heap.objs.size ∨ c = s1.heap.objs.size + 1 ∨ c = s1.heap.objs.size + 2 := by simpa using hcm
          have hle : s1.heap.objs.size ≤ c := by omega
          exact I1.fpOk hle (I1.hok.fresh hle)
        refine zip_begins3 B1 B2 B3 h1 h2 h3 fun h' hz hTI hTO g1 g2 g3 hsz hk => wpAny_pyIter_zip hz ?_
        have I2 : Inv X pins σ H1 { s1 with heap := h' } := I1.kept (t' := s1.toks) hk
        exact ⟨s1.heap.objs.size + 5, [s1.heap.objs.size + 5, s1.heap.objs.size + 3, s1.heap.objs.size + 4, s1.heap.objs.size, s1.heap.objs.size + 1, s1.heap.objs.size + 2], _, _, H1, rfl, I2, turn_zip3 l1 l2 l3, ⟨hz, hTI, ⟨_, _, _, hTO⟩, i1 _ _ g1, i2 _ _ g2, i3 _ _ g3⟩, fresh5, q⟩
theorem for_zip3 {K : PySem.W.Frag} {z1 z2 z3 : ZS} {xs1 xs2 xs3 : List V} {n : Nat} {g : TG} {tb : TS} {D : Ends} {σ : L2.St} {H : Hp} (n1 : xs1.length = n) (n2 : xs2.length = n) (n3 : xs3.length = n) (Pv : Nat → L2.St → Hp → Prop) (h0 : Pv 0 σ H) (hl : ∀ i σ H, i ≤ n → Pv i σ H → z1.at K H xs1 ∧ z2.at K H xs2 ∧ z3.at K H xs3)
    (hs : ∀ (i : Nat) (x1 x2 x3 : V) (T : Addr) (σ : L2.St) (H : Hp), xs1[i]? = some x1 → xs2[i]? = some x2 → xs3[i]? = some x3 → H T = none → Pv i σ H → g (.ref T) σ (upd H T (.tup [x1, x2, x3])) fun σ2 H2 => tb { D with nx := Pv (i + 1), ct := Pv (i + 1), bk := D.nx } σ2 H2) (hd : ∀ σ H, Pv n σ H → D.nx σ H) :
    ∃ W : Nat → Nat → L2.St → Hp → Prop, (∃ m, W 0 m σ H) ∧ ∀ i m σ H, W i m σ H →
      ((Itz3 K z1 z2 z3).stop i H ∧ D.nx σ H) ∨ ((Itz3 K z1 z2 z3).go i H ∧ ∃ N : L2.St → Hp → Prop, (∀ σ' H', N σ' H' → ∃ m', m' < m ∧ W (i + 1) m' σ' H') ∧ ∀ v H', (Itz3 K z1 z2 z3).yld i H v H' → g v σ H' fun σ2 H2 => tb { D with nx := N, ct := N, bk := D.nx } σ2 H2) := by
  refine ⟨fun i m σ H => m = n - i ∧ i ≤ n ∧ Pv i σ H, ⟨n, rfl, Nat.zero_le _, h0⟩, ?_⟩
  rintro i m σ H ⟨rfl, hi, p⟩
  obtain ⟨q1, q2, q3⟩ := hl i σ H hi p
  by_cases hlt : i < n
  · have e1 : xs1[i]? = some (xs1[i]'(by omega)) := List.getElem?_eq_getElem _
    have e2 : xs2[i]? = some (xs2[i]'(by omega)) := List.getElem?_eq_getElem _
    have e3 : xs3[i]? = some (xs3[i]'(by omega)) := List.getElem?_eq_getElem _
    refine .inr ⟨⟨xs1, xs2, xs3, _, _, _, q1, q2, q3, e1, e2, e3⟩, Pv (i + 1), fun σ' H' p' => ⟨n - (i + 1), by omega, rfl, hlt, p'⟩, fun v H' y => ?_⟩
    obtain ⟨T, y1, y2, y3, rfl, hT, rfl, f1, f2, f3⟩ := y
    exact hs i y1 y2 y3 T σ H (f1 xs1 q1) (f2 xs2 q2) (f3 xs3 q3) hT p
  · have e : i = n := by omega
    subst e
    exact .inl ⟨⟨xs1, xs2, xs3, q1, q2, q3, by omega, by omega, by omega, .inl (by omega)⟩, hd σ H p⟩
theorem lc_zip3 {K : PySem.W.Frag} {z1 z2 z3 : ZS} {xs1 xs2 xs3 : List V} {n : Nat} {g : TG} {tt : TT} {te : TE} {vs : List Nat} {σ : L2.St} {H1 : Hp} {D : Addr} {Qd : Hp → Prop} (n1 : xs1.length = n) (n2 : xs2.length = n) (n3 : xs3.length = n) (Pv : Nat → Hp → Prop) (h0 : Pv 0 (upd H1 D (.lst []))) (hl : ∀ i H, i ≤ n → Pv i H → z1.at K H xs1 ∧ z2.at K H xs2 ∧ z3.at K H xs3)
    (hs : ∀ (i : Nat) (x1 x2 x3 : V) (T : Addr) (H : Hp), xs1[i]? = some x1 → xs2[i]? = some x2 → xs3[i]? = some x3 → H T = none → Pv i H → g (.ref T) (wipe σ vs) (upd H T (.tup [x1, x2, x3])) fun σ2 H2 => wipe σ2 vs = wipe σ vs ∧ tt σ2 H2 fun b H3 =>
      if b = true then te σ2 H3 fun y H4 => ∃ acc, H4 D = some (.lst acc) ∧ acc.length < sizeLine ∧ Pv (i + 1) (upd H4 D (.lst (acc ++ [y]))) else Pv (i + 1) H3) (hd : ∀ H, Pv n H → Qd H) :
    ∃ W : Nat → Nat → Hp → Prop, (∃ m, W 0 m (upd H1 D (.lst []))) ∧ ∀ i m H, W i m H →
      ((Itz3 K z1 z2 z3).stop i H ∧ Qd H) ∨ ((Itz3 K z1 z2 z3).go i H ∧ ∃ Nx : Hp → Prop, (∀ H', Nx H' → ∃ m', m' < m ∧ W (i + 1) m' H') ∧ ∀ x H', (Itz3 K z1 z2 z3).yld i H x H' → g x (wipe σ vs) H' fun σ2 H2 => wipe σ2 vs = wipe σ vs ∧ tt σ2 H2 fun b H3 =>
        if b = true then te σ2 H3 fun y H4 => ∃ acc, H4 D = some (.lst acc) ∧ acc.length < sizeLine ∧ Nx (upd H4 D (.lst (acc ++ [y]))) else Nx H3) := by
  refine ⟨fun i m H => m = n - i ∧ i ≤ n ∧ Pv i H, ⟨n, by simp, Nat.zero_le _, h0⟩, ?_⟩
  rintro i m H ⟨rfl, hi, p⟩
  obtain ⟨q1, q2, q3⟩ := hl i H hi p
  by_cases hlt : i < n
  · have e1 : xs1[i]? = some (xs1[i]'(by omega)) := List.getElem?_eq_getElem _
    have e2 : xs2[i]? = some (xs2[i]'(by omega)) := List.getElem?_eq_getElem _
    have e3 : xs3[i]? = some (xs3[i]'(by omega)) := List.getElem?_eq_getElem _
    refine .inr ⟨⟨xs1, xs2, xs3, _, _, _, q1, q2, q3, e1, e2, e3⟩, Pv (i + 1), fun H' p' => ⟨n - (i + 1), by omega, rfl, hlt, p'⟩, fun v H' y => ?_⟩
    obtain ⟨T, y1, y2, y3, rfl, hT, rfl, f1, f2, f3⟩ := y
    exact hs i y1 y2 y3 T H (f1 xs1 q1) (f2 xs2 q2) (f3 xs3 q3) hT p
  · have e : i = n := by omega
    subst e
    exact .inl ⟨⟨xs1, xs2, xs3, q1, q2, q3, by omega, by omega, by omega, .inl (by omega)⟩, hd H p⟩
theorem gx_zip3 {α : Type} {K : PySem.W.Frag} {z1 z2 z3 : ZS} {xs1 xs2 xs3 : List V} {n : Nat} {g : TG} {tt : TT} {te : TE} {vs : List Nat} {σ0 : L2.St} {End : α → Hp → Prop} {Yd : α → V → Hp → (α → Hp → Prop) → Prop} {a0 : α} {H0 : Hp} (n1 : xs1.length = n) (n2 : xs2.length = n) (n3 : xs3.length = n) (Pv : Nat → α → Hp → Prop) (h0 : Pv 0 a0 H0) (hl : ∀ i c H, i ≤ n → Pv i c H → z1.at K H xs1 ∧ z2.at K H xs2 ∧ z3.at K H xs3)
    (hs : ∀ (i : Nat) (x1 x2 x3 : V) (T : Addr) (c : α) (H : Hp), xs1[i]? = some x1 → xs2[i]? = some x2 → xs3[i]? = some x3 → H T = none → Pv i c H → g (.ref T) σ0 (upd H T (.tup [x1, x2, x3])) fun σ2 H2 => wipe σ2 vs = σ0 ∧ tt σ2 H2 fun b H3 => if b = true then te σ2 H3 fun y H4 => Yd c y H4 (Pv (i + 1)) else Pv (i + 1) c H3) (hd : ∀ c H, Pv n c H → End c H) :
    ∃ W : Nat → Nat → α → Hp → Prop, (∃ m, W 0 m a0 H0) ∧ tGx (Itz3 K z1 z2 z3) g tt te σ0 vs End Yd W := by
  refine ⟨fun i m c H => m = n - i ∧ i ≤ n ∧ Pv i c H, ⟨n, rfl, Nat.zero_le _, h0⟩, ?_⟩
  rintro i m c H ⟨rfl, hi, p⟩
  obtain ⟨q1, q2, q3⟩ := hl i c H hi p
  by_cases hlt : i < n
  · have e1 : xs1[i]? = some (xs1[i]'(by omega)) := List.getElem?_eq_getElem _
    have e2 : xs2[i]? = some (xs2[i]'(by omega)) := List.getElem?_eq_getElem _
    have e3 : xs3[i]? = some (xs3[i]'(by omega)) := List.getElem?_eq_getElem _
    refine .inr ⟨⟨xs1, xs2, xs3, _, _, _, q1, q2, q3, e1, e2, e3⟩, Pv (i + 1), fun c' H' p' => ⟨n - (i + 1), by omega, rfl, hlt, p'⟩, fun v H' y => ?_⟩
    obtain ⟨T, y1, y2, y3, rfl, hT, rfl, f1, f2, f3⟩ := y
    exact hs i y1 y2 y3 T c H (f1 xs1 q1) (f2 xs2 q2) (f3 xs3 q3) hT p
  · have e : i = n := by omega
    subst e
    exact .inl ⟨⟨xs1, xs2, xs3, q1, q2, q3, by omega, by omega, by omega, .inl (by omega)⟩, hd c H p⟩
end ZpG

end Gk

--@NEST
set_option Elab.async false
set_option linter.all false
set_option maxRecDepth 100000
set_option maxHeartbeats 1000000
namespace Gk
open PySem PySem.Spec PyProof.Rows L2
namespace SrtS
open PySem PyProof.Rows Srt SrtO
section
variable {prog : Program} {w : World} {A : Around} {E : Value → Shared → Prop} {s : Shared}
def ss : Value → PySem.Str
  | .str x _ => x
  | _ => PySem.Str.empty
def ltC (a b : PySem.Str) : Bool := decide (a.cps.toList < b.cps.toList)
def ltSv (v u : Value) : Bool := ltC (ss v) (ss u)
theorem swo_str : Swo ltSv := by
  refine ⟨fun x y h => ?_, fun x y z h1 h2 => ?_⟩
  · exact decide_eq_false (List.lt_asymm (of_decide_eq_true h))
  · have a := of_decide_eq_false h1
    have b := of_decide_eq_false h2
    exact decide_eq_false (List.not_lt.mpr (List.le_trans (List.not_lt.mp a) (List.not_lt.mp b)))
theorem strs_mem : ∀ {vs : List Value} {ns : List PySem.Str}, StrsAre vs ns → ∀ v ∈ vs, ∃ i t, v = Value.str i t
  | _, _, .nil, v, h => absurd h (by simp)
  | _, _, .cons n t r, v, h => by
    rcases List.mem_cons.mp h with e | h
    · exact ⟨n, t, e⟩
    · exact strs_mem r v h
theorem strs_ss : ∀ {vs : List Value}, (∀ v ∈ vs, ∃ i t, v = Value.str i t) → StrsAre vs (vs.map ss)
  | [], _ => .nil
  | v :: vs, h => by
    obtain ⟨i, t, e⟩ := h v List.mem_cons_self
    subst e
    exact .cons i t (strs_ss fun u hu => h u (List.mem_cons_of_mem _ hu))
theorem ss_strs : ∀ {vs : List Value} {ns : List PySem.Str}, StrsAre vs ns → vs.map ss = ns
  | _, _, .nil => rfl
  | _, _, .cons n t r => congrArg (n :: ·) (ss_strs r)
theorem str_cmp {vs : List Value} {ns : List PySem.Str} (hI : StrsAre vs ns) : SrtO.Cmp prog w A s oneType' (fun p => p.1 ∈ vs) (lt2 ltSv) := by
  intro p q hm hm'
  obtain ⟨a, t, e⟩ := strs_mem hI _ hm
  obtain ⟨b, u, e'⟩ := strs_mem hI _ hm'
  show wpAny (model prog w) A (keyLt' oneType' p.1 q.1) (fun r s' => s' = s ∧ r = ltSv p.1 q.1) (fun _ _ => False) s
  rw [e, e', keyLt'_oneType]
  exact oneLt_str ⟨rfl, rfl⟩
theorem strs_sortable {a : Addr} {vs : List Value} {ns : List PySem.Str} (hI : StrsAre vs ns) (h2 : 2 ≤ vs.length) : SortableO prog w A s a vs ltSv := by
  intro h' _
  refine ⟨oneType', fun Q E hq => ?_, str_cmp hI⟩
  match vs, hI, h2 with
  | v1 :: v2 :: rest, hI, _ =>
    rw [keyKind_strs hI]
    exact wpAny_pure hq
  | [], _, h => exact absurd h (by decide)
  | [v], _, h => exact absurd h (by simp)
theorem strs_out {vs out : List Value} {ns : List PySem.Str} (hI : StrsAre vs ns) (hs : Srtd ltSv out) (hb : Stb ltSv out vs) : StrsAre out (out.map ss) ∧ (out.map ss).Perm ns ∧ (out.map ss).Pairwise (fun x y => ltC y x = false) := by
  refine ⟨strs_ss fun v hv => strs_mem hI v (hb.perm.mem_iff.mp hv), ?_, ?_⟩
  · have q := hb.perm.map ss
    rw [ss_strs hI] at q
    exact q
  · exact List.pairwise_map.mpr (hs.imp fun {x y} h => h)
end
end SrtS
/-- sorted(xs), texts, any number of them -/
def rSortedTx (K : PySem.W.Frag) : List V → Hp → VK → Prop := fun vs H Q => ∃ (a : Addr) (xs : List Str), vs = [V.ref a] ∧ SqL K H a (xs.map V.str) ∧
  ∀ (ys : List Str) (p : Addr), ys.Perm xs → ys.Pairwise (fun x y => SrtS.ltC y x = false) → H p = none → Q (.ref p) (upd H p (.lst (ys.map V.str)))
theorem cr_sortedTx {X : Cx} : CallR X (.builtin "sorted") (rSortedTx X.K) := by
  intro pins s σ H vs us Q I r h
  obtain ⟨a, ns, rfl, hs, q⟩ := h
  obtain ⟨its, rv, hl, hz⟩ := I.list hs
  rw [Vals.ref1 r]
  have hi := rv.strs
  refine SrtO.sorted_ord SrtS.swo_str hl.isList (by rw [← rv.length]; exact hz) (fun h2 h₁ a' _ _ => SrtS.strs_sortable hi h2) fun out h1 h2 => ?_
  obtain ⟨k1, k2, k3⟩ := SrtS.strs_out hi h1 h2
  obtain ⟨ep, he'⟩ := PyProof.Rows.sortedAll_at s.heap its out.toArray
  have hlen : ((out.map SrtS.ss).map V.str).length ≤ sizeLine := by
    rw [List.length_map, k2.length_eq]
    rw [List.length_map] at hz
    exact hz
  exact ⟨.ref _, upd H (s.heap.objs.size + 1) (.lst ((out.map SrtS.ss).map V.str)), I.laid (t' := s.toks) (fun _ _ => PyProof.Rows.sortedAll_old) (Nat.le_succ _) ⟨hlen, out, ep, vals_of_strs k1, he'⟩, rfl, q _ _ k2 k3 (I.hok.fresh (Nat.le_succ _))⟩
/-- two sorted lists of the same texts are one -/
theorem ltC_antisymm {x y : Str} (h1 : SrtS.ltC x y = false) (h2 : SrtS.ltC y x = false) : x = y := by
  have a := List.not_lt.mp (of_decide_eq_false h1)
  have b := List.not_lt.mp (of_decide_eq_false h2)
  have e := List.le_antisymm b a
  cases x; cases y
  congr 1
  exact Array.toList_inj.mp e
theorem sorted_uniq {ys zs : List Str} (p : ys.Perm zs) (h1 : ys.Pairwise (fun x y => SrtS.ltC y x = false)) (h2 : zs.Pairwise (fun x y => SrtS.ltC y x = false)) : ys = zs :=
  List.Perm.eq_of_pairwise (fun a b _ _ u v => (ltC_antisymm v u)) h1 h2 p

end Gk

--@NEST
set_option Elab.async false
set_option linter.all false
set_option maxRecDepth 100000
set_option maxHeartbeats 1000000
set_option pp.maxSteps 1500
namespace Gk
open PySem PySem.Spec PyProof.Rows L2
/-! ### sorted(d) of a dict with texts as keys, any number of them -/
namespace SrtDx
section
variable {X : Cx}
def rSortDx : List V → Hp → VK → Prop := fun vs H Q => ∃ (a : Addr) (kvs : List (Key × V)) (ks : List PySem.Str), vs = [V.ref a] ∧ H a = some (.dK kvs) ∧ kvs.map (·.1) = ks.map Sum.inr ∧
  ∀ (ys : List PySem.Str) (p : Addr), ys.Perm ks → ys.Pairwise (fun x y => SrtS.ltC y x = false) → H p = none → Q (.ref p) (upd H p (.lst (ys.map V.str)))
theorem key_text {k : Key} {x : PySem.Str} {v : Value} (e : k = Sum.inr x) (h : keyIs k v = true) : ∃ t, v = Value.str x t := by
  subst e
  exact Value.isStrOf_shape h
theorem cr_sortedDx (hc : X.calm = true) : CallR X (.builtin "sorted") rSortDx := by
  intro pins s σ H xs us Q I r h
  obtain ⟨a, kvs, ks, rfl, hd, hk, q⟩ := h
  rw [Vals.ref1 r]
  obtain ⟨big, lo, vs, rel, at_⟩ : kvs.length ≤ sizeLine ∧ (a == sysModules) = false ∧ ∃ vs, KV kvs vs ∧ s.heap.DictOf (mixKind X.prog X.w) a vs := I.hok a _ hd
  obtain ⟨ep, at2⟩ := at_.dictAt
  have keys : vs.map (·.1) = ks.map Sum.inr := rel.keys.symm.trans hk
  have len : vs.length = ks.length := by simpa using congrArg List.length keys
  have len2 : kvs.length = ks.length := by simpa using congrArg List.length hk
  refine Calls.call_function_entry (kind_sorted) (plain_sorted) (entry_sorted) (args_sorted1 _) ?_
  unfold Builtin.«sorted»
  refine wpAny_bind (m := checkCount "sorted" 1 1 _) (wpAny_pure ?_)
  refine wpAny_bind (PySem.W.kdu_collect (A := X.A.in1) (PySem.W.kdl_dict (knd := mixKind X.prog X.w) (kvs := vs) (ep := ep) lo) (I.ok.hd hc) at2 (show vs.length ≤ sizeLine by omega) fun h' tk acc old got => ?_)
  have accl : acc.toList.length = ks.length := by rw [Array.length_toList, got.1, len]
  have txs : StrsAre acc.toList ks := strs_at accl fun j v e => by
    obtain ⟨k, x, e1, e2⟩ := got.2 j v (by rw [← Array.getElem?_toList]; exact e)
    have e3 : (ks.map Sum.inr)[j]? = some k := by
      rw [← keys, List.getElem?_map, e1]
      rfl
    rw [List.getElem?_map] at e3
    obtain ⟨y, e4, e5⟩ := Option.map_eq_some_iff.mp e3
    obtain ⟨t, ev⟩ := key_text e5.symm e2
    exact ⟨y, t, e4, ev⟩
  have sl : acc.toList.length ≤ sizeLine := by omega
  have I1 : Inv X pins σ H { s with heap := h', toks := tk } := I.kept old
  refine wpAny_bind (wpAny_newList ?_ sl)
  have hL : (h'.push (seqObj "list" acc.toList.toArray 0)).get? h'.objs.size = some (seqObj "list" acc.toList.toArray 0) := Heap.get?_push_size _ rfl
  refine wpAny_bind (wpAny_holding (wpAny_call_entry (slot_list_sort) ⟨_, hL, rfl⟩ (entry_list_sort) (SrtO.list_sort_ord SrtS.swo_str hL sl (fun two => SrtS.strs_sortable txs two) fun out k1 k2 => ⟨_, rfl, ?_⟩) (args_list_sort _)))
  obtain ⟨c, hcc⟩ := sortedHeap_at (vs := acc.toList) (out := out.toArray) hL
  obtain ⟨k3, k4, k5⟩ := SrtS.strs_out txs k1 k2
  have few : ((out.map SrtS.ss).map V.str).length ≤ sizeLine := by
    rw [List.length_map, k4.length_eq]
    omega
  exact wpAny_pure ⟨_, rfl, .ref h'.objs.size, upd H h'.objs.size (.lst ((out.map SrtS.ss).map V.str)), I1.laid (t' := tk) (fun b u e => by
    have e1 : h'.get? b = some u := e
    have lt := Heap.lt_size e1
    show (sortedHeap (h'.push (seqObj "list" acc.toList.toArray 0)) h'.objs.size acc.toList out.toArray).get? b = some u
    rw [sortedHeap_old (Nat.ne_of_lt lt) (by rw [size_push']; exact Nat.lt_succ_of_lt lt)]
    exact Heap.get?_push_of_some _ e1) (Nat.le_refl _) ⟨few, out, c, vals_of_strs k3, hcc⟩, rfl, q _ _ k4 k5 (I1.hok.fresh (Nat.le_refl _))⟩
end
end SrtDx

end Gk

--@NEST
set_option Elab.async false
set_option linter.all false
set_option maxRecDepth 100000
set_option maxHeartbeats 1000000
set_option pp.maxSteps 1500
namespace Gk
open PySem PySem.Spec PyProof.Rows L2
/-! ### set(xs) of texts (a list or a tuple of them), sorted(set(..)) -/
namespace StX
open PySem PySem.Spec PyProof.Rows L2
section
variable {P : Program} {w : World} {A : Around} {E : Value → Shared → Prop} {s : Shared} {a : Addr}
def tx (e : Int × Value) : PySem.Str := match e.2 with
  | .str x _ => x
  | _ => PySem.Str.empty
abbrev Led (w : World) (t : SetTable) : Prop := w.params.followText "set-order" = true ∨ t.led = true
/-- entries whose texts are just those of xs, each once -/
structure Ent (P : Program) (w : World) (es : Array (Int × Value)) (xs : List PySem.Str) (n : Nat) : Prop where
  el : ElemsOf (PySem.strKind P w) es.toList
  nd : (es.toList.map tx).Nodup
  mem : ∀ x, x ∈ es.toList.map tx ↔ x ∈ xs
  few : es.size ≤ n
def TSet (P : Program) (w : World) (h : Heap) (a : Addr) (xs : List PySem.Str) (n : Nat) : Prop :=
  ∃ o es ep t, h.get? a = some o ∧ o.ExactSet ∧ o.data = .set es ep t ∧ Ent P w es xs n ∧ t.fits es.size = true ∧ Ris t.place.toList ∧ Led w t
theorem TSet.stays {h h' : Heap} {xs : List PySem.Str} {n : Nat} (R : TSet P w h a xs n) (k : ∀ o, h.get? a = some o → h'.get? a = some o) : TSet P w h' a xs n := by
  obtain ⟨o, es, ep, t, z, r⟩ := R
  exact ⟨o, es, ep, t, k o z, r⟩
theorem kind_is (x : PySem.Str) (tk : Tok) : (PySem.strKind P w).is x (.str x tk) = true := by
  show (x == x) = true
  exact beq_self_eq_true x
theorem el_tx {l : List (Int × Value)} (el : ElemsOf (PySem.strKind P w) l) {e : Int × Value} (he : e ∈ l) : ∃ tk, e.2 = .str (tx e) tk := by
  obtain ⟨⟨k, h, _⟩, _⟩ := el e he
  obtain ⟨tk, q⟩ := Value.isStrOf_shape h
  refine ⟨tk, ?_⟩
  unfold tx
  rw [q]
theorem el_is {l : List (Int × Value)} (el : ElemsOf (PySem.strKind P w) l) {e : Int × Value} (he : e ∈ l) (k : PySem.Str) : (PySem.strKind P w).is k e.2 = true ↔ tx e = k := by
  obtain ⟨tk, q⟩ := el_tx el he
  rw [q]
  show ((tx e == k) = true) ↔ _
  exact beq_iff_eq
/-- the entries stored, and the table laid anew where it is full -/
theorem store_all {tail : Bool → Sem Unit} (ht : ∀ (b : Bool) (z : Shared) (R : Unit → Shared → Prop), R () z → wpAny (model P w) A (tail b) R E z)
    {o : Obj} {es es1 : Array (Int × Value)} {ep : Nat} {t t2 : SetTable} {xs : List PySem.Str} {n : Nat} {was : Bool} {R : Option Bool → Shared → Prop} (u1 : s.heap.get? a = some o) (u2 : o.ExactSet) (u3 : o.data = .set es ep t)
    (u4 : Ent P w es1 xs n) (u5 : n < scanBound) (u6 : t2.fits es1.size = true) (u7 : Ris t2.place.toList) (u8 : Led w t2) (q : ∀ h', Heap.SameBut a s.heap h' → TSet P w h' a xs n → R (some true) { s with heap := h' }) :
    wpAny (model P w) A (do
        storeSet a es1 t2
        if (!was && t2.tooFull) = true then do
            tail (relayAll t2 es1 (SetTable.grown es1.size)).2.2
            storeSet a (relayAll t2 es1 (SetTable.grown es1.size)).1 (relayAll t2 es1 (SetTable.grown es1.size)).2.1
            pure (some true)
          else pure (some true)) R E s := by
  have sz1 : es1.size < scanBound := Nat.lt_of_le_of_lt u4.few u5
  have st1 := store_at (es' := es1) (t' := t2) u1 u3
  have but1 := Heap.SameBut.update s.heap a (Obj.putSet es1 t2)
  refine wpAny_bind (wpAny_storeSet_of u1 u3 ?_ (fits_of_scanBound sz1))
  by_cases full : (!was && t2.tooFull) = true
  · rw [if_pos full]
    have y1 := relayAll_perm t2 es1 (SetTable.grown es1.size)
    have y2 := relayAll_fits t2 es1 (SetTable.grown es1.size)
    have y3 := relayAll_ris t2 es1 (SetTable.grown es1.size)
    have y4 := relayAll_led t2 es1 (SetTable.grown es1.size)
    revert y1 y2 y3 y4
    generalize relayAll t2 es1 (SetTable.grown es1.size) = L
    obtain ⟨es2, t3, gv⟩ := L
    intro y1 y2 y3 y4
    have same : es2.size = es1.size := by
      have := y1.length_eq
      rwa [Array.length_toList, Array.length_toList] at this
    refine wpAny_bind (ht gv _ _ ?_)
    refine wpAny_bind (wpAny_storeSet_of st1 rfl ?_ (fits_of_scanBound (show es2.size < scanBound by omega)))
    have st2 := store_at (es' := es2) (t' := t3) st1 rfl
    refine wpAny_pure (q _ (but1.trans (Heap.SameBut.update _ a _)) ⟨_, es2, _, t3, st2, u2, rfl, ⟨u4.el.perm y1, ?_, fun x => ?_, by have := u4.few; omega⟩, y2, y3, ?_⟩)
    · exact (y1.map tx).nodup_iff.mpr u4.nd
    · rw [(y1.map tx).mem_iff]
      exact u4.mem x
    · rcases u8 with z | z
      · exact .inl z
      · exact .inr (y4.trans z)
  · rw [if_neg full]
    exact wpAny_pure (q _ but1 ⟨_, es1, _, t2, st1, u2, rfl, u4, u6, u7, u8⟩)
theorem put {x : PySem.Str} {tk : Tok} {xs : List PySem.Str} {n : Nat} {Q : Bool → Shared → Prop} (R : TSet P w s.heap a xs n) (room : n + 1 < scanBound)
    (q : ∀ b h', Heap.SameBut a s.heap h' → TSet P w h' a (xs ++ [x]) (n + 1) → Q b { s with heap := h' }) : wpAny (model P w) A (setAddHashed a (.str x tk) ((PySem.strKind P w).hash x)) Q E s := by
  obtain ⟨o, es, ep, t, u1, u2, u3, u4, u5, u6, u7⟩ := R
  have few := u4.few
  have small : es.size < scanBound := by omega
  unfold setAddHashed setAddHashedIn
  refine wpAny_holding (wpAny_bind (wpAny_setState_of u1 u3 u5 ?_))
  dsimp only
  rw [byScan_of (x := Value.str x tk) rfl small u4.el]
  simp only [↓reduceIte]
  unfold setAddByScan
  refine wpAny_bind (wpAny_bind (wpAny_rule ?_))
  refine wpAny_bind (wpAny_setScan_of (kind_is x tk) u1 u3 u5 u4.el ?_)
  cases hit : List.findIdx? (fun e => (PySem.strKind P w).is x e.2) es.toList with
  | some j =>
    obtain ⟨hj, pj, _⟩ := List.findIdx?_eq_some_iff_getElem.mp hit
    have old : x ∈ xs := (u4.mem x).mp (List.mem_map.mpr ⟨_, List.getElem_mem hj, (el_is u4.el (List.getElem_mem hj) x).mp pj⟩)
    refine wpAny_pure (wpAny_pure (q _ s.heap (Heap.SameBut.refl a s.heap) ⟨o, es, ep, t, u1, u2, u3, ⟨u4.el, u4.nd, fun y => ?_, by omega⟩, u5, u6, u7⟩))
    rw [u4.mem y, List.mem_append, List.mem_singleton]
    exact ⟨.inl, fun z => z.elim id fun e => e ▸ old⟩
  | none =>
    have new : x ∉ es.toList.map tx := fun z => by
      obtain ⟨e, he, ez⟩ := List.mem_map.mp z
      have no := List.findIdx?_eq_none_iff.mp hit e he
      rw [(el_is u4.el he x).mpr ez] at no
      cases no
    have y1 := layNew_perm t es ((PySem.strKind P w).hash x) (.str x tk)
    have y2 := layNew_fits t es ((PySem.strKind P w).hash x) (.str x tk)
    have y3 := layNew_ris t es ((PySem.strKind P w).hash x) (.str x tk) u6
    have y4 := layNew_led t es ((PySem.strKind P w).hash x) (.str x tk)
    dsimp only
    revert y1 y2 y3 y4
    generalize layNew t es ((PySem.strKind P w).hash x) (.str x tk) = L
    obtain ⟨es1, t1, was, gv⟩ := L
    intro y1 y2 y3 y4
    dsimp only at y1 y2 y3 y4 ⊢
    rw [Array.toList_push] at y1
    have pk : (es1.toList.map tx).Perm (es.toList.map tx ++ [x]) := by
      have := y1.map tx
      rwa [List.map_append] at this
    have led1 : Led w t1 := u7.imp id fun z => y4.trans z
    have ent : Ent P w es1 (xs ++ [x]) (n + 1) := by
      refine ⟨(u4.el.push (kind_is x tk) rfl).perm y1, ?_, fun y => ?_, ?_⟩
      · rw [pk.nodup_iff, List.nodup_append]
        exact ⟨u4.nd, List.nodup_cons.mpr ⟨by simp, List.nodup_nil⟩, fun y hy z hz e => new (by rw [List.mem_singleton.mp hz] at e; exact e ▸ hy)⟩
      · rw [pk.mem_iff, List.mem_append, List.mem_append, u4.mem y]
      · have := y1.length_eq
        rw [List.length_append, Array.length_toList, Array.length_toList] at this
        show es1.size ≤ n + 1
        have h1 : [((PySem.strKind P w).hash x, Value.str x tk)].length = 1 := rfl
        omega
    have give : ∀ (b : Bool) (z : Shared) (R : Unit → Shared → Prop), R () z → wpAny (model P w) A (match b with | true => rule "set.scan.the-table-gave-way" | false => pure ()) R E z := fun b z R h => by
      cases b
      · exact wpAny_pure h
      · exact wpAny_rule h
    refine wpAny_bind (give gv _ _ ?_)
    have go : ∀ t2 : SetTable, t2.fits es1.size = true → Ris t2.place.toList → Led w t2 → wpAny (model P w) A (do
        storeSet a es1 t2
        if (!was && t2.tooFull) = true then do
            (match (relayAll t2 es1 (SetTable.grown es1.size)).2.2 with | true => rule "set.scan.the-table-gave-way" | false => pure ())
            storeSet a (relayAll t2 es1 (SetTable.grown es1.size)).1 (relayAll t2 es1 (SetTable.grown es1.size)).2.1
            pure (some true)
          else pure (some true)) (fun r z => wpAny (model P w) A (match r with | some added => pure added | none => setAddHashedIn a (.str x tk) ((PySem.strKind P w).hash x) 99999) Q E z) E s := fun t2 z1 z2 z3 =>
      store_all (tail := fun b => match b with | true => rule "set.scan.the-table-gave-way" | false => pure ()) (fun b z R h => give b z R h) u1 u2 u3 ent room z1 z2 z3 fun h' sb r => wpAny_pure (q true h' sb r)
    by_cases pl : t1.plain = true
    · rw [if_pos pl]
      refine wpAny_bind ?_
      rw [hashByValue_scannable 8 (x := Value.str x tk) rfl]
      refine wpAny_pure ?_
      cases hk : plainKind (Value.str x tk)
      · exact go { t1 with plain := false } (SetTable.fits_plain_off y2) y3 led1
      · exact go t1 y2 y3 led1
    · rw [if_neg pl]
      refine wpAny_bind (wpAny_pure ?_)
      exact go t1 y2 y3 led1
/-- the texts put in, one behind the other -/
theorem fill {I : Addr} {fp wr : List Addr} {G : Array GenState → Array GenState → Prop} {n : Nat} {Pv : Nat → Value → Prop} {St : Nat → Shared → Prop} {R : Result → Shared → Prop} (W : WalksS P w A.in1 I fp wr G n Pv St) (S : Addr) (far : S ∉ fp) (xs : List PySem.Str) (len : n = xs.length) (room : n + 1 < scanBound)
    (its : ∀ i v, Pv i v → ∃ x t, xs[i]? = some x ∧ v = .str x t) : ∀ (k i : Nat) (s : Shared), n - i = k → i ≤ n → St i s → TSet P w s.heap S (xs.take i) i →
      (∀ z, Moved (S :: wr) G s z → TSet P w z.heap S xs n → R (.ok (.ret .none)) z) → codeAny (model P w) A (.builtin "set.update.loop" ⟨[.ref S, .ref I], []⟩) R s := by
  have away : S ∉ wr := fun z => far (W.sub _ z)
  have wide : ∀ b ∈ wr, b ∈ S :: wr := fun b z => List.mem_cons_of_mem _ z
  intro k
  induction k with
  | zero =>
    intro i s e0 le st T end_
    obtain rfl : i = n := by omega
    refine codeAny_builtin (F.entry_set_update_loop) ?_
    rw [Around.under_plainId (F.plain_set_update_loop) _]
    refine wpAny_bind (Q := _) (show wpAny _ A.in1 (pyNext (.ref I)) _ _ s from W.done s _ _ st fun z mv => ?_)
    show wpAny _ A.in1 (ret Value.none) _ _ z
    rw [List.take_of_length_le (by omega)] at T
    exact wpAny_pure (end_ z (mv.mono wide) (T.stays fun o h => mv.heap S o away h))
  | succ k ih =>
    intro i s e0 le st T end_
    have lt : i < n := by omega
    refine codeAny_builtin (F.entry_set_update_loop) ?_
    rw [Around.under_plainId (F.plain_set_update_loop) _]
    refine wpAny_bind (Q := _) (show wpAny _ A.in1 (pyNext (.ref I)) _ _ s from W.item i s _ _ lt st fun v z pv st1 mv => ?_)
    obtain ⟨x, t, hx, rfl⟩ := its i v pv
    have T1 := T.stays fun o h => mv.heap S o away h
    show wpAny _ A.in1 (holding [Value.str x t] (setAdd S (.str x t)) >>= _) _ _ z
    refine wpAny_bind (wpAny_holding ?_)
    unfold setAdd
    refine wpAny_holding (wpAny_bind ((PySem.strKind P w).pyHash (k := x) (kind_is x t) ?_))
    refine put (s := { z with toks := z.toks + 1 }) T1 (by omega) fun b h' sb T2 => ?_
    have et : xs.take i ++ [x] = xs.take (i + 1) := by rw [List.take_add_one, hx]; rfl
    rw [et] at T2
    have off : ∀ c o, c ≠ S → z.heap.get? c = some o → h'.get? c = some o := fun c o nc e => by rw [sb.2 c nc]; exact e
    refine wpAny_pure ⟨plainId_quiet (F.plain_set_update_loop) _, ih (i + 1) _ (by omega) lt (W.frame _ z _ _ st1 (Nat.le_succ _) fun c hc o e => off c o (fun z => far (z ▸ hc)) e) T2 fun z2 mv2 T3 => ?_⟩
    exact end_ z2 (Moved.trans W.gtrans ((mv.mono wide).then_heap (Nat.le_succ _) fun c o hc e => off c o (fun z => hc (z ▸ List.mem_cons_self)) e) mv2) T3
abbrev bare (w : World) : Obj := { cls := .type "set", dict := none, data := .set #[] 0 (.fresh 0 0 (!w.params.followText "set-order")) }
theorem none_yet {h : Heap} {xs : List PySem.Str} (e : h.get? a = some (bare w)) : TSet P w h a (xs.take 0) 0 := by
  refine ⟨_, #[], 0, _, e, ⟨rfl, rfl, rfl⟩, rfl, ⟨fun z hz => by simp at hz, by simp, fun x => by simp, by simp⟩, rfl, List.Pairwise.nil, ?_⟩
  show _ ∨ (!w.params.followText "set-order") = true
  cases w.params.followText "set-order"
  · exact .inr rfl
  · exact .inl rfl
def Held (h : Heap) (l : Addr) (its : Array Value) : Prop := h.IsList l its ∨ h.IsTuple l its
theorem texts_at {its : Array Value} {xs : List PySem.Str} (ht : StrsAre its.toList xs) : its.size = xs.length ∧ ∀ (i : Nat) (v : Value), its[i]? = some v → ∃ x t, xs[i]? = some x ∧ v = Value.str x t := by
  have len := StrsAre.len_eq ht
  rw [Array.length_toList] at len
  refine ⟨len, fun i v hv => ?_⟩
  have hi := (Array.getElem?_eq_some_iff.mp hv).1
  obtain ⟨t, e⟩ := SS.strs_at ht i v (by rw [Array.getElem?_toList]; exact hv)
  exact ⟨xs[i]'(by omega), t, List.getElem?_eq_getElem _, by rw [e, List.getD_eq_getElem?_getD, List.getElem?_eq_getElem (by omega)]; rfl⟩
abbrev Made (P : Program) (w : World) (s : Shared) (xs : List PySem.Str) (r : Value) (z : Shared) : Prop :=
  r = .none ∧ ∃ h' tk, z = { s with heap := h', toks := tk } ∧ TSet P w h' s.heap.objs.size xs xs.length ∧ ∀ b o, s.heap.get? b = some o → h'.get? b = some o
/-- set.__init__'s walk, over a list or a tuple -/
theorem walked {I : Addr} {its : Array Value} {xs : List PySem.Str} {it : Obj} {fp wr : List Addr} {St : Nat → Shared → Prop} {Pv : Nat → Value → Prop} (ht : StrsAre its.toList xs) (room : xs.length + 1 < scanBound)
    (eI : I = (s.heap.push (bare w)).objs.size) (W : WalksS P w A.in1 I fp wr (fun g g' => g' = g) its.size Pv St) (far : s.heap.objs.size ∉ fp) (own : ∀ b ∈ wr, b = I) (pv : ∀ i v, Pv i v → its[i]? = some v)
    (st : St 0 { s with heap := (s.heap.push (bare w)).push it }) :
    codeAny (model P w) A (.builtin "set.update.loop" ⟨[.ref s.heap.objs.size, .ref I], []⟩) (fun r z => wants (Made P w s xs) E r z) { s with heap := (s.heap.push (bare w)).push it } := by
  obtain ⟨len, at_⟩ := texts_at ht
  have old : ((s.heap.push (bare w)).push it).get? s.heap.objs.size = some (bare w) := Heap.get?_push_of_some _ (Heap.get?_push_size _ rfl)
  refine fill W s.heap.objs.size far xs len (by omega) (fun i v h => at_ i v (pv i v h)) (its.size - 0) 0 _ (by omega) (Nat.zero_le _) st (none_yet old) fun z mv T => ?_
  obtain ⟨h', g, d, tk, os⟩ := z
  obtain rfl : g = s.gens := mv.gens
  obtain rfl : d = s.drawn := mv.drawn
  obtain rfl : os = s.os := mv.os
  refine ⟨rfl, h', tk, rfl, by rw [← len]; exact T, fun b o e => ?_⟩
  have lt := Heap.lt_size e
  refine mv.heap b o (fun z => ?_) (Heap.get?_push_of_some _ (Heap.get?_push_of_some _ e))
  rcases List.mem_cons.mp z with z | z
  · exact absurd z (Nat.ne_of_lt lt)
  · have := own b z
    rw [eI, Heap.size_push] at this
    exact absurd this (Nat.ne_of_lt (Nat.lt_succ_of_lt lt))
theorem made_init {A0 : Around} {l : Addr} {its : Array Value} {xs : List PySem.Str} (hh : A.handled = none) (hl : Held s.heap l its) (ht : StrsAre its.toList xs) (room : xs.length + 1 < scanBound) :
    wpAny (model P w) A (Builtin.«set.__init__» ⟨[.ref s.heap.objs.size, .ref l], []⟩) (fun fin z => match fin with | .done f => wants (Made P w s xs) E (.ok f) z | .again c => c.quiet = true ∧ codeAny (model P w) A0 c (wants (Made P w s xs) E) z) (fun e z => wants (Made P w s xs) E (.error e) z) { s with heap := s.heap.push (bare w) } := by
  have calm : A.in1.handled = none := by simp [hh]
  rcases hl with hl | hl
  · have lt : l < s.heap.objs.size := by
      obtain ⟨o, h, _⟩ := hl
      exact Heap.lt_size h
    have hl1 : (s.heap.push (bare w)).IsList l its := hl.push _
    have ne : l ≠ (s.heap.push (bare w)).objs.size := by
      rw [Heap.size_push]
      exact Nat.ne_of_lt (Nat.lt_succ_of_lt lt)
    have far : s.heap.objs.size ∉ [(s.heap.push (bare w)).objs.size, l] := by
      intro z
      rw [Heap.size_push] at z
      rcases List.mem_cons.mp z with z | z
      · exact absurd z (Nat.ne_of_lt (Nat.lt_succ_self _))
      · exact absurd (List.mem_singleton.mp z) (Nat.ne_of_gt lt)
    obtain ⟨⟨cl, od, da, sl⟩, e1, e2, nn, e3⟩ := id hl1
    dsimp only at e2 e3
    subst e2
    subst e3
    have k1 := F.sub_list_set
    have k2 := F.sub_list_frozenset
    have k3 : (Value.type "list" == Value.type "dict") = false := by decide
    unfold Builtin.«set.__init__» noKeywords Builtin.Frozenset.updateFrom
    generalize ep : pyIter = PI
    wp_walk
    subst ep
    refine wpAny_pyIter_list hl1 (wpAny_bind (wpAny_runValue ?_))
    refine codeAny_mono (walked (s := s) (E := E) (I := (s.heap.push (bare w)).objs.size) ht room rfl (Walks.list (by simp [hh]) _ l ne its).toS far (fun b z => List.mem_singleton.mp z) (fun i v z => z) ⟨⟨_, Heap.get?_push_size _ rfl, rfl, rfl⟩, hl1.push _⟩) fun r z q => ?_
    match r, q with
    | .error e, q => exact q
    | .ok .next, q => exact q.elim
    | .ok .brk, q => exact q.elim
    | .ok .cont, q => exact q.elim
    | .ok (.ret v), q => exact wpAny_pure (wpAny_pure ⟨rfl, q.2⟩)
  · have lt : l < s.heap.objs.size := by
      obtain ⟨o, h, _⟩ := hl
      exact Heap.lt_size h
    have hl1 : (s.heap.push (bare w)).IsTuple l its := hl.push _
    have ne : l ≠ (s.heap.push (bare w)).objs.size := by
      rw [Heap.size_push]
      exact Nat.ne_of_lt (Nat.lt_succ_of_lt lt)
    have far : s.heap.objs.size ∉ [(s.heap.push (bare w)).objs.size, l] := by
      intro z
      rw [Heap.size_push] at z
      rcases List.mem_cons.mp z with z | z
      · exact absurd z (Nat.ne_of_lt (Nat.lt_succ_self _))
      · exact absurd (List.mem_singleton.mp z) (Nat.ne_of_gt lt)
    obtain ⟨⟨cl, od, da, sl⟩, e1, e2, nn, e3⟩ := id hl1
    dsimp only at e2 e3
    subst e2
    subst e3
    have k1 := F.sub_tuple_set
    have k2 := F.sub_tuple_frozenset
    have k3 : (Value.type "tuple" == Value.type "dict") = false := by decide
    unfold Builtin.«set.__init__» noKeywords Builtin.Frozenset.updateFrom
    generalize ep : pyIter = PI
    wp_walk
    subst ep
    refine wpAny_pyIter_tuple hl1 (wpAny_bind (wpAny_runValue ?_))
    refine codeAny_mono (walked (s := s) (E := E) (I := (s.heap.push (bare w)).objs.size) ht room rfl (Walks.tuple (by simp [hh]) _ l ne its).toS far (fun b z => List.mem_singleton.mp z) (fun i v z => z) ⟨⟨_, Heap.get?_push_size _ rfl, rfl, rfl⟩, hl1.push _⟩) fun r z q => ?_
    match r, q with
    | .error e, q => exact q
    | .ok .next, q => exact q.elim
    | .ok .brk, q => exact q.elim
    | .ok .cont, q => exact q.elim
    | .ok (.ret v), q => exact wpAny_pure (wpAny_pure ⟨rfl, q.2⟩)
theorem set_of {l : Addr} {its : Array Value} {xs : List PySem.Str} {Q : Value → Shared → Prop} (hh : A.handled = none) (hl : Held s.heap l its) (ht : StrsAre its.toList xs) (room : xs.length + 1 < scanBound)
    (q : ∀ h' tk, TSet P w h' s.heap.objs.size xs xs.length → (∀ b o, s.heap.get? b = some o → h'.get? b = some o) → Q (.ref s.heap.objs.size) { s with heap := h', toks := tk }) : wpAny (model P w) A (call (.type "set") [.ref l]) Q E s := by
  obtain ⟨cc, tail, a1⟩ := F.called_set.mro
  have a2 := F.called_set.made
  have a3 := F.called_set.sub
  have a4 := F.called_set.notType
  have a5 := F.called_set.canCreate
  have a6 := F.typeCall_set_1 (.ref l)
  refine wpAny_call (codeAny_of_tree ?_)
  show wpAny _ _ (callAny (.type "set") _) _ _ _
  refine wpAny_pure ⟨Code.quiet_builtin _ (by decide +kernel), (codeAny_builtin F.entry_type_call) ?_⟩
  rw [Around.under_plain (weight_type_call_type "set" [.ref l] []) (rfl)]
  repeat (any_goals (first | (assumption) | (wp_step)))
  refine codeAny_mono (code_set_led1 (.ref l) (E := E) (Q₁ := fun obj z => obj = .ref s.heap.objs.size ∧ z = { s with heap := s.heap.push (bare w) }) ⟨rfl, rfl⟩) fun r z made => ?_
  match r, made with
  | .error e, made => exact made
  | .ok .next, made => exact made.elim
  | .ok .brk, made => exact made.elim
  | .ok .cont, made => exact made.elim
  | .ok (.ret obj), made =>
    obtain ⟨rfl, rfl⟩ := made
    have new : (s.heap.push (bare w)).get? s.heap.objs.size = some (bare w) := Heap.get?_push_size _ rfl
    have b1 : Shared.TypeIs { s with heap := s.heap.push (bare w) } (.ref s.heap.objs.size) "set" := ⟨_, new, rfl⟩
    have b2 := F.called_set.init.lookup
    have b3 := F.called_set.init.bind (.ref s.heap.objs.size)
    repeat (any_goals (first | (assumption) | (wp_step)))
    refine codeAny_mono (codeAny_call_builtin (R := wants (Made P w s xs) E) F.called_set.init.plain F.entry_set_init (check_set_init_1 b1 ?_)) fun r2 z2 q2 => ?_
    · exact made_init (by simp [hh]) hl ht room
    · match r2, q2 with
      | .error e, q2 => exact q2
      | .ok .next, q2 => exact q2.elim
      | .ok .brk, q2 => exact q2.elim
      | .ok .cont, q2 => exact q2.elim
      | .ok (.ret r3), q2 =>
        obtain ⟨rfl, h', tk, rfl, T, old⟩ := q2
        repeat (any_goals (first | (assumption) | (wp_step)))
        exact q h' tk T old
theorem texts_of {es : List (Int × Value)} (el : ElemsOf (PySem.strKind P w) es) : ∀ {vs : List Value}, (∀ v ∈ vs, v ∈ es.map (·.2)) → StrsAre vs (vs.map SrtS.ss)
  | [], _ => .nil
  | v :: r, h => by
    obtain ⟨e, he, q⟩ := List.mem_map.mp (h v List.mem_cons_self)
    obtain ⟨tk, z⟩ := el_tx el he
    rw [z] at q
    subst q
    exact .cons _ tk (texts_of el fun u hu => h u (List.mem_cons_of_mem _ hu))
/-- sorted(a set of texts) -/
theorem in_order {xs : List PySem.Str} {n : Nat} {Q : Value → Shared → Prop} (T : TSet P w s.heap a xs n) (hh : A.handled = none) (room : n < scanBound)
    (q : ∀ z p (out : Array Value) (c : Nat) (ys : List PySem.Str), (∀ b o, s.heap.get? b = some o → z.heap.get? b = some o) → z.gens = s.gens → z.os = s.os → s.heap.objs.size ≤ p →
      z.heap.get? p = some (seqObj "list" out c) → StrsAre out.toList ys → ys.Pairwise (fun x y => SrtS.ltC y x = false) → ys.Nodup → (∀ x, x ∈ ys ↔ x ∈ xs) → ys.length ≤ n → Q (.ref p) z) : wpAny (model P w) A (call (.builtin "sorted") [.ref a]) Q E s := by
  obtain ⟨o, es, ep, t, u1, u2, u3, u4, u5, u6, u7⟩ := T
  have few := u4.few
  refine Calls.call_function_entry kind_sorted plain_sorted entry_sorted (args_sorted1 _) ?_
  unfold Builtin.«sorted»
  refine wpAny_bind (m := checkCount "sorted" 1 1 _) (wpAny_pure ?_)
  refine wpAny_bind (collect_set (A := A.in1) hh ⟨o, u1, u2.1, u3⟩ u5 (show es.size < scanBound by omega) u6 u7 fun z vs y1 y2 y3 y4 pm => ?_)
  have len : vs.length = es.size := by
    have := pm.length_eq
    rwa [List.length_map, Array.length_toList] at this
  have sl : vs.length ≤ sizeLine := by rw [len]; exact fits_of_scanBound (by omega)
  have txs : StrsAre vs (vs.map SrtS.ss) := texts_of u4.el fun v hv => pm.mem_iff.mp hv
  refine wpAny_bind (wpAny_newList ?_ sl)
  have hL : (z.heap.push (seqObj "list" vs.toArray 0)).get? z.heap.objs.size = some (seqObj "list" vs.toArray 0) := Heap.get?_push_size _ rfl
  refine wpAny_bind (wpAny_holding (wpAny_call_entry (slot_list_sort) ⟨_, hL, rfl⟩ (entry_list_sort) (SrtO.list_sort_ord SrtS.swo_str hL sl (fun two => SrtS.strs_sortable txs two) fun out k1 k2 => ⟨_, rfl, ?_⟩) (args_list_sort _)))
  obtain ⟨c, hc⟩ := sortedHeap_at (vs := vs) (out := out.toArray) hL
  obtain ⟨k3, k4, k5⟩ := SrtS.strs_out txs k1 k2
  have same : ∀ e : Int × Value, SrtS.ss e.2 = tx e := fun e => by
    obtain ⟨_, v⟩ := e
    cases v <;> rfl
  have pt : (vs.map SrtS.ss).Perm (es.toList.map tx) := by
    have := pm.map SrtS.ss
    rwa [List.map_map, funext (f := SrtS.ss ∘ fun e : Int × Value => e.2) (g := tx) same] at this
  have po := k4.trans pt
  refine wpAny_pure ⟨_, rfl, q _ z.heap.objs.size out.toArray c (out.map SrtS.ss) (fun b u e => ?_) y3 y4 y2 hc k3 k5 (po.nodup_iff.mpr u4.nd) (fun x => by rw [po.mem_iff, u4.mem x]) (by rw [po.length_eq, List.length_map, Array.length_toList]; exact few)⟩
  have e1 := y1 b u e
  have lt := Heap.lt_size e1
  show (sortedHeap (z.heap.push (seqObj "list" vs.toArray 0)) z.heap.objs.size vs out.toArray).get? b = some u
  rw [sortedHeap_old (Nat.ne_of_lt lt) (by rw [size_push']; exact Nat.lt_succ_of_lt lt)]
  exact Heap.get?_push_of_some _ e1
end
section
variable {X : Cx}
def SetTx (P : Program) (w : World) (a : Addr) (xs : List PySem.Str) (n : Nat) : HO := .ext fun h => TSet P w h a xs n
def rSetTx (K : PySem.W.Frag) (P : Program) (w : World) : List V → Hp → VK → Prop := fun vs H Q => ∃ l xs, vs = [.ref l] ∧ (SqL K H l (xs.map V.str) ∨ SqT K H l (xs.map V.str)) ∧ xs.length + 1 < scanBound ∧ ∀ p, H p = none → Q (.ref p) (upd H p (SetTx P w p xs xs.length))
theorem call_setTx (hc : X.calm = true) : CallR X (.type "set") (rSetTx X.K X.prog X.w) := by
  intro pins s σ H vs us Q I r h
  obtain ⟨l, xs, rfl, hs, room, q⟩ := h
  rw [Vals.ref1 r]
  have go : ∀ its : List Value, Held s.heap l its.toArray → StrsAre its xs → wpAny (model X.prog X.w) X.A (call (.type "set") [.ref l]) (EP X pins σ Q) X.xe s := fun its hl ht =>
    set_of (I.ok.hd hc) hl (by simpa using ht) room fun h' tk T old => ⟨.ref s.heap.objs.size, upd H s.heap.objs.size (SetTx X.prog X.w s.heap.objs.size xs xs.length), I.laid (t' := tk) (fun b o e => old b o e) (Nat.le_refl _) ⟨T, by
      obtain ⟨o, _, _, _, z, _⟩ := T
      exact ⟨o, z⟩, fun _ _ p k => TSet.stays p k⟩, rfl, q _ (I.hok.fresh (Nat.le_refl _))⟩
  rcases hs with hs | hs
  · obtain ⟨its, rv, hl, hz⟩ := I.list hs
    exact go its (.inl hl.isList) rv.strs
  · obtain ⟨its, rv, hl, hz⟩ := I.tuple hs
    exact go its (.inr hl) rv.strs
def rSortTx (P : Program) (w : World) : List V → Hp → VK → Prop := fun vs H Q => ∃ (a : Addr) (xs : List PySem.Str) (n : Nat), vs = [.ref a] ∧ H a = some (SetTx P w a xs n) ∧ n < scanBound ∧
  ∀ (ys : List PySem.Str) (p : Addr), ys.Pairwise (fun x y => SrtS.ltC y x = false) → ys.Nodup → (∀ x, x ∈ ys ↔ x ∈ xs) → ys.length ≤ n → H p = none → Q (.ref p) (upd H p (.lst (ys.map V.str)))
theorem cr_sortTx (hc : X.calm = true) : CallR X (.builtin "sorted") (rSortTx X.prog X.w) := by
  intro pins s σ H vs us Q I r h
  obtain ⟨a, xs, n, rfl, ha, room, q⟩ := h
  rw [Vals.ref1 r]
  refine in_order (I.hok a _ ha).1 (I.ok.hd hc) room fun z p out c ys keep g o hp hg hi k1 k2 k3 k4 => ?_
  have fresh : H p = none := I.hok.fresh hp
  have few : (ys.map V.str).length ≤ sizeLine := by
    rw [List.length_map]
    exact Nat.le_trans k4 (fits_of_scanBound room)
  have J : Inv X pins σ (upd H p (.lst (ys.map V.str))) { s with heap := z.heap, gens := z.gens, drawn := z.drawn, toks := z.toks } :=
    I.call (ch := []) (Un.laid keep hp fresh) (I.hok.laid keep hp ⟨few, out.toList, c, vals_of_strs hi, hg⟩) (by rw [g]; exact I.bare) (fun _ z => nomatch z)
  obtain ⟨zh, zg, zd, zt, zo⟩ := z
  obtain rfl : zo = s.os := o
  exact ⟨.ref p, _, J, rfl, q ys p k1 k2 k3 k4 fresh⟩
end
end StX

end Gk

--@NEST
set_option Elab.async false
set_option linter.all false
set_option maxRecDepth 100000
set_option maxHeartbeats 1000000
set_option pp.maxSteps 1500
set_option pp.deepTerms false
namespace Gk
open PySem PySem.Spec PyProof.Rows L2
/-! ### data of tuples alone: no list that is written can harm it -/
mutual
def noL : PyData → Bool
  | .list _ => false
  | .tuple ds => noLs ds
  | _ => true
def noLs : List PyData → Bool
  | [] => true
  | d :: r => noL d && noLs r
end
def Ts (H H' : Hp) : Prop := ∀ b xs, H b = some (HO.tup xs) → H' b = some (.tup xs)
theorem Ts.refl {H : Hp} : Ts H H := fun _ _ e => e
theorem Ts.trans {H H1 H2 : Hp} (a : Ts H H1) (b : Ts H1 H2) : Ts H H2 := fun c xs e => b c xs (a c xs e)
theorem Ts.same {H H' : Hp} (s : Same H H') : Ts H H' := fun b xs e => s _ _ e
theorem Ts.gr {H H' : Hp} (s : Gr H H') : Ts H H' := fun b xs e => s.tup e
theorem Ts.new {H : Hp} {p : Addr} {o : HO} (h : H p = none) : Ts H (upd H p o) := Ts.same (same_upd h)
theorem Ts.set {H : Hp} {p : Addr} {xs ys : List V} (h : H p = some (.lst xs)) : Ts H (upd H p (.lst ys)) := fun b zs e => by
  rw [upd_ne (ne_of e h (by intro z; cases z))]
  exact e
mutual
theorem Tk.ts {H H' : Hp} (s : Ts H H') : ∀ {v : V} {d : PyData}, Tk H v d → noL d = true → Tk H' v d
  | _, _, .bl b, _ => .bl b
  | _, _, .int i, _ => .int i
  | _, _, .str x, _ => .str x
  | _, _, .lst h t, n => by cases n
  | _, _, .tup h t, n => .tup (s _ _ h) (t.ts s n)
theorem TkAll.ts {H H' : Hp} (s : Ts H H') : ∀ {vs : List V} {ds : List PyData}, TkAll H vs ds → noLs ds = true → TkAll H' vs ds
  | _, _, .nil, _ => .nil
  | _, _, .cons (d := d) (ds := ds) h t, n => by
    have n' : noL d = true ∧ noLs ds = true := Bool.and_eq_true_iff.mp n
    exact .cons (h.ts s n'.1) (t.ts s n'.2)
end
theorem noLs_map {α : Type} {f : α → PyData} (h : ∀ x, noL (f x) = true) : ∀ l : List α, noLs (l.map f) = true
  | [] => rfl
  | x :: r => by
    show (noL (f x) && noLs (r.map f)) = true
    rw [h x, noLs_map h r]
    rfl
theorem noL_row (r : List Int) : noL (rowD r) = true := noLs_map (fun _ => rfl) r
theorem noL_gate (g : Gt) : noL (gD g) = true := by
  show (true && (noLs ((g.2.map Int.ofNat).map PyData.int) && true)) = true
  rw [noLs_map (fun _ => rfl)]
  rfl
theorem noL_gates (gs : List Gt) : noLs (gs.map gD) = true := noLs_map noL_gate gs
theorem noL_net (m : Int) (gs : List Gt) : noL (netD m gs) = true := by
  show (true && (noLs (gs.map gD) && true)) = true
  rw [noL_gates]
  rfl
theorem noL_ch (a b : List Int) : noL (chD a b) = true := by
  show (noL (rowD a) && (noL (rowD b) && true)) = true
  rw [noL_row, noL_row]
  rfl

/-! ### slices and sums of tuples: what is told stands in a heap that has grown -/
theorem cut_all {xs : List V} {lo hi : Option Int} (h : HT.sIx xs.length 0 lo = 0 ∧ HT.sIx xs.length xs.length hi = xs.length) : cutV xs lo hi = xs := by
  unfold cutV
  rw [h.1, h.2, List.drop_zero, Nat.sub_zero, List.take_length]
theorem same_refl {H : Hp} : Same H H := fun _ _ e => e
theorem slA {K : PySem.W.Frag} {a : Addr} {xs : List V} {lo hi : Option Int} {H : Hp} {Q : VK} (h : H a = some (.tup xs)) (q : ∀ p H', Same H H' → H' p = some (.tup (cutV xs lo hi)) → Q (.ref p) H') : rSlA K (.ref a) lo hi H Q :=
  ⟨a, xs, rfl, SqT.of h, fun w => q a H same_refl (by rw [cut_all w]; exact h), fun _ p np => q p _ (same_upd np) upd_same⟩
theorem slAn {K : PySem.W.Frag} {a : Addr} {xs : List V} {lo : Option Int} {H : Hp} {Q : VK} {σ : L2.St} (h : H a = some (.tup xs)) (q : ∀ p H', Same H H' → H' p = some (.tup (cutV xs lo none)) → Q (.ref p) H') : tNoPart σ H (fun u H3 => rSlA K (.ref a) lo u H3 Q) := slA h q
theorem catA {K : PySem.W.Frag} {a b : Addr} {xs ys : List V} {H : Hp} {Q : VK} (ha : H a = some (.tup xs)) (hb : H b = some (.tup ys)) (hl : xs.length + ys.length ≤ sizeLine) (q : ∀ p H', Same H H' → H' p = some (.tup (xs ++ ys)) → Q (.ref p) H') : rCatA K (.ref a) (.ref b) H Q :=
  ⟨a, b, xs, ys, rfl, rfl, SqT.of ha, SqT.of hb, hl, fun e => q b H same_refl (by rw [e]; exact hb), fun _ e => q a H same_refl (by rw [e, List.append_nil]; exact ha), fun _ _ p np => q p _ (same_upd np) upd_same⟩
theorem cut_to {xs : List V} {k : Nat} : cutV xs none (some (k : Int)) = xs.take k := by
  unfold cutV
  rw [HT.sIx_none, HT.sIx_nat, List.drop_zero, Nat.sub_zero]
  apply List.ext_getElem?
  intro i
  rw [List.getElem?_take, List.getElem?_take]
  by_cases h : i < k
  · rw [if_pos h]
    by_cases h2 : i < xs.length
    · rw [if_pos (by omega)]
    · rw [List.getElem?_eq_none (by omega)]
      split <;> rfl
  · rw [if_neg h, if_neg (by omega)]
theorem cut_from {xs : List V} {k : Nat} : cutV xs (some (k : Int)) none = xs.drop k := by
  unfold cutV
  rw [HT.sIx_none, HT.sIx_nat]
  by_cases h : k ≤ xs.length
  · rw [Nat.min_eq_left h]
    exact List.take_of_length_le (by rw [List.length_drop]; exact Nat.le_refl _)
  · rw [Nat.min_eq_right (by omega), Nat.sub_self, List.take_zero, List.drop_eq_nil_of_le (by omega)]
theorem TkAll.take {H : Hp} : ∀ {xs : List V} {ds : List PyData} (k : Nat), TkAll H xs ds → TkAll H (xs.take k) (ds.take k)
  | _, _, 0, _ => by rw [List.take_zero, List.take_zero]; exact .nil
  | _, _, _ + 1, .nil => .nil
  | _, _, k + 1, .cons a t => .cons a (t.take k)
theorem TkAll.drop {H : Hp} : ∀ {xs : List V} {ds : List PyData} (k : Nat), TkAll H xs ds → TkAll H (xs.drop k) (ds.drop k)
  | _, _, 0, t => t
  | _, _, _ + 1, .nil => .nil
  | _, _, k + 1, .cons _ t => t.drop k
theorem set_put {α : Type} {l : List α} {i : Nat} {x : α} (h : i < l.length) : (l.take i ++ [x]) ++ l.drop (i + 1) = l.set i x := by
  rw [List.set_eq_take_append_cons_drop, if_pos h, List.append_assoc]
  rfl
def rJoinK (K : PySem.W.Frag) : V → List V → Hp → VK → Prop := fun x xs H Q => ∃ a p, ∃ ys : List Str, x = .str a ∧ xs = [.ref p] ∧ (SqL K H p (ys.map V.str) ∨ SqT K H p (ys.map V.str)) ∧ (ys.map (·.length)).sum + ys.length * a.length ≤ 16777216 ∧ Q (.str (Txt.join a ys)) H

/-! ### walks over texts -/
theorem lc_str {z : Str} {g : TG} {tt : TT} {te : TE} {vs : List Nat} {σ : L2.St} {H1 : Hp} {D : Addr} {Qd : Hp → Prop} (Pv : Nat → Hp → Prop) (h0 : Pv 0 (upd H1 D (.lst [])))
    (hs : ∀ i x H, z.cps[i]? = some x → Pv i H → g (.str ⟨#[x]⟩) (wipe σ vs) H fun σ2 H2 => wipe σ2 vs = wipe σ vs ∧ tt σ2 H2 fun b H3 =>
      if b = true then te σ2 H3 fun y H4 => ∃ acc, H4 D = some (.lst acc) ∧ acc.length < sizeLine ∧ Pv (i + 1) (upd H4 D (.lst (acc ++ [y]))) else Pv (i + 1) H3) (hd : ∀ H, Pv z.cps.size H → Qd H) :
    ∃ W : Nat → Nat → Hp → Prop, (∃ m, W 0 m (upd H1 D (.lst []))) ∧ ∀ i m H, W i m H →
      ((Its z).stop i H ∧ Qd H) ∨ ((Its z).go i H ∧ ∃ Nx : Hp → Prop, (∀ H', Nx H' → ∃ m', m' < m ∧ W (i + 1) m' H') ∧ ∀ x H', (Its z).yld i H x H' → g x (wipe σ vs) H' fun σ2 H2 => wipe σ2 vs = wipe σ vs ∧ tt σ2 H2 fun b H3 =>
        if b = true then te σ2 H3 fun y H4 => ∃ acc, H4 D = some (.lst acc) ∧ acc.length < sizeLine ∧ Nx (upd H4 D (.lst (acc ++ [y]))) else Nx H3) := by
  refine ⟨fun i m H => m = z.cps.size - i ∧ i ≤ z.cps.size ∧ Pv i H, ⟨z.cps.size, by simp, Nat.zero_le _, h0⟩, ?_⟩
  rintro i m H ⟨rfl, hi, p⟩
  by_cases hlt : i < z.cps.size
  · refine .inr ⟨hlt, Pv (i + 1), fun H' p' => ⟨z.cps.size - (i + 1), by omega, rfl, hlt, p'⟩, fun x H' y => ?_⟩
    obtain ⟨rfl, ch, hc, rfl⟩ := y
    exact hs i ch _ hc p
  · have e : i = z.cps.size := by omega
    subst e
    exact .inl ⟨Nat.le_refl _, hd H p⟩
theorem for_str {z : Str} {g : TG} {tb : TS} {D : Ends} {σ : L2.St} {H : Hp} (Pv : Nat → L2.St → Hp → Prop) (h0 : Pv 0 σ H)
    (hs : ∀ i x σ H, z.cps[i]? = some x → Pv i σ H → g (.str ⟨#[x]⟩) σ H fun σ2 H2 => tb { D with nx := Pv (i + 1), ct := Pv (i + 1), bk := D.nx } σ2 H2) (hd : ∀ σ H, Pv z.cps.size σ H → D.nx σ H) :
    ∃ W : Nat → Nat → L2.St → Hp → Prop, (∃ m, W 0 m σ H) ∧ ∀ i m σ H, W i m σ H →
      ((Its z).stop i H ∧ D.nx σ H) ∨ ((Its z).go i H ∧ ∃ N : L2.St → Hp → Prop, (∀ σ' H', N σ' H' → ∃ m', m' < m ∧ W (i + 1) m' σ' H') ∧ ∀ x H', (Its z).yld i H x H' → g x σ H' fun σ2 H2 => tb { D with nx := N, ct := N, bk := D.nx } σ2 H2) := by
  refine ⟨fun i m σ H => m = z.cps.size - i ∧ i ≤ z.cps.size ∧ Pv i σ H, ⟨z.cps.size, by simp, Nat.zero_le _, h0⟩, ?_⟩
  rintro i m σ H ⟨rfl, hi, p⟩
  by_cases hlt : i < z.cps.size
  · refine .inr ⟨hlt, Pv (i + 1), fun σ' H' p' => ⟨z.cps.size - (i + 1), by omega, rfl, hlt, p'⟩, fun x H' y => ?_⟩
    obtain ⟨rfl, ch, hc, rfl⟩ := y
    exact hs i ch σ _ hc p
  · have e : i = z.cps.size := by omega
    subst e
    exact .inl ⟨Nat.le_refl _, hd σ H p⟩
theorem S_at {p : List Nat} {i x : Nat} (h : (SX.S p).cps[i]? = some x) : p[i]? = some x := by
  have : (SX.S p).cps = p.toArray := rfl
  rw [this, List.getElem?_toArray] at h
  exact h
theorem S_size (p : List Nat) : (SX.S p).cps.size = p.length := by
  show p.toArray.size = _
  simp

section
variable {P : Program} {w : World} {K : PySem.W.Frag} {mg : Str → Option Value} {base : Heap}
/-! ### the deck of k42 to k49: a dict with cells, a seed, a count -/
def kC : Key := .inr (Str.ofString "cells")
def kS : Key := .inr (Str.ofString "seed")
def kN : Key := .inr (Str.ofString "count")
def GO (l : Addr) (y z : Int) : HO := .dK [(kC, .ref l), (kS, .int y), (kN, .int z)]
def DeckG (H : Hp) (d l : Addr) (n : Int) : Prop := d ≠ l ∧ ∃ (cs : List Int) (y z : Int), H d = some (GO l y z) ∧ H l = some (.lst (cs.map V.int)) ∧ cs.length ≤ 63 ∧ 0 ≤ z ∧ z ≤ n
theorem DeckG.mono {H : Hp} {d l : Addr} {n m : Int} (D : DeckG H d l n) (h : n ≤ m) : DeckG H d l m := by
  obtain ⟨ne, cs, y, z, h1, h2, h3, h4, h5⟩ := D
  exact ⟨ne, cs, y, z, h1, h2, h3, h4, Int.le_trans h5 h⟩
theorem DeckG.same {H H' : Hp} {d l : Addr} {n : Int} (D : DeckG H d l n) (s : Same H H') : DeckG H' d l n := by
  obtain ⟨ne, cs, y, z, hd, hl, r⟩ := D
  exact ⟨ne, cs, y, z, s _ _ hd, s _ _ hl, r⟩
theorem DeckG.gr {H H' : Hp} {d l : Addr} {n : Int} (D : DeckG H d l n) (s : Gr H H') : DeckG H' d l n := by
  obtain ⟨ne, cs, y, z, hd, hl, r⟩ := D
  exact ⟨ne, cs, y, z, s.1 d _ (fun _ z => by cases z) hd, s.lst hl, r⟩
theorem DeckG.upd {H : Hp} {d l p : Addr} {n : Int} {o : HO} (D : DeckG H d l n) (h1 : p ≠ d) (h2 : p ≠ l) : DeckG (upd H p o) d l n := by
  obtain ⟨ne, cs, y, z, hd, hl, r⟩ := D
  exact ⟨ne, cs, y, z, by rw [upd_ne h1.symm]; exact hd, by rw [upd_ne h2.symm]; exact hl, r⟩
theorem DeckG.off {H : Hp} {d l p : Addr} {n : Int} (D : DeckG H d l n) (h : H p = none) : p ≠ d ∧ p ≠ l := by
  obtain ⟨ne, cs, y, z, hd, hl, r⟩ := D
  exact ⟨(ne_of_none hd h).symm, (ne_of_none hl h).symm⟩
theorem dgC {H : Hp} {d l : Addr} {y z : Int} (h : H d = some (GO l y z)) : DGet H d (.str (Str.ofString "cells")) (some (.ref l)) := DGet.k (k := kC) h
theorem dgS {H : Hp} {d l : Addr} {y z : Int} (h : H d = some (GO l y z)) : DGet H d (.str (Str.ofString "seed")) (some (.int y)) := DGet.k (k := kS) h
theorem dgN {H : Hp} {d l : Addr} {y z : Int} (h : H d = some (GO l y z)) : DGet H d (.str (Str.ofString "count")) (some (.int z)) := DGet.k (k := kN) h
theorem dpS {H : Hp} {d l : Addr} {y z : Int} (v : Int) (h : H d = some (GO l y z)) : DPut H d (.str (Str.ofString "seed")) (.int v) (upd H d (GO l v z)) := DPut.k (k := kS) h (by show 3 < sizeLine; decide)
theorem dpN {H : Hp} {d l : Addr} {y z : Int} (v : Int) (h : H d = some (GO l y z)) : DPut H d (.str (Str.ofString "count")) (.int v) (upd H d (GO l y v)) := DPut.k (k := kN) h (by show 3 < sizeLine; decide)
theorem cut63 {ns : List Int} (h : ns.length ≤ 63) : cutV (ns.map V.int) none (some 63) = ns.map V.int := by
  unfold cutV
  have e : HT.sIx (ns.map V.int).length (ns.map V.int).length (some 63) = min 63 (ns.map V.int).length := HT.sIx_nat _ _ 63
  rw [HT.sIx_none, e, List.length_map, List.drop_zero]
  apply List.take_of_length_le
  rw [List.length_map]
  omega
theorem sq_same {K : PySem.W.Frag} {H H' : Hp} {a : Addr} {xs : List V} (s : Same H H') (h : SqL K H a xs) : SqL K H' a xs := h.imp (fun r => r.imp (fun e => s _ _ e) (fun ⟨ob, e⟩ => ⟨ob, s _ _ e⟩)) id
theorem at_hd {c : Int} {r : List Int} : atI ((c :: r).map V.int) 0 = some (.int c) := by
  show atI _ ((0 : Nat) : Int) = _
  exact atI_nat rfl
def sp_deck (K : PySem.W.Frag) : Sp := fun vs H Q _ => ∃ (a : Addr) (ns : List Int), vs = [.ref a] ∧ SqL K H a (ns.map V.int) ∧ ns.length ≤ 63 ∧ ∀ H' d l, Same H H' → DeckG H' d l 0 → Q (.ref d) H'
theorem ok_deck (T : Tx K mg) : FnOk P w K mg base CX0 1 T.f_deck T.fd_deck ["_law_script"] (sp_deck K) := by
  refine T.F_deck.ok sc_deck (fun vs H Q E h => ?_) (fun cdv A outer s H vs Q E hr h => ?_)
  · obtain ⟨a, ns, rfl, _⟩ := h
    rfl
  · obtain ⟨a, ns, rfl, hS, hlen, q⟩ := h
    refine ⟨_, (pss_one (ps_ret (pe_disp (pps_cons pe_str (pe_callTy call_list_of (by rfl) T.m_list (by decide +kernel) (pa_cons (pe_slice sl_list (pv 0) po_none (po_some pe_int)) pa_nil)) (pps_cons pe_str (pe_op op_add (pe_op op_mod (pe_callB (cr_sum rfl) (by rfl) T.m_sum (by decide +kernel) (pa_cons (pv 0) pa_nil)) pe_int) pe_int) (pps_cons pe_str pe_int pps_nil))) (by rfl) (by rfl) (fun z => by cases z) (by decide)))), ?_⟩
    refine fun d nd => ?_
    have s1 := same_upd (o := (HO.dK [])) nd
    have h1 : upd H d (HO.dK []) d = some (HO.dK []) := upd_same
    generalize upd H d (HO.dK []) = H1 at s1 h1 ⊢
    refine ⟨.ref a, rfl, 63, rfl, a, _, rfl, sq_same s1 hS, fun c1 n1 => ?_⟩
    rw [cut63 hlen]
    have s2 := same_upd (o := (HO.lst (ns.map V.int))) n1
    have h2 : upd H1 c1 (HO.lst (ns.map V.int)) c1 = some (HO.lst (ns.map V.int)) := upd_same
    generalize upd H1 c1 (HO.lst (ns.map V.int)) = H2 at s2 h2 ⊢
    refine ⟨c1, _, rfl, .inl (SqL.of h2), fun l nl => ?_⟩
    have s3 := same_upd (o := (HO.lst (ns.map V.int))) nl
    have h3 : upd H2 l (HO.lst (ns.map V.int)) l = some (HO.lst (ns.map V.int)) := upd_same
    generalize upd H2 l (HO.lst (ns.map V.int)) = H3 at s3 h3 ⊢
    have s13 := s2.trans s3
    refine ⟨.ref a, rfl, a, ns, rfl, sq_same (s1.trans s13) hS, _, _, rfl, rfl, (show (0 : Int) < 2147483629 by decide), _, _, rfl, rfl, ?_⟩
    have hd3 := s13 _ _ h1
    refine ⟨hd3, [(kC, .ref l), (kS, _), (kN, .int 0)], rfl, (show 3 ≤ 15 by decide), ?_⟩
    have em : ∀ v1 v2 v3 : V, mergeK [] [(kC, v1), (kS, v2), (kN, v3)] = [(kC, v1), (kS, v2), (kN, v3)] := fun v1 v2 v3 => rfl
    rw [em]
    have ndl : l ≠ d := (ne_of_none (s2 _ _ h1) nl).symm
    refine q _ d l (fun b o e => ?_) ⟨ndl.symm, ns, _, 0, upd_same, by rw [upd_ne ndl]; exact h3, hlen, Int.le_refl _, Int.le_refl _⟩
    rw [upd_ne (ne_of_none e nd)]
    exact s13 _ _ (s1 _ _ e)
/-! ### the next number -/
def sp_next (K : PySem.W.Frag) : Sp := fun vs H Q _ => ∃ (d l : Addr) (m n : Int), vs = [.ref d, .int m] ∧ DeckG H d l n ∧ n < 1000000000 ∧ 0 < m ∧ m < 1073741824 ∧ ∀ H' v, DeckG H' d l (n + 1) → Fr d l H H' → 0 ≤ v → v < m → Q (.int v) H'
theorem ok_next (T : Tx K mg) : FnOk P w K mg base CX0 1 T.f_next T.fd_next ["_law_deck_here", "_law_most"] (sp_next K) := by
  refine T.F_next.ok sc_next (fun vs H Q E h => ?_) (fun cdv A outer s H vs Q E hr h => ?_)
  · obtain ⟨d, l, m, n, rfl, _⟩ := h
    rfl
  · obtain ⟨d, l, m, n, rfl, D, hn, hm0, hm1, q⟩ := h
    obtain ⟨ne, cs, y, z, hd, hl, hcs, hz0, hz1⟩ := D
    refine ⟨_, (pss_cons (ps_dput (hu_of hr) (pv 0) pe_str (pe_op op_add (pe_dget (hu_of hr) (pv 0) pe_str (fun _ _ => rfl)) pe_int) rfl) (pss_cons (ps_set (i := 2) sc_next.nd rfl (by first | exact .inl rfl | exact .inr rfl) (pe_dget (hu_of hr) (pv 0) pe_str (fun _ _ => rfl))) (pss_cons (ps_set (i := 3) sc_next.nd rfl (by first | exact .inl rfl | exact .inr rfl) pe_int) (pss_cons (ps_if (pt_cut (pw_and (pt_cmpR (op_neD hr.units) (pv 2) (pe_lst pa_nil) (nomark _)) (pw_and1 (pt_cmpR op_ge (pe_ix ix_list (pv 2) pe_int (fun _ _ => rfl)) (pe_op op_pow pe_int pe_int) (nomark _)))).pt) (pss_cons (ps_set (i := 3) sc_next.nd rfl (by first | exact .inl rfl | exact .inr rfl) (pe_op op_mod (pe_ix ix_list (pv 2) pe_int (fun _ _ => rfl)) (pv 1))) (pss_cons (ps_asg (pe_op op_fdiv (pe_ix ix_list (pv 2) pe_int (fun _ _ => rfl)) (pv 1)) (pg_sub (pv 2) pe_int set_list)) (pss_one (ps_ret (pv 3))))) pss_nil) (C8.pss_cut (ps_if (pt_cmpR (op_neD hr.units) (pv 2) (pe_lst pa_nil) (nomark _)) (pss_one (ps_set (i := 3) sc_next.nd rfl (by first | exact .inl rfl | exact .inr rfl) (pe_bm PySem.F.plainAttrs_list PySem.F.slot_list_pop PySem.F.type_list_pop mt_popAt (pv 2) (pa_cons pe_int pa_nil)))) pss_nil) (pss_cons (ps_set (i := 4) sc_next.nd rfl (by first | exact .inl rfl | exact .inr rfl) (pe_op op_mod (pe_op op_add (pe_op op_add (pe_op op_mul (pe_dget (hu_of hr) (pv 0) pe_str (fun _ _ => rfl)) pe_int) (pe_op op_mul pe_int (pe_dget (hu_of hr) (pv 0) pe_str (fun _ _ => rfl)))) (pv 3)) pe_int)) (pss_cons (ps_dput (hu_of hr) (pv 0) pe_str (pv 4) rfl) (pss_one (ps_ret (pe_op op_mod (pe_op op_fdiv (pe_op op_mod (pe_op op_mul (pv 4) (pe_op op_add (pe_op op_fdiv (pv 4) pe_int) pe_int)) pe_int) pe_int) (pv 1))))))))))), ?_⟩
    refine ⟨.ref d, rfl, d, .int z, rfl, dgN hd, _, _, rfl, rfl, .ref d, rfl, d, _, rfl, dpN (z + 1) hd, ?_⟩
    have hd1 : upd H d (GO l y (z + 1)) d = some (GO l y (z + 1)) := upd_same
    have hl1 : upd H d (GO l y (z + 1)) l = some (.lst (cs.map V.int)) := by rw [upd_ne ne.symm]; exact hl
    have fr1 : Fr d l H (upd H d (GO l y (z + 1))) := Fr.d
    generalize upd H d (GO l y (z + 1)) = H1 at hd1 hl1 fr1 ⊢
    have hz2 : 0 ≤ z + 1 := by omega
    have hz3 : z + 1 ≤ n + 1 := by omega
    have hz4 : z + 1 < 2000000000 := by omega
    revert hz2 hz3 hz4 hd1
    generalize z + 1 = z'
    intro hd1 hz2 hz3 hz4
    refine ⟨.ref d, rfl, d, .ref l, rfl, dgC hd1, ?_⟩
    refine ⟨fun b H' => Same H1 H' ∧ (b = true → cs ≠ []), ?_, ?_⟩
    · refine ⟨.ref l, rfl, Nat.zero_le _, fun p np => ?_⟩
      have s2 := same_upd (o := (HO.lst [])) np
      have h2 : upd H1 p (HO.lst []) p = some (HO.lst []) := upd_same
      generalize upd H1 p (HO.lst []) = H2 at s2 h2 ⊢
      have hl2 := s2 _ _ hl1
      refine ⟨.list (cs.map .int), .list [], .lst (SqL.of hl2) (dpInts cs), .lst (SqL.of h2) .nil, shInts cs, rfl, _, rfl, ?_⟩
      cases cs with
      | nil => exact iteF ⟨s2, fun z => by cases z⟩
      | cons c r =>
        refine iteT ?_
        exact ⟨.ref l, rfl, l, _, 0, .int c, rfl, rfl, SqL.of hl2, at_hd, _, _, rfl, rfl, ⟨by decide, by decide, by decide⟩, _, _, rfl, rfl, _, rfl, s2, fun _ => List.cons_ne_nil _ _⟩
    rintro b H2 ⟨s2, hb⟩
    have hd2 := s2 _ _ hd1
    have hl2 := s2 _ _ hl1
    have fr2 : Fr d l H H2 := fr1.trans (Fr.of s2)
    refine ite2 (fun e => ?_) (fun e => ?_)
    · have hne := hb e
      cases cs with
      | nil => exact absurd rfl hne
      | cons c r =>
        refine ⟨.ref l, rfl, l, _, 0, .int c, rfl, rfl, SqL.of hl2, at_hd, .int m, rfl, _, _, rfl, rfl, hm0, ?_⟩
        refine ⟨.ref l, rfl, l, _, 0, .int c, rfl, rfl, SqL.of hl2, at_hd, .int m, rfl, _, _, rfl, rfl, (⟨hm0, hm1⟩ : 0 < m ∧ m < 1073741824), .ref l, rfl, l, _, 0, 0, rfl, rfl, hl2, by unfold ixN; rw [if_pos (by decide), List.length_map, if_pos (by rw [List.length_cons]; omega)]; rfl, ?_⟩
        refine ⟨.int (c % m), rfl, ?_⟩
        exact q _ _ ⟨ne, (c / m) :: r, y, z', by rw [upd_ne ne]; exact hd2, upd_same, hcs, hz2, hz3⟩ (fr2.trans Fr.l) (Int.emod_nonneg _ (by omega)) (Int.emod_lt_of_pos _ hm0)
    · refine ⟨fun σ H' => ∃ (c : Int) (cs' : List Int), σ = [some (.ref d), some (.int m), some (.ref l), some (.int c), none] ∧ H' d = some (GO l y z') ∧ H' l = some (.lst (cs'.map V.int)) ∧ cs'.length ≤ 63 ∧ Fr d l H H', ?_, ?_⟩
      · refine ⟨.ref l, rfl, Nat.zero_le _, fun p np => ?_⟩
        have s3 := same_upd (o := (HO.lst [])) np
        have h3 : upd H2 p (HO.lst []) p = some (HO.lst []) := upd_same
        generalize upd H2 p (HO.lst []) = H3 at s3 h3 ⊢
        have hl3 := s3 _ _ hl2
        have hd3 := s3 _ _ hd2
        refine ⟨.list (cs.map .int), .list [], .lst (SqL.of hl3) (dpInts cs), .lst (SqL.of h3) .nil, shInts cs, rfl, _, rfl, ?_⟩
        have fr3 := fr2.trans (Fr.of (d := d) (l := l) s3)
        cases cs with
        | nil => exact iteF ⟨0, [], rfl, hd3, hl3, hcs, fr3⟩
        | cons c r =>
          refine iteT ?_
          refine ⟨.ref l, rfl, .inl ⟨rfl, _, SqL.of hl3⟩, l, _, 0, 0, .int c, rfl, rfl, hl3, by decide, by decide, seqIx0 _ _, rfl, ?_⟩
          exact ⟨c, r, rfl, by rw [upd_ne ne]; exact hd3, upd_same, by simp at hcs; omega, fr3.trans Fr.l⟩
      · rintro σ H3 ⟨c, cs', rfl, hd3, hl3, hc3, fr3⟩
        have p87 : (0 : Int) < 2147483587 := by decide
        have p63 : (0 : Int) < 2147483563 := by decide
        refine ⟨.ref d, rfl, d, .int y, rfl, dgS hd3, _, _, rfl, rfl, .inr ⟨by decide, by decide⟩, .ref d, rfl, d, .int z', rfl, dgN hd3, _, _, rfl, rfl, .inl ⟨by decide, by decide⟩, _, _, rfl, rfl, .int c, rfl, _, _, rfl, rfl, _, _, rfl, rfl, p87, ?_⟩
        dsimp only
        have v0 := Int.emod_nonneg (y * 48271 + 69621 * z' + c) (show (2147483587 : Int) ≠ 0 by decide)
        have v1 := Int.emod_lt_of_pos (y * 48271 + 69621 * z' + c) (show (0 : Int) < 2147483587 by decide)
        revert v0 v1
        generalize (y * 48271 + 69621 * z' + c) % 2147483587 = v
        intro v0 v1
        refine ⟨.int v, rfl, .ref d, rfl, d, _, rfl, dpS v hd3, ?_⟩
        refine ⟨.int v, rfl, .int v, rfl, _, _, rfl, rfl, (⟨by decide, by decide⟩ : (0 : Int) < 7 ∧ (7 : Int) < 1073741824), _, _, rfl, rfl, _, _, rfl, rfl, .inl ⟨by omega, by omega⟩, _, _, rfl, rfl, p63, _, _, rfl, rfl, (⟨by decide, by decide⟩ : (0 : Int) < 64 ∧ (64 : Int) < 1073741824), .int m, rfl, _, _, rfl, rfl, hm0, ?_⟩
        exact q _ _ ⟨ne, cs', v, z', upd_same, by rw [upd_ne ne.symm]; exact hl3, hc3, hz2, hz3⟩ (fr3.trans Fr.d) (Int.emod_nonneg _ (by omega)) (Int.emod_lt_of_pos _ hm0)

end
end Gk

--@NEST
set_option Elab.async false
set_option linter.all false
set_option maxRecDepth 100000
set_option maxHeartbeats 1000000
set_option pp.maxSteps 1500
set_option pp.deepTerms false
namespace Gk
open PySem PySem.Spec PyProof.Rows L2
section
variable {P : Program} {w : World} {K : PySem.W.Frag} {mg : Str → Option Value} {base : Heap}
/-! ### products -/
def one (c : Nat) : Str := SX.S [c]
theorem one_len (c : Nat) : (one c).length = 1 := rfl
theorem joinL_nil : ∀ l : List (List Nat), TL.joinL [] l = l.flatten
  | [] => rfl
  | [p] => by simp [TL.joinL]
  | p :: q :: r => by
    show p ++ ([] ++ TL.joinL [] (q :: r)) = _
    rw [joinL_nil (q :: r)]
    rfl
theorem join_one (cs : List Nat) : Txt.join (Str.ofString "") (cs.map one) = SX.S cs := by
  have e : cs.map one = (cs.map fun c => [c]).map SX.S := by rw [List.map_map]; rfl
  have z : Str.ofString "" = SX.S [] := by decide +kernel
  rw [e, z, SX.join_S, joinL_nil]
  have : (cs.map fun c => [c]).flatten = cs := by
    clear e z
    induction cs with
    | nil => rfl
    | cons b r ih => rw [List.map_cons, List.flatten_cons, ih]; rfl
  rw [this]
theorem ones_sum (cs : List Nat) : ((cs.map one).map (·.length)).sum = cs.length := by
  induction cs with
  | nil => rfl
  | cons b r ih =>
    rw [List.map_cons, List.map_cons, List.sum_cons, ih, List.length_cons, one_len]
    omega
theorem join_fit {cs : List Nat} (h : cs.length ≤ 64) : ((cs.map one).map (·.length)).sum + (cs.map one).length * (Str.ofString "").length ≤ 16777216 := by
  rw [ones_sum]
  show cs.length + (cs.map one).length * 0 ≤ _
  omega
def SgOk (c : Nat) : Prop := c = 45 ∨ c = 48 ∨ c = 49
def ProdOk (m : Nat) (p : List Nat) : Prop := p.length = m ∧ ∀ c ∈ p, SgOk c
theorem dash_S : Str.ofString "-" = one 45 := by decide +kernel
theorem s8_S : Str.ofString "01-01---" = SX.S [48, 49, 45, 48, 49, 45, 45, 45] := by decide +kernel
theorem it8 : ∀ k : Nat, k < 8 → ∃ c, (SX.S [48, 49, 45, 48, 49, 45, 45, 45]).cps[k]? = some c ∧ SgOk c := by
  intro k h
  rcases k with _ | _ | _ | _ | _ | _ | _ | _ | k
  · exact ⟨48, rfl, .inr (.inl rfl)⟩
  · exact ⟨49, rfl, .inr (.inr rfl)⟩
  · exact ⟨45, rfl, .inl rfl⟩
  · exact ⟨48, rfl, .inr (.inl rfl)⟩
  · exact ⟨49, rfl, .inr (.inr rfl)⟩
  · exact ⟨45, rfl, .inl rfl⟩
  · exact ⟨45, rfl, .inl rfl⟩
  · exact ⟨45, rfl, .inl rfl⟩
  · omega
theorem at6 {x : Int} (h0 : 0 ≤ x) (h1 : x < 6) : ∃ v : Int, atI [V.int 6, .int 4, .int 3, .int 8, .int 8, .int 5] x = some (.int v) ∧ 0 < v ∧ v ≤ 8 := by
  obtain ⟨k, rfl⟩ := Int.eq_ofNat_of_zero_le h0
  have hk : k < 6 := by omega
  rcases k with _ | _ | _ | _ | _ | _ | k
  · exact ⟨6, rfl, by decide, by decide⟩
  · exact ⟨4, rfl, by decide, by decide⟩
  · exact ⟨3, rfl, by decide, by decide⟩
  · exact ⟨8, rfl, by decide, by decide⟩
  · exact ⟨8, rfl, by decide, by decide⟩
  · exact ⟨5, rfl, by decide, by decide⟩
  · omega
theorem mul_dash {m : Nat} (h1 : 1 ≤ m) (h6 : m ≤ 6) : Txt.mul (one 45) (m : Int) = SX.S (List.replicate m 45) := by
  rcases m with _ | _ | _ | _ | _ | _ | _ | m
  · omega
  all_goals first | decide +kernel | omega
def wS (b : Int) : Nat := if b = 1 then 49 else 48
theorem str01 {b : Int} (h : b = 0 ∨ b = 1) : (toString b : Str) = one (wS b) := by
  rcases h with rfl | rfl <;> decide +kernel
def rRepS : V → V → Hp → VK → Prop := fun x y H Q => ∃ (z : Str) (n : Int), x = .str z ∧ y = .int n ∧ z.length ≤ 16 ∧ 0 ≤ n ∧ n ≤ 1048576 ∧ Q (.str (Txt.mul z n)) H
theorem op_repS {X : Cx} : OpR X (binaryOp .Mult) rRepS := by
  intro pins s σ H x y v u Q I rx ry h
  obtain ⟨i, j, rfl, rfl, h1, h2, h3, q⟩ := h
  obtain ⟨t, rfl⟩ := rx
  obtain ⟨t', rfl⟩ := ry
  exact SB.mul (mulOk_of 16 1048576 h1 h3 (by omega) (by decide) (by decide)) fun t' tk => ⟨.str _, H, I.tok _, ⟨_, rfl⟩, q⟩

def Row01' (r : List Int) : Prop := ∀ x ∈ r, x = 0 ∨ x = 1
def hall (p q : List Nat) : Bool := (p.zip q).all fun z => decide (z.1 = 45) || decide (z.1 = z.2)
def meetM (p q : List Nat) : Bool := (p.zip q).all fun z => decide (z.1 = 45) || decide (z.2 = 45) || decide (z.1 = z.2)
def rowS (r : List Int) : List Nat := r.map wS
def hrow (p : List Nat) (r : List Int) : Bool := hall p (rowS r)
def cubeM (a b : List Int) : List Nat := (a.zip b).map fun z => if z.1 = z.2 then wS z.1 else 45
theorem S_list (p : List Nat) : (SX.S p).cps.toList.map (fun c => V.str ⟨#[c]⟩) = p.map fun c => V.str (one c) := by
  show (p.toArray.toList).map _ = _
  rw [List.toList_toArray]
  rfl
theorem one_at {p : List Nat} {i : Nat} {x : V} (h : (p.map fun c => V.str (one c))[i]? = some x) : ∃ c, p[i]? = some c ∧ x = V.str (one c) := by
  rw [List.getElem?_map] at h
  cases hz : p[i]? with
  | none => rw [hz] at h; cases h
  | some u => rw [hz] at h; exact ⟨u, rfl, (Option.some.inj h).symm⟩
theorem eqV_one (a b : Nat) : eqV (.str (one a)) (.str (one b)) = decide (a = b) := by
  show (one a == one b) = _
  by_cases z : a = b
  · subst z
    simp
  · rw [decide_eq_false z]
    refine beq_eq_false_iff_ne.mpr fun k => z ?_
    have := SX.S_inj k
    simpa using this
theorem zip_take_succ {α β : Type} {p : List α} {q : List β} {i : Nat} {a : α} {b : β} (h1 : p[i]? = some a) (h2 : q[i]? = some b) : (p.zip q).take (i + 1) = (p.zip q).take i ++ [(a, b)] := by
  rw [List.take_add_one]
  have : (p.zip q)[i]? = some (a, b) := by
    rw [List.getElem?_zip_eq_some]
    exact ⟨h1, h2⟩
  rw [this]
  rfl
theorem all_stop {α : Type} {l : List α} {f : α → Bool} {i : Nat} {a : α} (h : l.take (i + 1) = l.take i ++ [a]) (e : f a = false) : l.all f = false := by
  rw [← List.take_append_drop (i + 1) l, List.all_append, h, List.all_append]
  simp [e]

/-! ### a product drawn -/
theorem s01_S : Str.ofString "01" = SX.S [48, 49] := by decide +kernel
theorem it2 : ∀ k : Nat, k < 2 → ∃ c, (SX.S [48, 49]).cps[k]? = some c ∧ SgOk c := by
  intro k h
  rcases k with _ | _ | k
  · exact ⟨48, rfl, .inr (.inl rfl)⟩
  · exact ⟨49, rfl, .inr (.inr rfl)⟩
  · omega
theorem S_app (a b : List Nat) : SX.S a ++ SX.S b = SX.S (a ++ b) := by
  show (⟨a.toArray ++ b.toArray⟩ : Str) = ⟨(a ++ b).toArray⟩
  congr 1
  simp
def sp_product (K : PySem.W.Frag) : Sp := fun vs H Q _ => ∃ (d l : Addr) (n : Int) (m : Nat), vs = [.ref d, .int m] ∧ DeckG H d l n ∧ n < 900000000 ∧ m ≤ 6 ∧ ∀ (p : List Nat) (H' : Hp), DeckG H' d l (n + 13) → Fr d l H H' → ProdOk m p → Q (.str (SX.S p)) H'
theorem ok_product (T : Tx K mg) : FnOk P w K mg base CX0 2 T.f_product T.fd_product ["_law_deck_here", "_law_many"] (sp_product K) := by
  refine T.F_product.ok sc_product (fun vs H Q E h => ?_) (fun cdv A outer s H vs Q E hr h => ?_)
  · obtain ⟨d, l, n, m, rfl, _⟩ := h
    rfl
  · obtain ⟨d, l, n, m, rfl, D, hn, m6, q⟩ := h
    refine ⟨_, (pss_cons (ps_set (i := 2) sc_product.nd rfl (by first | exact .inl rfl | exact .inr rfl) (pe_call (ok_next T) (hr.mono (by decide)) (by rfl) T.g_next T.F_next.kp T.b_next .nil pass0 (pa_cons (pv 0) (pa_cons pe_int pa_nil)))) (pss_cons (ps_set (i := 3) sc_product.nd rfl (by first | exact .inl rfl | exact .inr rfl) pe_str) (pss_cons (ps_for PassesOwn.never rfl (pi_range1 (by rfl) T.m_range (pa_cons (pv 1) pa_nil)) (pg_name (i := 4) sc_product.nd rfl (by first | exact .inl rfl | exact .inr rfl)) (pss_cons (ps_set (i := 5) sc_product.nd rfl (by first | exact .inl rfl | exact .inr rfl) (pe_item_str pe_str (pe_call (ok_next T) (hr.mono (by decide)) (by rfl) T.g_next T.F_next.kp T.b_next .nil pass0 (pa_cons (pv 0) (pa_cons pe_int pa_nil))) (fun _ _ => rfl))) (pss_one (ps_set (i := 3) sc_product.nd rfl (by first | exact .inl rfl | exact .inr rfl) (pe_op op_add_str (pv 3) (pe_ix ix_list (pe_lst (pa_cons (pv 5) (pa_cons pe_str pa_nil))) (pe_callTy call_int1 (by rfl) T.m_int (by decide +kernel) (pa_cons (pe_cmpR op_lt (pe_call (ok_next T) (hr.mono (by decide)) (by rfl) T.g_next T.F_next.kp T.b_next .nil pass0 (pa_cons (pv 0) (pa_cons pe_int pa_nil))) (pv 2) (nomark _)) pa_nil)) (fun _ _ => rfl))))))) (pss_one (ps_ret (pv 3)))))), ?_⟩
    refine ⟨.ref d, rfl, d, l, 4, _, rfl, D, by omega, by decide, by decide, fun H1 ba D1 fr1 b0 b1 => ?_⟩
    refine ⟨.int m, rfl, (m : Int), rfl, by omega, by omega, ?_⟩
    refine for_range (lo := 0) (n := (m : Int).toNat) (fun i σ H' => ∃ (acc : List Nat) (y4 y5 : Option V), σ = [some (.ref d), some (.int m), some (.int ba), some (.str (SX.S acc)), y4, y5] ∧ DeckG H' d l (n + 1 + 2 * i) ∧ Fr d l H H' ∧ acc.length = i ∧ ∀ c ∈ acc, SgOk c)
      ⟨[], _, _, by rw [show Str.ofString "" = SX.S [] from by decide +kernel]; rfl, D1.mono (by omega), fr1, rfl, fun c hc => by cases hc⟩ ?_ ?_
    · rintro i σ H2 hi ⟨acc, y4, y5, rfl, D2, fr2, la, oka⟩
      have hi' : i < m := by simpa using hi
      refine ⟨.ref d, rfl, d, l, 2, _, rfl, D2, by omega, by decide, by decide, fun H3 v D3 fr3 v0 v1 => ?_⟩
      obtain ⟨c, hc, okc⟩ := it2 v.toNat (by omega)
      refine ⟨Str.ofString "01", v, c, rfl, rfl, v0, by omega, by rw [s01_S, SX.S_len]; show v < 2; omega, by rw [s01_S]; exact hc, ?_⟩
      refine ⟨.str (SX.S acc), rfl, .str ⟨#[c]⟩, rfl, sl2, fun p np => ?_⟩
      have s4 := same_upd (o := (HO.lst [V.str ⟨#[c]⟩, V.str (Str.ofString "-")])) np
      have h4 : upd H3 p (HO.lst [V.str ⟨#[c]⟩, V.str (Str.ofString "-")]) p = some (HO.lst [V.str ⟨#[c]⟩, V.str (Str.ofString "-")]) := upd_same
      generalize upd H3 p (HO.lst [V.str ⟨#[c]⟩, V.str (Str.ofString "-")]) = A1 at s4 h4 ⊢
      have D4 := D3.same s4
      have o4 := D3.off np
      refine ⟨.ref d, rfl, d, l, 4, _, rfl, D4, by omega, by decide, by decide, fun H5 u D5 fr5 u0 u1 => ?_⟩
      have h5 := fr5 _ _ o4.1 o4.2 h4
      have pick : ∃ c' : Nat, SgOk c' ∧ atI [V.str ⟨#[c]⟩, V.str (Str.ofString "-")] (if decide (u < ba) = true then 1 else 0) = some (.str (one c')) := by
        split
        · exact ⟨45, .inl rfl, by rw [dash_S]; rfl⟩
        · exact ⟨c, okc, rfl⟩
      obtain ⟨c', okc', hat⟩ := pick
      refine ⟨.int ba, rfl, _, _, rfl, rfl, .inr ⟨_, rfl, p, _, _, .str (one c'), rfl, rfl, SqL.of h5, hat, ?_⟩⟩
      refine ⟨SX.S acc, one c', rfl, rfl, ?_, ?_⟩
      · rw [SX.S_len]
        show acc.length + 1 ≤ sizeLine
        exact Nat.le_trans (show acc.length + 1 ≤ 64 by omega) (by decide)
      have e1 : SX.S acc ++ one c' = SX.S (acc ++ [c']) := S_app acc [c']
      rw [e1]
      refine ⟨acc ++ [c'], _, _, rfl, D5.mono (by push_cast; omega), ((fr2.trans fr3).trans (Fr.of s4)).trans fr5, by rw [List.length_append, la]; rfl, fun x hx => ?_⟩
      rcases List.mem_append.mp hx with h | h
      · exact oka x h
      · rw [List.mem_singleton.mp h]; exact okc'
    · rintro σ H2 ⟨acc, y4, y5, rfl, D2, fr2, la, oka⟩
      have em : (m : Int).toNat = m := by omega
      rw [em] at la D2
      exact ⟨.str (SX.S acc), rfl, q acc H2 (D2.mono (by omega)) fr2 ⟨la, oka⟩⟩

end
end Gk

--@NEST
set_option Elab.async false
set_option linter.all false
set_option maxRecDepth 100000
set_option maxHeartbeats 1000000
set_option pp.maxSteps 1500
set_option pp.deepTerms false
namespace Gk
open PySem PySem.Spec PyProof.Rows L2
section
variable {P : Program} {w : World} {K : PySem.W.Frag} {mg : Str → Option Value} {base : Heap}
/-! ### products and rows, the law's own -/
theorem eq_nilI (bad : List Int) : PyData.eqv (.list (bad.map .int)) (.list []) = bad.isEmpty := by cases bad <;> rfl
theorem not_in_two (c a : Nat) : (if true = true then !inV (.str (one c)) [V.str (Str.ofString "-"), V.str (one a)] else inV (.str (one c)) [V.str (Str.ofString "-"), V.str (one a)]) = !(decide (c = 45) || decide (c = a)) := by
  show (!(eqV (.str (Str.ofString "-")) (.str (one c)) || (eqV (.str (one a)) (.str (one c)) || false))) = _
  rw [dash_S, eqV_one, eqV_one, Bool.or_false]
  congr 2
  · exact decide_eq_decide.mpr ⟨Eq.symm, Eq.symm⟩
  · exact decide_eq_decide.mpr ⟨Eq.symm, Eq.symm⟩
def sp_holds (K : PySem.W.Frag) : Sp := fun vs H Q _ => ∃ (m : Nat) (p : List Nat) (a : Addr) (r : List Int), vs = [.str (SX.S p), .ref a] ∧ p.length = m ∧ H a = some (.tup (r.map V.int)) ∧ Row01' r ∧ r.length = m ∧ m ≤ 6 ∧ ∀ H', Same H H' → Q (.bl (hrow p r)) H'
theorem ok_holds (T : Tx K mg) : FnOk P w K mg base CX0 1 T.f_holds T.fd_holds ["_law_product_here", "_law_row"] (sp_holds K) := by
  refine T.F_holds.ok sc_holds (fun vs H Q E h => ?_) (fun cdv A outer s H vs Q E hr h => ?_)
  · obtain ⟨m, p, a, r, rfl, _⟩ := h
    rfl
  · obtain ⟨m, p, a, r, rfl, lp, ha, ok, lr, m6, q⟩ := h
    refine ⟨_, (pss_one (ps_ret (pe_cmpR (op_eqD hr.units) (pe_lc (own := [("_law_k", 2)]) (by rfl) sc_holds.nd (pi_range1 (by rfl) T.m_range (pa_cons (pe_callB call_len_seq (by rfl) T.m_len PySem.boot_len (pa_cons (pv 1) pa_nil)) pa_nil)) (blkOk_by (own := [("_law_k", 2)]) (N := ["_law_product_here", "_law_row", "_law_k"]) (sc := defScope s_holds) (by decide +kernel)) (fun _ _ _ _ _ => (pg_name (i := 2) sc_holds.nd rfl (by first | exact .inl rfl | exact .inr rfl))) (fun _ _ _ _ _ => (pts_one (pt_cmpR (show OpR _ _ (rIn K true) from op_notIn_seq) (pe_item_str (pv 0) (pv 2) (fun _ _ => rfl)) (pe_tup (pa_cons pe_str (pa_cons (pe_callTy call_str_int (by rfl) T.m_str (by decide +kernel) (pa_cons (pe_ix (show IxR _ (rIxT K) from ix_tup) (pv 1) (pv 2) (fun _ _ => rfl)) pa_nil)) pa_nil))) rfl))) (fun _ _ _ _ _ => (pv 2))) (pe_lst pa_nil) (nomark _)))), ?_⟩
    refine ⟨.ref a, rfl, a, _, rfl, .inr (SqT.of ha), ?_⟩
    rw [List.length_map, lr]
    refine ⟨(m : Int), rfl, by omega, by omega, fun L nL => ?_⟩
    refine lc_range (lo := 0) (n := (m : Int).toNat) (fun j H' => Same H (hd1 L H') ∧ ∃ bad : List Int, H' L = some (.lst (bad.map V.int)) ∧ bad.length ≤ j ∧ bad.isEmpty = ((p.zip (rowS r)).take j).all fun z => decide (z.1 = 45) || decide (z.1 = z.2)) ⟨hd1_of (same_upd nL) nL, [], upd_same, Nat.le_refl _, rfl⟩ ?_ ?_
    · rintro j H1 hj ⟨s1, bad, hL, lb, ih⟩
      have hj' : j < m := by simpa using hj
      have hc : p[j]? = some (p[j]'(by omega)) := List.getElem?_eq_getElem _
      have hx : r[j]? = some (r[j]'(by omega)) := List.getElem?_eq_getElem _
      revert hc hx
      generalize p[j]'(by omega) = c
      generalize r[j]'(by omega) = x
      intro hc hx
      have x01 := ok x (List.mem_of_getElem? hx)
      have hw : (rowS r)[j]? = some (wS x) := by unfold rowS; rw [List.getElem?_map, hx]; rfl
      have ez := zip_take_succ hc hw
      have hat : atI (r.map V.int) (0 + (j : Int)) = some (.int x) := by rw [Int.zero_add]; exact atI_nat (by rw [List.getElem?_map, hx]; rfl)
      refine ⟨rfl, .str (SX.S p), rfl, .int (0 + (j : Int)), rfl, SX.S p, 0 + (j : Int), c, rfl, rfl, by omega, by omega, by rw [SX.S_len]; omega, ?_, .ref a, rfl, .int (0 + (j : Int)), rfl, a, _, _, .int x, rfl, rfl, SqT.of (hd1_le _ _ (s1 _ _ ha)), hat, x, rfl, by rcases x01 with rfl | rfl <;> decide, sl2, fun t nt => ?_⟩
      · rw [show (0 + (j : Int)).toNat = j by omega]
        show p.toArray[j]? = some c
        rw [List.getElem?_toArray]
        exact hc
      rw [str01 x01]
      have st := same_upd (o := HO.tup [V.str (Str.ofString "-"), V.str (one (wS x))]) nt
      refine ⟨t, _, rfl, .inr (SqT.of upd_same), rfl, rfl, _, rfl, ?_⟩
      have sL := s1.trans (hd1_same (p := L) st)
      have nin := not_in_two c (wS x)
      refine ite2 (fun e => ?_) (fun e => ?_)
      · have e' : (decide (c = 45) || decide (c = wS x)) = false := by
          have := nin.symm.trans e
          simpa using this
        refine ⟨.int (0 + (j : Int)), rfl, _, st _ _ hL, ?_, sL.trans hd1_upd, bad ++ [0 + (j : Int)], by rw [upd_same, List.map_append]; rfl, by rw [List.length_append]; exact Nat.succ_le_succ lb, ?_⟩
        · rw [List.length_map]
          exact Nat.lt_of_lt_of_le (show _ < 64 by omega) (by decide)
        · rw [ez, List.all_append]
          show _ = (_ && ((decide (c = 45) || decide (c = wS x)) && true))
          rw [e', Bool.false_and, Bool.and_false]
          cases bad <;> rfl
      · have e' : (decide (c = 45) || decide (c = wS x)) = true := by
          cases hh : (decide (c = 45) || decide (c = wS x)) with
          | true => rfl
          | false => exact absurd (nin.trans (by rw [hh]; rfl)) e
        refine ⟨sL, bad, st _ _ hL, by omega, ?_⟩
        rw [ez, List.all_append, ih]
        show _ = (_ && ((decide (c = 45) || decide (c = wS x)) && true))
        rw [e']
        simp
    · rintro H1 ⟨s1, bad, hL, lb, ih⟩
      have s1' : Same H H1 := fun b o e => hd1_le _ _ (s1 _ _ e)
      refine ⟨Nat.zero_le _, fun e ne => ?_⟩
      have s2 := same_upd (o := HO.lst []) ne
      refine ⟨.list (bad.map .int), .list [], .lst (SqL.of (s2 _ _ hL)) (dpInts bad), .lst (SqL.of upd_same) .nil, shInts bad, rfl, ?_⟩
      rw [eq_nilI, ih]
      have : (p.zip (rowS r)).length ≤ (m : Int).toNat := by rw [List.length_zip]; omega
      rw [List.take_of_length_le this]
      exact q _ (s1'.trans s2)

end
end Gk

--@NEST
set_option Elab.async false
set_option linter.all false
set_option maxRecDepth 100000
set_option maxHeartbeats 1000000
set_option pp.maxSteps 1500
set_option pp.deepTerms false
namespace Gk
open PySem PySem.Spec PyProof.Rows L2
theorem str_dec (x y : Str) : decide (V.str x = V.str y) = decide (x = y) := by
  by_cases z : x = y
  · rw [decide_eq_true z, decide_eq_true (by rw [z])]
  · rw [decide_eq_false z, decide_eq_false (fun k => z (V.str.inj k))]
theorem one_inj {a b : Nat} : decide (one a = one b) = decide (a = b) := by
  by_cases z : a = b
  · rw [decide_eq_true z, decide_eq_true (by rw [z])]
  · rw [decide_eq_false z, decide_eq_false (fun k => z (by have := SX.S_inj k; simpa using this))]

section
variable {P : Program} {w : World} {K : PySem.W.Frag} {mg : Str → Option Value} {base : Heap}
theorem dash_in_two (c a : Nat) : (if true = true then !inV (.str (Str.ofString "-")) [V.str (one c), V.str (one a)] else inV (.str (Str.ofString "-")) [V.str (one c), V.str (one a)]) = !(decide (c = 45) || decide (a = 45)) := by
  show (!(eqV (.str (one c)) (.str (Str.ofString "-")) || (eqV (.str (one a)) (.str (Str.ofString "-")) || false))) = _
  rw [dash_S, eqV_one, eqV_one, Bool.or_false]
def sp_meets (K : PySem.W.Frag) : Sp := fun vs H Q _ => ∃ (m : Nat) (p q' : List Nat), vs = [.str (SX.S p), .str (SX.S q')] ∧ p.length = m ∧ q'.length = m ∧ m ≤ 6 ∧ ∀ H', Same H H' → Q (.bl (meetM p q')) H'
theorem ok_meets (T : Tx K mg) : FnOk P w K mg base CX0 1 T.f_meets T.fd_meets ["_law_product_here", "_law_other"] (sp_meets K) := by
  refine T.F_meets.ok sc_meets (fun vs H Q E h => ?_) (fun cdv A outer s H vs Q E hr h => ?_)
  · obtain ⟨m, p, q', rfl, _⟩ := h
    rfl
  · obtain ⟨m, p, q', rfl, lp, lq, m6, q⟩ := h
    refine ⟨_, (pss_one (ps_ret (pe_cmpR (op_eqD hr.units) (pe_lc (own := [("_law_k", 2)]) (by rfl) sc_meets.nd (pi_range1 (by rfl) T.m_range (pa_cons (pe_callB call_len_str (by rfl) T.m_len PySem.boot_len (pa_cons (pv 1) pa_nil)) pa_nil)) (blkOk_by (own := [("_law_k", 2)]) (N := ["_law_product_here", "_law_other", "_law_k"]) (sc := defScope s_meets) (by decide +kernel)) (fun _ _ _ _ _ => (pg_name (i := 2) sc_meets.nd rfl (by first | exact .inl rfl | exact .inr rfl))) (fun _ _ _ _ _ => (pts_one (PW.pt (pw_and (pt_cmpR op_ne (pe_item_str (pv 0) (pv 2) (fun _ _ => rfl)) (pe_item_str (pv 1) (pv 2) (fun _ _ => rfl)) (nomark _)) (pw_and1 (pt_cmpR (show OpR _ _ (rIn K true) from op_notIn_seq) pe_str (pe_tup (pa_cons (pe_item_str (pv 0) (pv 2) (fun _ _ => rfl)) (pa_cons (pe_item_str (pv 1) (pv 2) (fun _ _ => rfl)) pa_nil))) rfl)))))) (fun _ _ _ _ _ => (pv 2))) (pe_lst pa_nil) (nomark _)))), ?_⟩
    refine ⟨.str (SX.S q'), rfl, _, rfl, ?_, ?_⟩
    · rw [SX.S_len, lq]
      exact Nat.le_trans (show m ≤ 64 by omega) (by decide)
    rw [SX.S_len, lq]
    refine ⟨(m : Int), rfl, by omega, by omega, fun L nL => ?_⟩
    refine lc_range (lo := 0) (n := (m : Int).toNat) (fun j H' => Same H (hd1 L H') ∧ ∃ bad : List Int, H' L = some (.lst (bad.map V.int)) ∧ bad.length ≤ j ∧ bad.isEmpty = ((p.zip q').take j).all fun z => decide (z.1 = 45) || decide (z.2 = 45) || decide (z.1 = z.2)) ⟨hd1_of (same_upd nL) nL, [], upd_same, Nat.le_refl _, rfl⟩ ?_ ?_
    · rintro j H1 hj ⟨s1, bad, hL, lb, ih⟩
      have hj' : j < m := by simpa using hj
      have hc : p[j]? = some (p[j]'(by omega)) := List.getElem?_eq_getElem _
      have hx : q'[j]? = some (q'[j]'(by omega)) := List.getElem?_eq_getElem _
      revert hc hx
      generalize p[j]'(by omega) = c
      generalize q'[j]'(by omega) = x
      intro hc hx
      have ez := zip_take_succ hc hx
      have at_ : ∀ {l : List Nat} {y : Nat}, l[j]? = some y → (SX.S l).cps[(0 + (j : Int)).toNat]? = some y := fun {l y} h => by
        rw [show (0 + (j : Int)).toNat = j by omega]
        show l.toArray[j]? = some y
        rw [List.getElem?_toArray]
        exact h
      have h0 : (0 : Int) ≤ 0 + (j : Int) := by omega
      have h63 : 0 + (j : Int) < 2 ^ 63 := by omega
      have hp : 0 + (j : Int) < (SX.S p).length := by rw [SX.S_len]; omega
      have hq : 0 + (j : Int) < (SX.S q').length := by rw [SX.S_len]; omega
      have skip : ∀ H2, Same H1 H2 → (decide (c = 45) || decide (x = 45) || decide (c = x)) = true → (Same H (hd1 L H2) ∧ ∃ bad : List Int, H2 L = some (.lst (bad.map V.int)) ∧ bad.length ≤ j + 1 ∧ bad.isEmpty = ((p.zip q').take (j + 1)).all fun z => decide (z.1 = 45) || decide (z.2 = 45) || decide (z.1 = z.2)) := fun H2 s2 e' => by
        refine ⟨s1.trans (hd1_same (p := L) s2), bad, s2 _ _ hL, by omega, ?_⟩
        rw [ez, List.all_append, ih]
        show _ = (_ && ((decide (c = 45) || decide (x = 45) || decide (c = x)) && true))
        rw [e']
        simp
      refine ⟨rfl, .str (SX.S p), rfl, .int (0 + (j : Int)), rfl, SX.S p, 0 + (j : Int), c, rfl, rfl, h0, h63, hp, at_ hc, .str (SX.S q'), rfl, .int (0 + (j : Int)), rfl, SX.S q', 0 + (j : Int), x, rfl, rfl, h0, h63, hq, at_ hx, rfl, _, rfl, ite2 (fun e => ?_) (fun e => ?_)⟩
      · have ncx : ¬ c = x := fun z => by
          rw [z] at e
          simp at e
        refine ⟨.str (SX.S p), rfl, .int (0 + (j : Int)), rfl, SX.S p, 0 + (j : Int), c, rfl, rfl, h0, h63, hp, at_ hc, .str (SX.S q'), rfl, .int (0 + (j : Int)), rfl, SX.S q', 0 + (j : Int), x, rfl, rfl, h0, h63, hq, at_ hx, sl2, fun t nt => ?_⟩
        have st := same_upd (o := HO.tup [V.str (one c), V.str (one x)]) nt
        refine ⟨t, _, rfl, .inr (SqT.of upd_same), rfl, rfl, _, rfl, ?_⟩
        have nin := dash_in_two c x
        have sL := s1.trans (hd1_same (p := L) st)
        refine ite2 (fun e2 => ?_) (fun e2 => ?_)
        · have e' : (decide (c = 45) || decide (x = 45) || decide (c = x)) = false := by
            have := nin.symm.trans e2
            rw [decide_eq_false ncx, Bool.or_false]
            simpa using this
          refine ⟨.int (0 + (j : Int)), rfl, _, st _ _ hL, ?_, sL.trans hd1_upd, bad ++ [0 + (j : Int)], by rw [upd_same, List.map_append]; rfl, by rw [List.length_append]; exact Nat.succ_le_succ lb, ?_⟩
          · rw [List.length_map]
            exact Nat.lt_of_lt_of_le (show _ < 64 by omega) (by decide)
          · rw [ez, List.all_append]
            show _ = (_ && ((decide (c = 45) || decide (x = 45) || decide (c = x)) && true))
            rw [e', Bool.false_and, Bool.and_false]
            cases bad <;> rfl
        · refine skip _ st ?_
          cases hh : (decide (c = 45) || decide (x = 45)) with
          | true => rfl
          | false => exact absurd (nin.trans (by rw [hh]; rfl)) e2
      · refine skip _ (Same.refl _) ?_
        have cx : c = x := by
          by_cases z : c = x
          · exact z
          · refine absurd ?_ e
            show (!decide (V.str (one c) = V.str (one x))) = true
            rw [str_dec, one_inj, decide_eq_false z]
            rfl
        rw [decide_eq_true cx, Bool.or_true]
    · rintro H1 ⟨s1, bad, hL, lb, ih⟩
      have s1' : Same H H1 := fun b o e => hd1_le _ _ (s1 _ _ e)
      refine ⟨Nat.zero_le _, fun e ne => ?_⟩
      have s2 := same_upd (o := HO.lst []) ne
      refine ⟨.list (bad.map .int), .list [], .lst (SqL.of (s2 _ _ hL)) (dpInts bad), .lst (SqL.of upd_same) .nil, shInts bad, rfl, ?_⟩
      rw [eq_nilI, ih]
      have : (p.zip q').length ≤ (m : Int).toNat := by rw [List.length_zip]; omega
      rw [List.take_of_length_le this]
      exact q _ (s1'.trans s2)

end
end Gk

--@NEST
set_option Elab.async false
set_option linter.all false
set_option maxRecDepth 100000
set_option maxHeartbeats 1000000
set_option pp.maxSteps 1500
set_option pp.deepTerms false
namespace Gk
open PySem PySem.Spec PyProof.Rows L2
section
variable {P : Program} {w : World} {K : PySem.W.Frag} {mg : Str → Option Value} {base : Heap}
def sp_cube (K : PySem.W.Frag) : Sp := fun vs H Q _ => ∃ (m : Nat) (ra rb : Addr) (a b : List Int), vs = [.ref ra, .ref rb] ∧ H ra = some (.tup (a.map V.int)) ∧ H rb = some (.tup (b.map V.int)) ∧ Row01' a ∧ a.length = m ∧ b.length = m ∧ m ≤ 6 ∧ ∀ H', Same H H' → Q (.str (SX.S (cubeM a b))) H'
theorem ok_cube (T : Tx K mg) : FnOk P w K mg base CX0 1 T.f_cube T.fd_cube ["_law_one", "_law_other"] (sp_cube K) := by
  refine T.F_cube.ok sc_cube (fun vs H Q E h => ?_) (fun cdv A outer s H vs Q E hr h => ?_)
  · obtain ⟨m, ra, rb, a, b, rfl, _⟩ := h
    rfl
  · obtain ⟨m, ra, rb, a, b, rfl, ha, hb, oa, la, lb, m6, q⟩ := h
    refine ⟨_, (pss_one (ps_ret (pe_join pe_str (pe_lc (own := [("_law_k", 2)]) (by rfl) sc_cube.nd (pi_range1 (by rfl) T.m_range (pa_cons (pe_callB call_len_seq (by rfl) T.m_len PySem.boot_len (pa_cons (pv 0) pa_nil)) pa_nil)) (blkOk_by (own := [("_law_k", 2)]) (N := ["_law_one", "_law_other", "_law_k"]) (sc := defScope s_cube) (by decide +kernel)) (fun _ _ _ _ _ => (pg_name (i := 2) sc_cube.nd rfl (by first | exact .inl rfl | exact .inr rfl))) (fun _ _ _ _ _ => pts_nil) (fun _ _ _ _ _ => (pe_ix (show IxR _ (rIxL K) from ix_list) (pe_lst (pa_cons pe_str (pa_cons (pe_callTy call_str_int (by rfl) T.m_str (by decide +kernel) (pa_cons (pe_ix (show IxR _ (rIxT K) from ix_tup) (pv 0) (pv 2) (fun _ _ => rfl)) pa_nil)) pa_nil))) (pe_callTy call_int1 (by rfl) T.m_int (by decide +kernel) (pa_cons (pe_cmpR op_eq (pe_ix (show IxR _ (rIxT K) from ix_tup) (pv 0) (pv 2) (fun _ _ => rfl)) (pe_ix (show IxR _ (rIxT K) from ix_tup) (pv 1) (pv 2) (fun _ _ => rfl)) (nomark _)) pa_nil)) (fun _ _ => rfl))))))), ?_⟩
    refine ⟨⟨_, rfl⟩, .ref ra, rfl, ra, _, rfl, .inr (SqT.of ha), ?_⟩
    rw [List.length_map, la]
    refine ⟨(m : Int), rfl, by omega, by omega, fun L nL => ?_⟩
    refine lc_range (lo := 0) (n := (m : Int).toNat) (fun j H' => Same H (hd1 L H') ∧ H' L = some (.lst (((((a.zip b).take j).map fun z => if z.1 = z.2 then wS z.1 else 45).map one).map V.str))) ⟨hd1_of (same_upd nL) nL, upd_same⟩ ?_ ?_
    · rintro j H1 hj ⟨s1, hL⟩
      have hj' : j < m := by simpa using hj
      have hu : a[j]? = some (a[j]'(by omega)) := List.getElem?_eq_getElem _
      have hv : b[j]? = some (b[j]'(by omega)) := List.getElem?_eq_getElem _
      revert hu hv
      generalize a[j]'(by omega) = u
      generalize b[j]'(by omega) = v
      intro hu hv
      have u01 := oa u (List.mem_of_getElem? hu)
      have ez := zip_take_succ hu hv
      have at_ : ∀ {l : List Int} {y : Int}, l[j]? = some y → atI (l.map V.int) (0 + (j : Int)) = some (.int y) := fun {l y} h => by
        rw [Int.zero_add]
        exact atI_nat (by rw [List.getElem?_map, h]; rfl)
      have ha1 := hd1_le _ _ (s1 _ _ ha)
      have hb1 := hd1_le _ _ (s1 _ _ hb)
      refine ⟨rfl, .ref ra, rfl, .int (0 + (j : Int)), rfl, ra, _, _, .int u, rfl, rfl, SqT.of ha1, at_ hu, u, rfl, by rcases u01 with rfl | rfl <;> decide, sl2, fun p np => ?_⟩
      rw [str01 u01]
      have sp := same_upd (o := HO.lst [V.str (Str.ofString "-"), V.str (one (wS u))]) np
      have hp : (upd H1 p (.lst [V.str (Str.ofString "-"), V.str (one (wS u))])) p = some (.lst [V.str (Str.ofString "-"), V.str (one (wS u))]) := upd_same
      generalize upd H1 p _ = H2 at sp hp ⊢
      have pick : atI [V.str (Str.ofString "-"), V.str (one (wS u))] (if decide (V.int u = V.int v) = true then 1 else 0) = some (.str (one (if u = v then wS u else 45))) := by
        by_cases z : u = v
        · rw [if_pos (decide_eq_true (by rw [z])), if_pos z]; rfl
        · rw [if_neg (fun k => z (V.int.inj (of_decide_eq_true k))), if_neg z, dash_S]; rfl
      refine ⟨.ref ra, rfl, .int (0 + (j : Int)), rfl, ra, _, _, .int u, rfl, rfl, SqT.of (sp _ _ ha1), at_ hu, .ref rb, rfl, .int (0 + (j : Int)), rfl, rb, _, _, .int v, rfl, rfl, SqT.of (sp _ _ hb1), at_ hv, rfl, .inr ⟨_, rfl, p, _, _, _, rfl, rfl, SqL.of hp, pick, ?_⟩⟩
      have sL := s1.trans (hd1_same (p := L) sp)
      refine ⟨_, sp _ _ hL, ?_, sL.trans hd1_upd, ?_⟩
      · rw [List.length_map, List.length_map, List.length_map, List.length_take, List.length_zip]
        exact Nat.lt_of_lt_of_le (show _ < 64 by omega) (by decide)
      · rw [upd_same, ez, List.map_append, List.map_append, List.map_append]
        rfl
    · rintro H1 ⟨s1, hL⟩
      have s1' : Same H H1 := fun b o e => hd1_le _ _ (s1 _ _ e)
      have : (a.zip b).length ≤ (m : Int).toNat := by rw [List.length_zip]; omega
      rw [List.take_of_length_le this] at hL
      refine ⟨Str.ofString "", L, (cubeM a b).map one, rfl, rfl, .inl (SqL.of hL), join_fit (by unfold cubeM; rw [List.length_map, List.length_zip]; omega), ?_⟩
      rw [join_one]
      exact q _ s1'

end
end Gk

--@NEST
set_option Elab.async false
set_option linter.all false
set_option maxRecDepth 100000
set_option maxHeartbeats 1000000
set_option pp.maxSteps 1500
set_option pp.deepTerms false
namespace Gk
open PySem PySem.Spec PyProof.Rows L2
section
variable {P : Program} {w : World} {K : PySem.W.Frag} {mg : Str → Option Value} {base : Heap}
/-! ### all rows, the law's own -/
def rowsL : Nat → List (List Int)
  | 0 => [[]]
  | k + 1 => (rowsL k).map (· ++ [0]) ++ (rowsL k).map (· ++ [1])
theorem rowsL_len : ∀ k, (rowsL k).length = 2 ^ k
  | 0 => rfl
  | k + 1 => by
    unfold rowsL
    rw [List.length_append, List.length_map, List.length_map, rowsL_len k, Nat.pow_succ]
    omega
theorem rowsL_ok : ∀ k, ∀ r ∈ rowsL k, r.length = k ∧ Row01' r
  | 0, r, h => by
    rw [List.mem_singleton.mp h]
    exact ⟨rfl, fun x hx => by cases hx⟩
  | k + 1, r, h => by
    unfold rowsL at h
    rcases List.mem_append.mp h with h | h
    · obtain ⟨q, hq, rfl⟩ := List.mem_map.mp h
      have ih := rowsL_ok k q hq
      refine ⟨by rw [List.length_append, ih.1]; rfl, fun x hx => ?_⟩
      rcases List.mem_append.mp hx with z | z
      · exact ih.2 x z
      · exact .inl (List.mem_singleton.mp z)
    · obtain ⟨q, hq, rfl⟩ := List.mem_map.mp h
      have ih := rowsL_ok k q hq
      refine ⟨by rw [List.length_append, ih.1]; rfl, fun x hx => ?_⟩
      rcases List.mem_append.mp hx with z | z
      · exact ih.2 x z
      · exact .inr (List.mem_singleton.mp z)
theorem rowD_snoc (r : List Int) (v : Int) : rowD (r ++ [v]) = .tuple (r.map PyData.int ++ [.int v]) := by
  unfold rowD
  rw [List.map_append]
  rfl
/-- the walk that puts one more worth behind each row -/
theorem more_step {H1 : Hp} {D : Addr} {rs : List (List Int)} {cs : List V} {ca : Addr} (v : Int) (hca : H1 ca = some (.lst cs)) (tcs : TkAll H1 cs (rs.map rowD)) (rl : ∀ r ∈ rs, r.length ≤ 8) (rs64 : rs.length ≤ 64) {k : Nat} {x : V} {H2 : Hp} (hx : cs[k]? = some x) (s2 : Same H1 (hd1 D H2)) {acc : List V} (hD : H2 D = some (.lst acc)) (ta : TkAll (hd1 D H2) acc ((rs.take k).map fun r => rowD (r ++ [v]))) (Q : VK)
    (q : ∀ (p : Addr) (H4 : Hp), H4 D = some (.lst acc) → Same H1 (hd1 D (upd H4 D (.lst (acc ++ [.ref p])))) → TkAll (hd1 D (upd H4 D (.lst (acc ++ [.ref p])))) (acc ++ [.ref p]) ((rs.take (k + 1)).map fun r => rowD (r ++ [v])) → Q (.ref p) H4) :
    ∀ t, H2 t = none → rCatA K x (.ref t) (upd H2 t (.tup [.int v])) Q := by
  intro t nt
  obtain ⟨r, hr, tx⟩ := tcs.at hx
  obtain ⟨xa, rfl, hxa⟩ := Tk.row_inv tx
  have rl' := rl r (List.mem_of_getElem? hr)
  have st := same_upd (o := HO.tup [V.int v]) nt
  have ntD : t ≠ D := (ne_of_none hD nt).symm
  have sD := hd1_same (p := D) st
  refine catA (st _ _ (hd1_le _ _ (s2 _ _ hxa))) upd_same ?_ fun p H4 s4 h4 => ?_
  · rw [List.length_map]
    exact Nat.le_trans (show _ ≤ 64 by simp only [List.length_cons, List.length_nil]; omega) (by decide)
  have hD4 := s4 _ _ (st _ _ hD)
  have npD : p ≠ D := ne_of h4 hD4 (by intro z; cases z)
  have s4D := hd1_same (p := D) s4
  refine q p H4 hD4 (((s2.trans sD).trans s4D).trans hd1_upd) ?_
  rw [List.take_add_one, hr]
  show TkAll _ _ ((rs.take k ++ [r]).map _)
  rw [List.map_append]
  refine (((ta.same sD).same s4D).same hd1_upd).append (.cons ?_ .nil)
  show Tk _ _ (rowD (r ++ [v]))
  rw [rowD_snoc]
  refine .tup (xs := r.map V.int ++ [.int v]) ?_ ((TkAll.ints _).append (.cons (.int _) .nil))
  rw [hd1_at npD, upd_ne npD]
  exact h4

def adjR : List (List Int) → Bool
  | x :: y :: r => !HT.lexLt y x && adjR (y :: r)
  | _ => true
theorem adjR_srt : ∀ l : List (List Int), adjR l = true → l.Pairwise fun x y => HT.lexLt y x = false
  | [], _ => List.Pairwise.nil
  | [x], _ => List.pairwise_singleton _ _
  | x :: y :: r, h => by
    have h : (!HT.lexLt y x && adjR (y :: r)) = true := h
    rw [Bool.and_eq_true] at h
    have t := adjR_srt (y :: r) h.2
    have hx : HT.lexLt y x = false := by simpa using h.1
    refine List.pairwise_cons.mpr ⟨fun z hz => ?_, t⟩
    rcases List.mem_cons.mp hz with rfl | hz
    · exact hx
    · exact SrtTT.lex_tr _ _ _ hx ((List.pairwise_cons.mp t).1 z hz)

theorem vint_injX : ∀ {a b : List Int}, a.map V.int = b.map V.int → a = b
  | [], [], _ => rfl
  | [], _ :: _, h => by cases h
  | _ :: _, [], h => by cases h
  | x :: r, y :: t, h => by
    have h := List.cons.inj h
    have e : x = y := by injection h.1
    rw [e, vint_injX h.2]
theorem row_uniq {H : Hp} {v : V} {p q : List Int} (h : Tk H v (rowD p)) (h' : Tk H v (rowD q)) : p = q := by
  obtain ⟨a, rfl, ha⟩ := h.row_inv
  obtain ⟨a', e, ha'⟩ := h'.row_inv
  cases e
  rw [ha] at ha'
  have e1 : p.map V.int = q.map V.int := by injection ha' with z; injection z
  exact vint_injX e1
noncomputable def keyR (H : Hp) (v : V) : List Int := Classical.epsilon fun p => Tk H v (rowD p)
theorem keyR_eq {H : Hp} {v : V} {p : List Int} (h : Tk H v (rowD p)) : keyR H v = p := row_uniq (Classical.epsilon_spec (p := fun p => Tk H v (rowD p)) ⟨p, h⟩) h
theorem keysR_eq {H : Hp} : ∀ {xs : List V} {ds : List (List Int)}, TkAll H xs (ds.map rowD) → xs.map (keyR H) = ds
  | [], [], .nil => rfl
  | _ :: _, _ :: _, .cons h t => by rw [List.map_cons, keyR_eq h, keysR_eq t]
theorem keysR_tk {H : Hp} : ∀ {xs : List V}, (∀ x ∈ xs, ∃ p, Tk H x (rowD p)) → TkAll H xs ((xs.map (keyR H)).map rowD)
  | [], _ => .nil
  | x :: r, h => by
    obtain ⟨p, hp⟩ := h x (List.mem_cons_self ..)
    refine .cons ?_ (keysR_tk fun y hy => h y (List.mem_cons_of_mem _ hy))
    rw [keyR_eq hp]
    exact hp
theorem TkAll.memX {H : Hp} {α : Type} {f : α → PyData} {xs : List V} {ds : List α} (t : TkAll H xs (ds.map f)) : ∀ x ∈ xs, ∃ d, d ∈ ds ∧ Tk H x (f d) := fun x hx => by
  obtain ⟨j, hj⟩ := List.getElem?_of_mem hx
  obtain ⟨d, hd, h⟩ := t.at hj
  exact ⟨d, List.mem_of_getElem? hd, h⟩

def rowsU : Nat → List (List Int)
  | 0 => [[]]
  | k + 1 => (rowsU k).map (fun r => (0 : Int) :: r) ++ (rowsU k).map (fun r => (1 : Int) :: r)
theorem perm_rowsU : ((List.range 7).all fun m => (rowsL m).isPerm (rowsU m) && adjR (rowsU m)) = true := by decide +kernel
theorem rows_uniqU {m : Nat} {ys : List (List Int)} (hm : m ≤ 6) (p : ys.Perm (rowsL m)) (s : ys.Pairwise fun x y => HT.lexLt y x = false) : ys = rowsU m := by
  have h := List.all_eq_true.mp perm_rowsU m (List.mem_range.mpr (by omega))
  rw [Bool.and_eq_true] at h
  exact List.Perm.eq_of_pairwise (fun a b _ _ u v => SrtTT.lex_tot _ _ v u) s (adjR_srt _ h.2) (p.trans (List.isPerm_iff.mp h.1))
def sp_rows (K : PySem.W.Frag) : Sp := fun vs H Q _ => ∃ m : Nat, vs = [.int m] ∧ 1 ≤ m ∧ m ≤ 6 ∧ ∀ r H', H r = none → Same H H' → Tk H' (.ref r) (.list ((rowsU m).map rowD)) → Q (.ref r) H'
theorem ok_rows (T : Tx K mg) : FnOk P w K mg base CX0 1 T.f_rows T.fd_rows ["_law_many"] (sp_rows K) := by
  refine T.F_rows.ok sc_rows (fun vs H Q E h => ?_) (fun cdv A outer s H vs Q E hr h => ?_)
  · obtain ⟨m, rfl, _⟩ := h
    rfl
  · obtain ⟨m, rfl, m1, m6, q⟩ := h
    refine ⟨_, (pss_cons (ps_set (i := 1) sc_rows.nd rfl (by first | exact .inl rfl | exact .inr rfl) (pe_lst (pa_cons (pe_tup pa_nil) pa_nil))) (pss_cons (ps_for PassesOwn.never rfl (pi_range1 (by rfl) T.m_range (pa_cons (pv 0) pa_nil)) (pg_name (i := 2) sc_rows.nd rfl (by first | exact .inl rfl | exact .inr rfl)) (pss_one (ps_set (i := 1) sc_rows.nd rfl (by first | exact .inl rfl | exact .inr rfl) (pe_op op_cat (pe_lc (own := [("_law_row", 3)]) (by rfl) sc_rows.nd (pi_list (pv 1)) (blkOk_by (own := [("_law_row", 3)]) (N := ["_law_many", "_law_found", "_law_place", "_law_row"]) (sc := defScope s_rows) (by decide +kernel)) (fun _ _ _ _ _ => (pg_name (i := 3) sc_rows.nd rfl (by first | exact .inl rfl | exact .inr rfl))) (fun _ _ _ _ _ => pts_nil) (fun _ _ _ _ _ => (pe_op (show OpR _ _ (rCatA K) from op_catA) (pv 3) (pe_tup (pa_cons pe_int pa_nil))))) (pe_lc (own := [("_law_row", 3)]) (by rfl) sc_rows.nd (pi_list (pv 1)) (blkOk_by (own := [("_law_row", 3)]) (N := ["_law_many", "_law_found", "_law_place", "_law_row"]) (sc := defScope s_rows) (by decide +kernel)) (fun _ _ _ _ _ => (pg_name (i := 3) sc_rows.nd rfl (by first | exact .inl rfl | exact .inr rfl))) (fun _ _ _ _ _ => pts_nil) (fun _ _ _ _ _ => (pe_op (show OpR _ _ (rCatA K) from op_catA) (pv 3) (pe_tup (pa_cons pe_int pa_nil))))))))) (pss_one (ps_ret (pe_callB (cr_sortedTn (d := m) m1) (by rfl) T.m_sorted (by decide +kernel) (pa_cons (pv 1) pa_nil)))))), ?_⟩
    refine ⟨Nat.zero_le _, fun t0 n0 => ⟨sl1, fun c0 nc0 => ?_⟩⟩
    refine ⟨.int m, rfl, (m : Int), rfl, by omega, by omega, ?_⟩
    refine for_range (lo := 0) (n := (m : Int).toNat) (fun i σ H' => ∃ ca y2 y3, σ = [some (.int m), some (.ref ca), y2, y3] ∧ Same H H' ∧ Tk H' (.ref ca) (.list ((rowsL i).map rowD)))
      ⟨c0, _, _, rfl, (same_upd n0).trans (same_upd nc0), .lst upd_same (.cons (.tup (same_upd nc0 _ _ upd_same) .nil) .nil)⟩ ?_ ?_
    · rintro i σ H1 hi ⟨ca, y2, y3, rfl, s1, tc⟩
      have hi' : i < m := by simpa using hi
      obtain ⟨ca', cs, e, hca, tcs⟩ := tc.lst_inv
      cases e
      have big : (rowsL i).length ≤ 64 := by
        rw [rowsL_len]
        exact Nat.pow_le_pow_right (by decide) (show i ≤ 6 by omega)
      have rl : ∀ r ∈ rowsL i, r.length ≤ 8 := fun r hr => by
        have := (rowsL_ok i r hr).1
        omega
      have lcs : cs.length = (rowsL i).length := by rw [tcs.length, List.length_map]
      refine ⟨.ref ca, rfl, ca, rfl, ⟨_, SqL.of hca⟩, fun D nD => ?_⟩
      refine lc_list (K := K) (a := ca) (xs := cs) (fun k H' => Same H1 (hd1 D H') ∧ ∃ acc, H' D = some (.lst acc) ∧ TkAll (hd1 D H') acc (((rowsL i).take k).map fun r => rowD (r ++ [0]))) ⟨hd1_of (same_upd nD) nD, [], upd_same, .nil⟩ (fun k H' _ z => SqL.of (hd1_le _ _ (z.1 _ _ hca))) ?_ ?_
      · rintro k x H2 hx ⟨s2, acc, hD, ta⟩
        refine ⟨rfl, x, rfl, sl1, more_step 0 hca tcs rl big hx s2 hD ta _ fun p H4 h4 sm tk => ⟨acc, h4, ?_, sm, _, upd_same, tk⟩⟩
        have := ta.length
        rw [List.length_map, List.length_take] at this
        exact Nat.lt_of_lt_of_le (show _ < 128 by omega) (by decide)
      · rintro H2 ⟨s2, acc, hD, ta⟩
        rw [lcs, List.take_length] at ta
        have s12 : Same H1 H2 := fun b o e => hd1_le _ _ (s2 _ _ e)
        have ta2 := ta.same hd1_le
        refine ⟨.ref ca, rfl, ca, rfl, ⟨_, SqL.of (s12 _ _ hca)⟩, fun E' nE => ?_⟩
        refine lc_list (K := K) (a := ca) (xs := cs) (fun k H' => Same H2 (hd1 E' H') ∧ ∃ acc, H' E' = some (.lst acc) ∧ TkAll (hd1 E' H') acc (((rowsL i).take k).map fun r => rowD (r ++ [1]))) ⟨hd1_of (same_upd nE) nE, [], upd_same, .nil⟩ (fun k H' _ z => SqL.of (hd1_le _ _ (z.1 _ _ (s12 _ _ hca)))) ?_ ?_
        · rintro k x H3 hx ⟨s3, acc3, hE, ta3⟩
          refine ⟨rfl, x, rfl, sl1, more_step 1 (s12 _ _ hca) (tcs.same s12) rl big hx s3 hE ta3 _ fun p H4 h4 sm tk => ⟨acc3, h4, ?_, sm, _, upd_same, tk⟩⟩
          have := ta3.length
          rw [List.length_map, List.length_take] at this
          exact Nat.lt_of_lt_of_le (show _ < 128 by omega) (by decide)
        · rintro H3 ⟨s3, acc3, hE, ta3⟩
          rw [lcs, List.take_length] at ta3
          have s23 : Same H2 H3 := fun b o e => hd1_le _ _ (s3 _ _ e)
          have ta4 := ta3.same hd1_le
          refine ⟨D, E', _, _, rfl, rfl, s23 _ _ hD, hE, ?_, fun F nF => ?_⟩
          · have := ta.length
            have := ta3.length
            rw [List.length_map] at *
            exact Nat.le_trans (show _ ≤ 256 by omega) (by decide)
          have s4 := same_upd (o := HO.lst (acc ++ acc3)) nF
          refine ⟨F, _, _, rfl, ((s1.trans s12).trans s23).trans s4, .lst upd_same ?_⟩
          show TkAll _ _ ((rowsL (i + 1)).map rowD)
          unfold rowsL
          rw [List.map_append, List.map_map, List.map_map]
          exact ((ta2.same s23).same s4).append (ta4.same s4)
    · rintro σ H1 ⟨ca, y2, y3, rfl, s1, tc⟩
      rw [show (m : Int).toNat = m by omega] at tc
      obtain ⟨_, xs, e, hca, txs⟩ := tc.lst_inv
      cases e
      refine ⟨.ref ca, rfl, ca, xs, keyR H1, rfl, SqL.of hca, fun x hx => ?_, fun ys p hs hp np => ?_⟩
      · obtain ⟨d, hd, td⟩ := txs.memX x hx
        obtain ⟨t, rfl, ht⟩ := td.row_inv
        rw [keyR_eq td]
        exact ⟨t, rfl, SqT.of ht, (rowsL_ok m d hd).1⟩
      have tys : TkAll H1 ys ((ys.map (keyR H1)).map rowD) := keysR_tk fun x hx => by
        obtain ⟨d, _, td⟩ := txs.memX x (hp.mem_iff.mp hx)
        exact ⟨d, td⟩
      have ek : ys.map (keyR H1) = rowsU m := rows_uniqU m6 (by have := hp.map (keyR H1); rw [keysR_eq txs] at this; exact this) (List.pairwise_map.mpr hs)
      rw [ek] at tys
      have sp := same_upd (o := HO.lst ys) np
      have np0 : H p = none := by
        cases z : H p with
        | none => rfl
        | some o => rw [s1 _ _ z] at np; cases np
      exact q p _ np0 (s1.trans sp) (.lst upd_same (tys.same sp))

end
end Gk

--@NEST
set_option Elab.async false
set_option linter.all false
set_option maxRecDepth 100000
set_option maxHeartbeats 1000000
set_option pp.maxSteps 1500
set_option pp.deepTerms false
namespace Gk
open PySem PySem.Spec PyProof.Rows L2
/-! ### sum of a tuple of ints -/
namespace SmTi
open PySem PyProof.Rows
theorem raw {prog : Program} {w : World} {A : Around} {E : Value → Shared → Prop} {s : Shared} {l : Addr} {its : List Value} {ns : List Int} {Q : Value → Shared → Prop} (hh : A.handled = none) (ist : s.heap.IsTuple l its.toArray) (are : IntsAre its ns)
    (fin : ∀ g tk t, (∀ b o, s.heap.get? b = some o → g.get? b = some o) → Q (.int ns.sum t) { s with heap := g, toks := tk }) :
    wpAny (model prog w) A (call (.builtin "sum") [.ref l]) Q E s := by
  obtain ⟨xs, e⟩ := are.allInts.items
  have hn : numsOf (intItems xs).toList = ns := by rw [← e]; exact are.numsOf
  rw [nums_intItems] at hn
  rw [e] at ist
  have lt : l < s.heap.objs.size := by obtain ⟨_, h, _⟩ := ist; exact Heap.lt_size h
  refine PySem.call_sum_walkG (wpAny_pyIter_tuple ist ?_)
  refine ⟨s.heap.objs.size, [s.heap.objs.size, l], [s.heap.objs.size], (intItems xs).size, _, _, numAt xs, rfl, Walks.tuple (A := A.in1) hh _ l (Nat.ne_of_lt lt) (intItems xs), ⟨⟨_, Heap.get?_push_size _ rfl, rfl, rfl⟩, ist.push _⟩, fun b hb => ?_, fun i v h => intItems_at h, fun g tk t keep => ?_⟩
  · show b < (s.heap.push _).objs.size
    rw [Heap.size_push]
    have : b = s.heap.objs.size ∨ b = l := by simpa using hb
    rcases this with z | z
    · rw [z]; exact Nat.lt_succ_self _
    · rw [z]; exact Nat.lt_succ_of_lt lt
  · have k := fin g tk t fun b o eb => keep b o (by simp; exact Nat.ne_of_lt (Heap.lt_size eb)) (Heap.get?_push_of_some _ eb)
    rw [preSum_eq, List.take_of_length_le (by simp [intItems]), hn]
    exact k
end SmTi
def rSumTi (K : PySem.W.Frag) : List V → Hp → VK → Prop := fun vs H Q => ∃ (a : Addr) (ns : List Int), vs = [V.ref a] ∧ SqT K H a (ns.map V.int) ∧ Q (.int ns.sum) H
theorem cr_sumTi {X : Cx} (hc : X.calm = true) : CallR X (.builtin "sum") (rSumTi X.K) := by
  intro pins s σ H vs us Q I r h
  obtain ⟨a, ns, rfl, hs, q⟩ := h
  obtain rfl := Vals.ref1 r
  obtain ⟨its, rv, hl, _⟩ := I.tuple hs
  exact SmTi.raw (I.ok.hd hc) hl rv.ints fun g tk t' hk => ⟨.int _, H, I.kept hk, ⟨_, rfl⟩, q⟩

end Gk

--@NEST
set_option Elab.async false
set_option linter.all false
set_option maxRecDepth 100000
set_option maxHeartbeats 1000000
set_option pp.maxSteps 1500
set_option pp.deepTerms false
namespace Gk
open PySem PySem.Spec PyProof.Rows L2
section
variable {P : Program} {w : World} {K : PySem.W.Frag} {mg : Str → Option Value} {base : Heap}
/-! ### a table drawn -/
def pVs (ps : List (List Nat)) : List V := ps.map fun p => V.str (SX.S p)
def CovOk (m : Nat) (ps : List (List Nat)) : Prop := ∀ p ∈ ps, ProdOk m p
theorem pV_at {ps : List (List Nat)} {j : Nat} {v : V} (h : (pVs ps)[j]? = some v) : ∃ p, ps[j]? = some p ∧ v = V.str (SX.S p) := by
  unfold pVs at h
  rw [List.getElem?_map] at h
  obtain ⟨p, hp, e⟩ := Option.map_eq_some_iff.mp h
  exact ⟨p, hp, e.symm⟩
theorem none_of_frG {d l p : Addr} {H H' : Hp} {n : Int} (f : Fr d l H H') (D : DeckG H' d l n) (h : H' p = none) : H p = none := by
  have o := D.off h
  cases z : H p with
  | none => rfl
  | some u => rw [f _ _ o.1 o.2 z] at h; cases h
theorem Fr.upd {d l p : Addr} {H H' : Hp} {o : HO} (f : Fr d l H H') (h : H p = none) : Fr d l H (upd H' p o) := fun b u h1 h2 e => by
  rw [upd_ne (ne_of_none e h)]
  exact f b u h1 h2 e
theorem Ts.frG {H H' : Hp} {d l : Addr} {n : Int} (D : DeckG H d l n) (f : Fr d l H H') : Ts H H' := fun b xs e => by
  obtain ⟨ne, cs, z, y, hd, hl, r⟩ := D
  exact f b _ (ne_of e hd (by intro z; cases z)) (ne_of e hl (by intro z; cases z)) e
theorem for_enumL {K : PySem.W.Frag} {a : Addr} {xs : List V} {g : TG} {tb : TS} {D : Ends} {σ : L2.St} {H : Hp} (Pv : Nat → L2.St → Hp → Prop) (h0 : Pv 0 σ H) (hl : ∀ i σ H, i ≤ xs.length → Pv i σ H → SqL K H a xs)
    (hs : ∀ (i : Nat) (x : V) (T : Addr) (σ : L2.St) (H : Hp), xs[i]? = some x → H T = none → Pv i σ H → g (.ref T) σ (upd H T (.tup [.int (i : Nat), x])) fun σ2 H2 => tb { D with nx := Pv (i + 1), ct := Pv (i + 1), bk := D.nx } σ2 H2) (hd : ∀ σ H, Pv xs.length σ H → D.nx σ H) :
    ∃ W : Nat → Nat → L2.St → Hp → Prop, (∃ m, W 0 m σ H) ∧ ∀ i m σ H, W i m σ H →
      ((Ite K a).stop i H ∧ D.nx σ H) ∨ ((Ite K a).go i H ∧ ∃ N : L2.St → Hp → Prop, (∀ σ' H', N σ' H' → ∃ m', m' < m ∧ W (i + 1) m' σ' H') ∧ ∀ x H', (Ite K a).yld i H x H' → g x σ H' fun σ2 H2 => tb { D with nx := N, ct := N, bk := D.nx } σ2 H2) := by
  refine ⟨fun i m σ H => m = xs.length - i ∧ i ≤ xs.length ∧ Pv i σ H, ⟨xs.length, rfl, Nat.zero_le _, h0⟩, ?_⟩
  rintro i m σ H ⟨rfl, hi, p⟩
  have q := hl i σ H hi p
  by_cases hlt : i < xs.length
  · have hx : xs[i]? = some xs[i] := List.getElem?_eq_getElem hlt
    refine .inr ⟨⟨xs, xs[i], q, hx⟩, Pv (i + 1), fun σ' H' p' => ⟨xs.length - (i + 1), by omega, rfl, hlt, p'⟩, fun x H' y => ?_⟩
    obtain ⟨T, x1, rfl, nT, rfl, e1⟩ := y
    exact hs i x1 T σ H (e1 xs q) nT p
  · have e : i = xs.length := by omega
    subst e
    exact .inl ⟨⟨xs, q, Nat.le_refl _⟩, hd σ H p⟩
theorem rowsU_len : ∀ k, (rowsU k).length = 2 ^ k
  | 0 => rfl
  | k + 1 => by
    unfold rowsU
    rw [List.length_append, List.length_map, List.length_map, rowsU_len k, Nat.pow_succ]
    omega
theorem rowsU_ok : ∀ k, ∀ r ∈ rowsU k, r.length = k ∧ Row01' r
  | 0, r, h => by
    rw [List.mem_singleton.mp h]
    exact ⟨rfl, fun x hx => by cases hx⟩
  | k + 1, r, h => by
    unfold rowsU at h
    rcases List.mem_append.mp h with h | h
    · obtain ⟨q, hq, rfl⟩ := List.mem_map.mp h
      have ih := rowsU_ok k q hq
      refine ⟨by rw [List.length_cons, ih.1], fun x hx => ?_⟩
      rcases List.mem_cons.mp hx with z | z
      · exact .inl z
      · exact ih.2 x z
    · obtain ⟨q, hq, rfl⟩ := List.mem_map.mp h
      have ih := rowsU_ok k q hq
      refine ⟨by rw [List.length_cons, ih.1], fun x hx => ?_⟩
      rcases List.mem_cons.mp hx with z | z
      · exact .inr z
      · exact ih.2 x z
theorem pick7 {w a b c d e f g : Int} (w0 : 0 ≤ w) (w1 : w < 7) (h : ∀ x ∈ [a, b, c, d, e, f, g], x = 0 ∨ x = 1) : ∃ x : Int, atI [V.int a, V.int b, V.int c, V.int d, V.int e, V.int f, V.int g] w = some (.int x) ∧ (x = 0 ∨ x = 1) := by
  have : w = 0 ∨ w = 1 ∨ w = 2 ∨ w = 3 ∨ w = 4 ∨ w = 5 ∨ w = 6 := by omega
  rcases this with rfl | rfl | rfl | rfl | rfl | rfl | rfl
  · exact ⟨a, rfl, h a (by simp)⟩
  · exact ⟨b, rfl, h b (by simp)⟩
  · exact ⟨c, rfl, h c (by simp)⟩
  · exact ⟨d, rfl, h d (by simp)⟩
  · exact ⟨e, rfl, h e (by simp)⟩
  · exact ⟨f, rfl, h f (by simp)⟩
  · exact ⟨g, rfl, h g (by simp)⟩

end
end Gk

--@NEST
set_option Elab.async false
set_option linter.all false
set_option maxRecDepth 100000
set_option maxHeartbeats 1000000
set_option pp.maxSteps 1500
set_option pp.deepTerms false
namespace Gk
open PySem PySem.Spec PyProof.Rows L2
section
variable {P : Program} {w : World} {K : PySem.W.Frag} {mg : Str → Option Value} {base : Heap}
theorem dpStrs {H : Hp} : ∀ ps : List (List Nat), DpAll K H (pVs ps) (ps.map fun p => PyData.str (SX.S p))
  | [] => .nil
  | p :: r => .cons (.str _) (dpStrs r)
theorem strOk_S {p : List Nat} (h : ∀ c ∈ p, SgOk c) : PyData.canLay0 (.str (SX.S p)) = true := by
  simp only [PyData.canLay0, PyData.strOk]
  rw [Array.all_eq_true_iff_forall_mem]
  intro c hc
  have : c ∈ p := by
    simpa using hc
  refine decide_eq_true ?_
  rcases h c this with rfl | rfl | rfl <;> decide
theorem lay_strs {m : Nat} : ∀ ps : List (List Nat), CovOk m ps → PyData.canLayAll0 (ps.map fun p => PyData.str (SX.S p)) = true
  | [], _ => rfl
  | p :: r, h => by
    have := lay_strs r fun q hq => h q (List.mem_cons_of_mem _ hq)
    show (PyData.canLay0 (.str (SX.S p)) && PyData.canLayAll0 (r.map fun p => PyData.str (SX.S p))) = true
    rw [this, Bool.and_true]
    exact strOk_S (h p (List.mem_cons_self ..)).2
theorem depth_strs : ∀ ps : List (List Nat), PyData.depthAll (ps.map fun p => PyData.str (SX.S p)) ≤ 1
  | [] => Nat.zero_le _
  | p :: r => by
    rw [List.map_cons]
    unfold PyData.depthAll
    have := depth_strs r
    have e : (PyData.str (SX.S p)).depth = 0 := rfl
    rw [e]
    omega
theorem sh_strsL {m : Nat} {ps : List (List Nat)} (h : CovOk m ps) : SeqAt.shaped (.list (ps.map fun p => PyData.str (SX.S p))) = true := by
  unfold SeqAt.shaped
  rw [Bool.and_eq_true]
  refine ⟨?_, decide_eq_true ?_⟩
  · simp only [PyData.canLay0, lay_strs ps h]
  · have := depth_strs ps
    simp only [PyData.depth]
    omega
theorem ne_strs (ps : List (List Nat)) : (!PyData.eqv (.list (ps.map fun p => PyData.str (SX.S p))) (.list [])) = !ps.isEmpty := by cases ps <;> rfl

def sp_table (K : PySem.W.Frag) : Sp := fun vs H Q _ => ∃ (d l : Addr) (n : Int) (m : Nat), vs = [.ref d, .int m] ∧ DeckG H d l n ∧ n < 800000000 ∧ 1 ≤ m ∧ m ≤ 6 ∧ ∀ (bs : List Bool) (H' : Hp), DeckG H' d l (n + 300) → Fr d l H H' → bs.length = 2 ^ m → Q (.str (tabOf bs)) H'
theorem tab_app (bs : List Bool) (b : Bool) : tabOf bs ++ one (if b = true then 49 else 48) = tabOf (bs ++ [b]) := by
  show (⟨(bs.map fun b => if b = true then 49 else 48).toArray ++ [if b = true then 49 else 48].toArray⟩ : Str) = ⟨((bs ++ [b]).map fun b => if b = true then 49 else 48).toArray⟩
  congr 1
  simp
theorem ok_table (T : Tx K mg) : FnOk P w K mg base CX0 3 T.f_table T.fd_table ["_law_deck_here", "_law_many"] (sp_table K) := by
  refine T.F_table.ok sc_table (fun vs H Q E h => ?_) (fun cdv A outer s H vs Q E hr h => ?_)
  · obtain ⟨d, l, n, m, rfl, _⟩ := h
    rfl
  · obtain ⟨d, l, n, m, rfl, D, hn, m1, m6, q⟩ := h
    refine ⟨_, (pss_cons (ps_set (i := 2) sc_table.nd rfl (by first | exact .inl rfl | exact .inr rfl) (pe_call (ok_next T) (hr.mono (by decide)) (by rfl) T.g_next T.F_next.kp T.b_next .nil pass0 (pa_cons (pv 0) (pa_cons pe_int pa_nil)))) (pss_cons (ps_setLc (i := 3) (own := [("_law_k", 7)]) (by rfl) sc_table.nd rfl rfl (sw_true rfl rfl rfl (by decide +kernel)) (pi_range1 (by rfl) T.m_range (pa_cons (pe_op op_add pe_int (pe_call (ok_next T) (hr.mono (by decide)) (by rfl) T.g_next T.F_next.kp T.b_next .nil pass0 (pa_cons (pv 0) (pa_cons pe_int pa_nil)))) pa_nil)) (blkOk_by (own := [("_law_k", 7)]) (N := ["_law_deck_here", "_law_many", "_law_way", "_law_products", "_law_rows_here", "_law_odd", "_law_table_here", "_law_k", "_law_row", "_law_worth_here", "_law_one"]) (sc := defScope s_table) (by decide +kernel)) (fun _ _ _ _ _ => (pg_name (i := 7) sc_table.nd rfl (by first | exact .inl rfl | exact .inr rfl))) (fun _ _ _ _ _ => pts_nil) (fun _ _ _ _ _ => (pe_call (ok_product T) (hr.mono (by decide)) (by rfl) T.g_product T.F_product.kp T.b_product .nil pass0 (pa_cons (pv 0) (pa_cons (pv 1) pa_nil))))) (pss_cons (ps_set (i := 4) sc_table.nd rfl (by first | exact .inl rfl | exact .inr rfl) (pe_call (ok_rows T) (hr.mono (by decide)) (by rfl) T.g_rows T.F_rows.kp T.b_rows .nil pass0 (pa_cons (pv 1) pa_nil))) (pss_cons (ps_set (i := 5) sc_table.nd rfl (by first | exact .inl rfl | exact .inr rfl) (pe_call (ok_next T) (hr.mono (by decide)) (by rfl) T.g_next T.F_next.kp T.b_next .nil pass0 (pa_cons (pv 0) (pa_cons (pe_callB call_len_seq (by rfl) T.m_len PySem.boot_len (pa_cons (pv 4) pa_nil)) pa_nil)))) (pss_cons (ps_set (i := 6) sc_table.nd rfl (by first | exact .inl rfl | exact .inr rfl) pe_str) (pss_cons (ps_for PassesOwn.never rfl (pi_enum (by rfl) T.m_enumerate (pa_cons (pv 4) pa_nil)) (pg_tup rfl (pgs_cons (pg_name (i := 7) sc_table.nd rfl (by first | exact .inl rfl | exact .inr rfl)) (pgs_cons (pg_name (i := 8) sc_table.nd rfl (by first | exact .inl rfl | exact .inr rfl)) pgs_nil))) (pss_cons (ps_set (i := 9) sc_table.nd rfl (by first | exact .inl rfl | exact .inr rfl) (pe_lst (pa_cons (pe_call (ok_next T) (hr.mono (by decide)) (by rfl) T.g_next T.F_next.kp T.b_next .nil pass0 (pa_cons (pv 0) (pa_cons pe_int pa_nil))) (pa_cons (pe_callTy call_int1 (by rfl) T.m_int (by decide +kernel) (pa_cons (pe_cmpR (op_neD hr.units) (pe_lc (own := [("_law_one", 10)]) (by rfl) sc_table.nd (pi_list (pv 3)) (blkOk_by (own := [("_law_one", 10)]) (N := ["_law_deck_here", "_law_many", "_law_way", "_law_products", "_law_rows_here", "_law_odd", "_law_table_here", "_law_k", "_law_row", "_law_worth_here", "_law_one"]) (sc := defScope s_table) (by decide +kernel)) (fun _ _ _ _ _ => (pg_name (i := 10) sc_table.nd rfl (by first | exact .inl rfl | exact .inr rfl))) (fun _ _ _ _ _ => (pts_one (pt_val (pe_call (ok_holds T) (hr.mono (by decide)) (by rfl) T.g_holds T.F_holds.kp T.b_holds .nil pass0 (pa_cons (pv 10) (pa_cons (pv 8) pa_nil)))))) (fun _ _ _ _ _ => (pv 10))) (pe_lst pa_nil) (nomark _)) pa_nil)) (pa_cons (pe_op op_mod (pe_callB (cr_sumTi rfl) (by rfl) T.m_sum (by decide +kernel) (pa_cons (pv 8) pa_nil)) pe_int) pa_nil))))) (pss_cons (ps_set (i := 9) sc_table.nd rfl (by first | exact .inl rfl | exact .inr rfl) (pe_op op_cat (pv 9) (pe_lst (pa_cons (pe_callTy call_int1 (by rfl) T.m_int (by decide +kernel) (pa_cons (pe_cmpR op_gt (pe_call (ok_next T) (hr.mono (by decide)) (by rfl) T.g_next T.F_next.kp T.b_next .nil pass0 (pa_cons (pv 0) (pa_cons pe_int pa_nil))) pe_int (nomark _)) pa_nil)) (pa_cons (pe_callTy call_int1 (by rfl) T.m_int (by decide +kernel) (pa_cons (pe_cmpR op_eq (pe_call (ok_next T) (hr.mono (by decide)) (by rfl) T.g_next T.F_next.kp T.b_next .nil pass0 (pa_cons (pv 0) (pa_cons pe_int pa_nil))) pe_int (nomark _)) pa_nil)) (pa_cons (pe_callTy call_int1 (by rfl) T.m_int (by decide +kernel) (pa_cons (pe_cmpR op_ne (pv 7) (pv 5) (nomark _)) pa_nil)) pa_nil)))))) (pss_cons (ps_expr (pe_bm PySem.F.plainAttrs_list PySem.F.slot_list_append PySem.F.type_list_append mt_append (pv 9) (pa_cons (pe_callTy call_int1 (by rfl) T.m_int (by decide +kernel) (pa_cons (pe_cmpR op_gt (pe_op op_mul pe_int (pe_callB (cr_sumTi rfl) (by rfl) T.m_sum (by decide +kernel) (pa_cons (pv 8) pa_nil))) (pv 1) (nomark _)) pa_nil)) pa_nil))) (pss_one (ps_set (i := 6) sc_table.nd rfl (by first | exact .inl rfl | exact .inr rfl) (pe_op op_add_str (pv 6) (pe_callTy call_str_int (by rfl) T.m_str (by decide +kernel) (pa_cons (pe_ix ix_list (pv 9) (pv 2) (fun _ _ => rfl)) pa_nil))))))))) (pss_one (ps_ret (pv 6))))))))), ?_⟩
    refine ⟨.ref d, rfl, d, l, 7, _, rfl, D, by omega, by decide, by decide, fun H1 way D1 fr1 w0 w1 => ?_⟩
    refine ⟨.ref d, rfl, d, l, 4, _, rfl, D1, by omega, by decide, by decide, fun H2 c D2 fr2 c0 c1 => ?_⟩
    refine ⟨_, _, rfl, rfl, 1 + c, rfl, by omega, by omega, fun L nL => ?_⟩
    have fr02 := fr1.trans fr2
    have oL := D2.off nL
    have nL0 := none_of_frG fr02 D2 nL
    refine lc_range (lo := 0) (n := (1 + c).toNat) (fun j H' => DeckG H' d l (n + 2 + 13 * j) ∧ Fr d l H H' ∧ ∃ ps, H' L = some (.lst (pVs ps)) ∧ ps.length = j ∧ CovOk m ps) ⟨(D2.same (same_upd nL)).mono (by omega), fr02.trans (Fr.new nL), [], upd_same, rfl, fun p hp => by cases hp⟩ ?_ ?_
    · rintro j H3 hj ⟨D3, fr3, ps, hL, lps, okp⟩
      have hj' : j < 4 := by omega
      refine ⟨rfl, .ref d, rfl, .int m, rfl, d, l, _, m, rfl, D3, by omega, m6, fun p H4 D4 fr4 op => ?_⟩
      refine ⟨_, fr4 _ _ oL.1 oL.2 hL, ?_, (D4.upd oL.1 oL.2).mono (by push_cast; omega), Fr.upd (fr3.trans fr4) nL0, ps ++ [p], ?_, by rw [List.length_append, lps]; rfl, fun r hr => ?_⟩
      · unfold pVs
        rw [List.length_map]
        exact Nat.lt_of_lt_of_le (show _ < 64 by omega) (by decide)
      · rw [upd_same]
        unfold pVs
        rw [List.map_append]
        rfl
      · rcases List.mem_append.mp hr with h | h
        · exact okp r h
        · rw [List.mem_singleton.mp h]; exact op
    rintro H3 ⟨D3, fr3, ps, hL, lps, okp⟩
    have lp4 : ps.length ≤ 4 := by omega
    replace D3 : DeckG H3 d l (n + 60) := D3.mono (by omega)
    refine ⟨.int m, rfl, m, rfl, m1, m6, fun ca H4 nca s4 tc => ?_⟩
    have D4 := D3.same s4
    have fr4 := fr3.trans (Fr.of s4)
    have hL4 := s4 _ _ hL
    obtain ⟨_, cs, e, hca, tcs⟩ := tc.lst_inv
    cases e
    have lcs : cs.length = 2 ^ m := by rw [tcs.length, List.length_map, rowsU_len]
    have l64 : 2 ^ m ≤ 64 := Nat.pow_le_pow_right (by decide) m6
    have lpos : 1 ≤ 2 ^ m := Nat.one_le_two_pow
    refine ⟨.ref d, rfl, .ref ca, rfl, ca, _, rfl, .inl (SqL.of hca), ?_⟩
    rw [lcs]
    refine ⟨d, l, _, _, rfl, D4, by omega, by omega, by omega, fun H5 od D5 fr5 o0 o1 => ?_⟩
    have oca := D3.off nca
    have hca5 := fr5 _ _ oca.1 oca.2 hca
    have tcs5 : TkAll H5 cs ((rowsU m).map rowD) := tcs.ts (Ts.frG D4 fr5) (noLs_map (fun r => noL_row r) _)
    have fr05 := fr4.trans fr5
    have hL5 := fr5 _ _ oL.1 oL.2 hL4
    have hLca : L ≠ ca := ne_of_none hL nca
    refine ⟨.ref ca, rfl, ca, _, rfl, SqL.of hca5, ?_⟩
    refine for_enumL (K := K) (a := ca) (xs := cs) (fun k σ H' => ∃ (bs : List Bool) (y7 y8 y9 : Option V), σ = [some (.ref d), some (.int m), some (.int way), some (.ref L), some (.ref ca), some (.int od), some (.str (tabOf bs)), y7, y8, y9, none] ∧ DeckG H' d l (n + 62 + 3 * k) ∧ Fr d l H H' ∧ bs.length = k ∧ H' L = some (.lst (pVs ps)) ∧ H' ca = some (.lst cs) ∧ TkAll H' cs ((rowsU m).map rowD))
      ⟨[], _, _, _, by rw [show Str.ofString "" = tabOf [] from by decide +kernel]; rfl, D5.mono (by omega), fr05, rfl, hL5, hca5, tcs5⟩ (fun k σ H' _ ⟨_, _, _, _, _, _, _, _, _, h, _⟩ => SqL.of h) ?_ ?_
    · rintro k x Tq σ H6 hx nT ⟨bs, y7, y8, y9, rfl, D6, fr6, lbs, hL6, hca6, tcs6⟩
      have hk : k < 64 := by
        have := (List.getElem?_eq_some_iff.mp hx).1
        omega
      obtain ⟨r, hr', tx⟩ := tcs6.at hx
      obtain ⟨ra, rfl, hra⟩ := Tk.row_inv tx
      have okr := rowsU_ok m r (List.mem_of_getElem? hr')
      have sT := same_upd (o := HO.tup [.int (k : Nat), .ref ra]) nT
      refine ⟨Tq, _, rfl, SqT.of upd_same, rfl, _, _, rfl, _, _, rfl, rfl, ?_⟩
      have D7 := D6.same sT
      have fr7 := fr6.trans (Fr.of sT)
      have hL7 := sT _ _ hL6
      have hca7 := sT _ _ hca6
      have tcs7 := tcs6.same sT
      have hra7 := sT _ _ hra
      show tSeq _ _ _ _ (upd H6 Tq (.tup [.int (k : Nat), .ref ra]))
      revert D7 fr7 hL7 hca7 tcs7 hra7
      generalize upd H6 Tq (.tup [.int (k : Nat), .ref ra]) = H7
      intro D7 fr7 hL7 hca7 tcs7 hra7
      refine ⟨.ref d, rfl, d, l, 2, _, rfl, D7, by omega, by decide, by decide, fun H8 v D8 fr8 v0 v1 => ?_⟩
      have hL8 := fr8 _ _ oL.1 oL.2 hL7
      have hca8 := fr8 _ _ oca.1 oca.2 hca7
      have ts8 := Ts.frG D7 fr8
      have tcs8 := tcs7.ts ts8 (noLs_map (fun r => noL_row r) _)
      have hra8 := ts8 _ _ hra7
      have fr08 := fr7.trans fr8
      refine ⟨.ref L, rfl, L, rfl, ⟨_, SqL.of hL8⟩, fun M nM => ?_⟩
      refine lc_list (K := K) (a := L) (xs := pVs ps) (fun j H' => Same H8 (hd1 M H') ∧ ∃ fs : List (List Nat), H' M = some (.lst (pVs fs)) ∧ fs.length ≤ j ∧ CovOk m fs) ⟨hd1_of (same_upd nM) nM, [], upd_same, Nat.le_refl _, fun p hp => by cases hp⟩ (fun j H' _ z => SqL.of (hd1_le _ _ (z.1 _ _ hL8))) ?_ ?_
      · rintro j x H9 hx ⟨s9, fs, hM, lfs, okf⟩
        obtain ⟨p, hp, rfl⟩ := pV_at hx
        have op := okp p (List.mem_of_getElem? hp)
        have hjl : j < 4 := by
          have := (List.getElem?_eq_some_iff.mp hp).1
          omega
        refine ⟨rfl, .str (SX.S p), rfl, .ref ra, rfl, m, p, ra, r, rfl, op.1, hd1_le _ _ (s9 _ _ hra8), okr.2, okr.1, m6, fun H10 s10 => ⟨_, rfl, ite2 (fun _ => ?_) (fun _ => ?_)⟩⟩
        · refine ⟨.str (SX.S p), rfl, _, s10 _ _ hM, ?_, (s9.trans (hd1_same s10)).trans hd1_upd, fs ++ [p], ?_, by rw [List.length_append]; exact Nat.succ_le_succ lfs, fun z hz => ?_⟩
          · unfold pVs
            rw [List.length_map]
            exact Nat.lt_of_lt_of_le (show _ < 64 by omega) (by decide)
          · rw [upd_same]
            unfold pVs
            rw [List.map_append]
            rfl
          · rcases List.mem_append.mp hz with h | h
            · exact okf z h
            · rw [List.mem_singleton.mp h]; exact op
        · exact ⟨s9.trans (hd1_same s10), fs, s10 _ _ hM, by omega, okf⟩
      rintro H9 ⟨s9, fs, hM, lfs, okf⟩
      have s89 : Same H8 H9 := fun b o e => hd1_le _ _ (s9 _ _ e)
      refine ⟨Nat.zero_le _, fun e ne => ?_⟩
      have s10 := same_upd (o := HO.lst []) ne
      refine ⟨.list (fs.map fun p => .str (SX.S p)), .list [], .lst (SqL.of (s10 _ _ hM)) (dpStrs fs), .lst (SqL.of upd_same) .nil, sh_strsL okf, rfl, .inr ⟨_, rfl, ?_⟩⟩
      have b01 : ∀ z : Bool, (if z = true then (1 : Int) else 0) = 0 ∨ (if z = true then (1 : Int) else 0) = 1 := fun z => by cases z <;> simp
      have s8A := s89.trans s10
      have DA := D8.same s8A
      have frA := fr08.trans (Fr.of s8A)
      have hLA := s8A _ _ hL8
      have hcaA := s8A _ _ hca8
      have tcsA := tcs8.same s8A
      have hraA := s8A _ _ hra8
      generalize upd H9 e (.lst []) = HA at DA frA hLA hcaA tcsA hraA ⊢
      have p2 : (0 : Int) < 2 := by decide
      refine ⟨.ref ra, rfl, ra, r, rfl, SqT.of hraA, _, _, rfl, rfl, p2, sl3, fun w1' nw1 => ?_⟩
      have ow1 := DA.off nw1
      have x2 : r.sum % 2 = 0 ∨ r.sum % 2 = 1 := by omega
      have xb := b01 (!PyData.eqv (.list (fs.map fun p => .str (SX.S p))) (.list []))
      dsimp only
      revert x2 xb
      generalize r.sum % 2 = x2v
      generalize (if (!PyData.eqv (.list (fs.map fun p => .str (SX.S p))) (.list [])) = true then (1 : Int) else 0) = xbv
      intro x2 xb
      have sB := same_upd (o := (HO.lst [V.int v, V.int xbv, V.int x2v])) nw1
      have hw1 : upd HA w1' (HO.lst [V.int v, V.int xbv, V.int x2v]) w1' = some (HO.lst [V.int v, V.int xbv, V.int x2v]) := upd_same
      generalize upd HA w1' (HO.lst [V.int v, V.int xbv, V.int x2v]) = HB at sB hw1 ⊢
      have DB := DA.same sB
      refine ⟨.ref w1', rfl, .ref d, rfl, d, l, 6, _, rfl, DB, by omega, by decide, by decide, fun HC u1 DC frC u10 u11 => ?_⟩
      refine ⟨_, _, rfl, rfl, .inr ⟨_, rfl, .ref d, rfl, d, l, 6, _, rfl, DC, by omega, by decide, by decide, fun HD u2 DD frD u20 u21 => ?_⟩⟩
      have frBD := frC.trans frD
      have tsD := (Ts.same sB).trans ((Ts.frG DB frC).trans (Ts.frG DC frD))
      have hwD := frBD _ _ ow1.1 ow1.2 hw1
      have hLD := frBD _ _ oL.1 oL.2 (sB _ _ hLA)
      have hcaD := frBD _ _ oca.1 oca.2 (sB _ _ hcaA)
      have tcsD := tcsA.ts tsD (noLs_map (fun r => noL_row r) _)
      have hraD := tsD _ _ hraA
      have frD0 := (frA.trans (Fr.of sB)).trans frBD
      refine ⟨rfl, .inr ⟨_, rfl, .int (k : Nat), rfl, .int od, rfl, rfl, .inr ⟨_, rfl, sl3, fun w2 nw2 => ?_⟩⟩⟩
      have y1 := b01 (decide (u1 > 0))
      have y2 := b01 (decide (V.int u2 = V.int 0))
      have y3 := b01 (!decide (V.int (k : Nat) = V.int od))
      dsimp only
      revert y1 y2 y3
      generalize (if decide (u1 > 0) = true then (1 : Int) else 0) = y1v
      generalize (if decide (V.int u2 = V.int 0) = true then (1 : Int) else 0) = y2v
      generalize (if (!decide (V.int (k : Nat) = V.int od)) = true then (1 : Int) else 0) = y3v
      intro y1 y2 y3
      have sE := same_upd (o := (HO.lst [V.int y1v, V.int y2v, V.int y3v])) nw2
      have hw2 : upd HD w2 (HO.lst [V.int y1v, V.int y2v, V.int y3v]) w2 = some (HO.lst [V.int y1v, V.int y2v, V.int y3v]) := upd_same
      generalize upd HD w2 (HO.lst [V.int y1v, V.int y2v, V.int y3v]) = HE at sE hw2 ⊢
      have DE := DD.same sE
      refine ⟨w1', w2, _, _, rfl, rfl, sE _ _ hwD, hw2, (show 6 ≤ sizeLine by decide), fun w3 nw3 => ?_⟩
      rw [show [V.int v, V.int xbv, V.int x2v] ++ [V.int y1v, V.int y2v, V.int y3v] = [V.int v, V.int xbv, V.int x2v, V.int y1v, V.int y2v, V.int y3v] from rfl]
      have ow3 := DE.off nw3
      have sG := same_upd (o := (HO.lst [V.int v, V.int xbv, V.int x2v, V.int y1v, V.int y2v, V.int y3v])) nw3
      have hw3 : upd HE w3 (HO.lst [V.int v, V.int xbv, V.int x2v, V.int y1v, V.int y2v, V.int y3v]) w3 = some (HO.lst [V.int v, V.int xbv, V.int x2v, V.int y1v, V.int y2v, V.int y3v]) := upd_same
      generalize upd HE w3 (HO.lst [V.int v, V.int xbv, V.int x2v, V.int y1v, V.int y2v, V.int y3v]) = HG at sG hw3 ⊢
      have sEG := sE.trans sG
      have DG := DE.same sG
      have hraG := sEG _ _ hraD
      have hLG := sEG _ _ hLD
      have hcaG := sEG _ _ hcaD
      have tcsG := tcsD.same sEG
      have frG := frD0.trans (Fr.of sEG)
      refine ⟨.ref w3, rfl, .inl ⟨rfl, _, SqL.of hw3⟩, ?_⟩
      refine ⟨.ref ra, rfl, ra, r, rfl, SqT.of hraG, _, _, rfl, rfl, .inl ⟨by decide, by decide⟩, .int m, rfl, _, _, rfl, rfl, .inr ⟨_, rfl, w3, _, _, rfl, rfl, hw3, (show 6 < sizeLine by decide), ?_⟩⟩
      have y7 := b01 (decide (2 * r.sum > (m : Int)))
      dsimp only
      revert y7
      generalize (if decide (2 * r.sum > (m : Int)) = true then (1 : Int) else 0) = y7v
      intro y7
      rw [show [V.int v, V.int xbv, V.int x2v, V.int y1v, V.int y2v, V.int y3v] ++ [V.int y7v] = [V.int v, V.int xbv, V.int x2v, V.int y1v, V.int y2v, V.int y3v, V.int y7v] from rfl]
      have tsW : Ts HG (upd HG w3 (.lst [V.int v, V.int xbv, V.int x2v, V.int y1v, V.int y2v, V.int y3v, V.int y7v])) := Ts.set hw3
      have nw30 := none_of_frG frD0 DD (by
        cases z : HD w3 with
        | none => rfl
        | some o => rw [sE _ _ z] at nw3; cases nw3)
      have hW : (upd HG w3 (.lst [V.int v, V.int xbv, V.int x2v, V.int y1v, V.int y2v, V.int y3v, V.int y7v])) w3 = some (.lst [V.int v, V.int xbv, V.int x2v, V.int y1v, V.int y2v, V.int y3v, V.int y7v]) := upd_same
      obtain ⟨x, hat, x01⟩ := pick7 (a := v) (b := xbv) (c := x2v) (d := y1v) (e := y2v) (f := y3v) (g := y7v) w0 w1 (fun z hz => by
        simp only [List.mem_cons, List.not_mem_nil, or_false] at hz
        rcases hz with rfl | rfl | rfl | rfl | rfl | rfl | rfl
        · omega
        · exact xb
        · exact x2
        · exact y1
        · exact y2
        · exact y3
        · exact y7)
      have hLw : L ≠ w3 := ne_of_none (sE _ _ hLD) nw3
      have hcw : ca ≠ w3 := ne_of_none (sE _ _ hcaD) nw3
      refine ⟨.str (tabOf bs), rfl, .ref w3, rfl, .int way, rfl, w3, _, way, .int x, rfl, rfl, SqL.of hW, hat, x, rfl, by rcases x01 with rfl | rfl <;> decide, ?_⟩
      rw [str01 x01]
      refine ⟨_, _, rfl, rfl, ?_, ?_⟩
      · show (tabOf bs).length + 1 ≤ sizeLine
        have : (tabOf bs).length = bs.length := by
          show ((bs.map fun b => if b = true then 49 else 48).toArray).size = _
          rw [List.size_toArray, List.length_map]
        rw [this]
        exact Nat.le_trans (show bs.length + 1 ≤ 65 by omega) (by decide)
      obtain ⟨b', eb⟩ : ∃ b' : Bool, wS x = if b' = true then 49 else 48 := by
        rcases x01 with rfl | rfl
        · exact ⟨false, rfl⟩
        · exact ⟨true, rfl⟩
      rw [eb, tab_app]
      exact ⟨bs ++ [b'], _, _, _, rfl, (DG.upd ow3.1 ow3.2).mono (by push_cast; omega), Fr.upd frG nw30, by rw [List.length_append, lbs]; rfl, by rw [upd_ne hLw]; exact hLG, by rw [upd_ne hcw]; exact hcaG, tcsG.ts tsW (noLs_map (fun r => noL_row r) _)⟩
    · rintro σ H6 ⟨bs, y7, y8, y9, rfl, D6, fr6, lbs, hL6, hca6, tcs6⟩
      exact ⟨.str (tabOf bs), rfl, q bs H6 (D6.mono (by omega)) fr6 (by rw [lbs, lcs])⟩

end
end Gk

--@NEST
set_option Elab.async false
set_option linter.all false
set_option maxRecDepth 100000
set_option maxHeartbeats 1000000
set_option pp.maxSteps 1500
set_option pp.deepTerms false
namespace Gk
open PySem PySem.Spec PyProof.Rows L2
section
variable {P : Program} {w : World} {K : PySem.W.Frag} {mg : Str → Option Value} {base : Heap}

/-! ### a wish's worth at a row -/
theorem gate_read6 {bs : List Bool} {ws : List Int} (hw : ∀ w ∈ ws, w = 0 ∨ w = 1) (hb : bs.length = 2 ^ ws.length) (h6 : ws.length ≤ 6) : ∃ b : Bool, 0 ≤ plc ws ∧ plc ws < 2 ^ 63 ∧ plc ws < (tabOf bs).length ∧ (tabOf bs).cps[(plc ws).toNat]? = some (if b = true then 49 else 48) ∧ gateM bs ws = if b = true then 1 else 0 := by
  obtain ⟨p0, p1⟩ := plc_bd _ ws rfl hw
  have e : ((2 ^ ws.length : Nat) : Int) = (2 : Int) ^ ws.length := by simp
  have l64 : 2 ^ ws.length ≤ 64 := Nat.pow_le_pow_right (by decide) h6
  have hlt : (plc ws).toNat < bs.length := by omega
  have tl : (tabOf bs).length = bs.length := by simp [tabOf, Str.length]
  refine ⟨bs[(plc ws).toNat], p0, by omega, by rw [tl]; omega, ?_, ?_⟩
  · simp [tabOf, List.getElem?_eq_getElem hlt]
  · unfold gateM
    rw [List.getD_eq_getElem?_getD, List.getElem?_eq_getElem hlt]
    rfl
def sp_worth (K : PySem.W.Frag) : Sp := fun vs H Q _ => ∃ (wa ra : Addr) (m : Nat) (bs : List Bool) (x : V) (r : List Int), vs = [.ref wa, .ref ra] ∧ H wa = some (.tup [.int m, .str (tabOf bs), x]) ∧ H ra = some (.tup (r.map V.int)) ∧ Row01' r ∧ r.length = m ∧ m ≤ 6 ∧ bs.length = 2 ^ m ∧ Q (.int (gateM bs r)) H
theorem ok_worth (T : Tx K mg) : FnOk P w K mg base CX0 1 T.f_worth T.fd_worth ["_law_wish_here", "_law_row"] (sp_worth K) := by
  refine T.F_worth.ok sc_worth (fun vs H Q E h => ?_) (fun cdv A outer s H vs Q E hr h => ?_)
  · obtain ⟨wa, ra, m, bs, x, r, rfl, _⟩ := h
    rfl
  · obtain ⟨wa, ra, m, bs, x, r, rfl, hwa, hra, ok, lr, m6, hb, q⟩ := h
    obtain ⟨b, p0, p1, p2, p3, p4⟩ := gate_read6 ok (by rw [lr]; exact hb) (by omega)
    refine ⟨_, (pss_cons (ps_set (i := 2) sc_worth.nd rfl (by first | exact .inl rfl | exact .inr rfl) pe_int) (pss_cons (ps_for PassesOwn.never rfl (pi_tup (pv 1)) (pg_name (i := 3) sc_worth.nd rfl (by first | exact .inl rfl | exact .inr rfl)) (pss_one (ps_set (i := 2) sc_worth.nd rfl (by first | exact .inl rfl | exact .inr rfl) (pe_op op_add (pe_op op_mul pe_int (pv 2)) (pv 3))))) (pss_one (ps_ret (pe_callTy call_int_str (by rfl) T.m_int (by decide +kernel) (pa_cons (pe_item_str (pe_ix ix_tup (pv 0) pe_int (fun _ _ => rfl)) (pv 2) (fun _ _ => rfl)) pa_nil)))))), ?_⟩
    refine ⟨.ref ra, rfl, ra, rfl, ⟨_, SqT.of hra⟩, for_tup (K := K) (a := ra) (xs := r.map V.int) (fun i σ H' => ∃ y, σ = [some (.ref wa), some (.ref ra), some (.int (plc (r.take i))), y] ∧ H' = H) ⟨none, rfl, rfl⟩ (fun i σ H' _ ⟨_, _, e⟩ => by rw [e]; exact SqT.of hra) ?_ ?_⟩
    · rintro i v σ H' hx ⟨y, rfl, rfl⟩
      obtain ⟨u, hu, rfl⟩ : ∃ u, r[i]? = some u ∧ v = V.int u := by
        rw [List.getElem?_map] at hx
        obtain ⟨u, hu, e⟩ := Option.map_eq_some_iff.mp hx
        exact ⟨u, hu, e.symm⟩
      refine ⟨.int (plc (r.take i)), rfl, 2, _, rfl, rfl, .inl ⟨by decide, by decide⟩, .int u, rfl, _, _, rfl, rfl, some (.int u), ?_, rfl⟩
      rw [plc_take hu]
      rfl
    · rintro σ H' ⟨y, rfl, rfl⟩
      rw [List.length_map, List.take_length]
      refine ⟨.ref wa, rfl, wa, _, 1, .str (tabOf bs), rfl, rfl, SqT.of hwa, rfl, .int (plc r), rfl, _, _, _, rfl, rfl, p0, p1, p2, p3, _, _, rfl, int_sign b, (show 1 ≤ 640 by decide), ?_⟩
      rw [← p4]
      exact q

end
end Gk

--@NEST
set_option Elab.async false
set_option linter.all false
set_option maxRecDepth 100000
set_option maxHeartbeats 1000000
set_option pp.maxSteps 1500
set_option pp.deepTerms false
namespace Gk
open PySem PySem.Spec PyProof.Rows L2
section
variable {P : Program} {w : World} {K : PySem.W.Frag} {mg : Str → Option Value} {base : Heap}
/-! ### covers: the program's own -/
def ChAt (H : Hp) (c : Addr) (a b : List Int) : Prop := ∃ ra rb, H c = some (.tup [.ref ra, .ref rb]) ∧ H ra = some (.tup (a.map V.int)) ∧ H rb = some (.tup (b.map V.int))
theorem ChAt.gr {H H' : Hp} {c : Addr} {a b : List Int} (h : ChAt H c a b) (g : Gr H H') : ChAt H' c a b := by
  obtain ⟨ra, rb, h1, h2, h3⟩ := h
  exact ⟨ra, rb, g.tup h1, g.tup h2, g.tup h3⟩
structure ChOk (m : Nat) (a b : List Int) : Prop where
  la : a.length = m
  lb : b.length = m
  oa : Row01' a
  ob : Row01' b
  m6 : m ≤ 6


theorem lc_enum {K : PySem.W.Frag} {a : Addr} {xs : List V} {g : TG} {tt : TT} {te : TE} {vs : List Nat} {σ : L2.St} {H1 : Hp} {D : Addr} {Qd : Hp → Prop} (Pv : Nat → Hp → Prop) (h0 : Pv 0 (upd H1 D (.lst []))) (hl : ∀ i H, i ≤ xs.length → Pv i H → SqL K H a xs)
    (hs : ∀ i x T H, xs[i]? = some x → H T = none → Pv i H → g (.ref T) (wipe σ vs) (upd H T (.tup [.int (i : Nat), x])) fun σ2 H2 => wipe σ2 vs = wipe σ vs ∧ tt σ2 H2 fun b H3 =>
      if b = true then te σ2 H3 fun y H4 => ∃ acc, H4 D = some (.lst acc) ∧ acc.length < sizeLine ∧ Pv (i + 1) (upd H4 D (.lst (acc ++ [y]))) else Pv (i + 1) H3) (hd : ∀ H, Pv xs.length H → Qd H) :
    ∃ W : Nat → Nat → Hp → Prop, (∃ m, W 0 m (upd H1 D (.lst []))) ∧ ∀ i m H, W i m H →
      ((Ite K a).stop i H ∧ Qd H) ∨ ((Ite K a).go i H ∧ ∃ Nx : Hp → Prop, (∀ H', Nx H' → ∃ m', m' < m ∧ W (i + 1) m' H') ∧ ∀ x H', (Ite K a).yld i H x H' → g x (wipe σ vs) H' fun σ2 H2 => wipe σ2 vs = wipe σ vs ∧ tt σ2 H2 fun b H3 =>
        if b = true then te σ2 H3 fun y H4 => ∃ acc, H4 D = some (.lst acc) ∧ acc.length < sizeLine ∧ Nx (upd H4 D (.lst (acc ++ [y]))) else Nx H3) := by
  refine ⟨fun i m H => m = xs.length - i ∧ i ≤ xs.length ∧ Pv i H, ⟨xs.length, by simp, Nat.zero_le _, h0⟩, ?_⟩
  rintro i m H ⟨rfl, hi, p⟩
  have qx := hl i H hi p
  by_cases hlt : i < xs.length
  · have hx : xs[i]? = some xs[i] := List.getElem?_eq_getElem hlt
    refine .inr ⟨⟨xs, _, qx, hx⟩, Pv (i + 1), fun H' p' => ⟨xs.length - (i + 1), by omega, rfl, hlt, p'⟩, fun x H' y => ?_⟩
    obtain ⟨T, x1, rfl, nT, rfl, e1⟩ := y
    exact hs i x1 T H (e1 xs qx) nT p
  · have e : i = xs.length := by omega
    subst e
    exact .inl ⟨⟨xs, qx, Nat.le_refl _⟩, hd H p⟩

/-! ### a change drawn -/
def Rw (H : Hp) (m : Nat) (v : V) : Prop := ∃ p r, v = .ref p ∧ H p = some (.tup (r.map V.int)) ∧ r.length = m ∧ Row01' r
theorem Rw.ts {H H' : Hp} {m : Nat} {v : V} (h : Rw H m v) (s : Ts H H') : Rw H' m v := by
  obtain ⟨p, r, e, h, z⟩ := h
  exact ⟨p, r, e, s _ _ h, z⟩
theorem rw_all {H : Hp} {cs : List V} {m : Nat} (t : TkAll H cs ((rowsU m).map rowD)) : ∀ x ∈ cs, Rw H m x := fun x hx => by
  obtain ⟨r, hr, tr⟩ := t.memX x hx
  obtain ⟨p, rfl, hp⟩ := tr.row_inv
  exact ⟨p, r, rfl, hp, rowsU_ok m r hr⟩
theorem ChAt.ts {H H' : Hp} {c : Addr} {a b : List Int} (h : ChAt H c a b) (g : Ts H H') : ChAt H' c a b := by
  obtain ⟨ra, rb, h1, h2, h3⟩ := h
  exact ⟨ra, rb, g _ _ h1, g _ _ h2, g _ _ h3⟩
theorem pair_at {H : Hp} {t : Addr} {u v : V} {m : Nat} (ht : H t = some (.tup [u, v])) (hu : Rw H m u) (hv : Rw H m v) (m6 : m ≤ 6) : ∃ a b, ChAt H t a b ∧ ChOk m a b := by
  obtain ⟨p, a, rfl, hp, la, oa⟩ := hu
  obtain ⟨p', b, rfl, hp', lb, ob⟩ := hv
  exact ⟨a, b, ⟨p, p', ht, hp, hp'⟩, ⟨la, lb, oa, ob, m6⟩⟩
theorem tab_cps {bs : List Bool} {k : Nat} (h : k < bs.length) : (tabOf bs).cps[(((k : Nat) : Int)).toNat]? = some (if bs[k] = true then 49 else 48) := by
  show ((bs.map fun b => if b = true then 49 else 48).toArray)[k]? = _
  rw [List.getElem?_toArray, List.getElem?_map, List.getElem?_eq_getElem h]
  rfl
theorem tab_len (bs : List Bool) : (tabOf bs).length = bs.length := by simp [tabOf, Str.length]
def sp_change (K : PySem.W.Frag) : Sp := fun vs H Q _ => ∃ (d l : Addr) (n : Int) (m : Nat) (bs : List Bool), vs = [.ref d, .int m, .str (tabOf bs)] ∧ DeckG H d l n ∧ n < 800000000 ∧ 1 ≤ m ∧ m ≤ 6 ∧ bs.length = 2 ^ m ∧ ∀ (c : Addr) (a b : List Int) (H' : Hp), DeckG H' d l (n + 6) → Fr d l H H' → H c = none → ChAt H' c a b → ChOk m a b → Q (.ref c) H'
theorem ok_change (T : Tx K mg) : FnOk P w K mg base CX0 2 T.f_change T.fd_change ["_law_deck_here", "_law_many", "_law_table_here"] (sp_change K) := by
  refine T.F_change.ok sc_change (fun vs H Q E h => ?_) (fun cdv A outer s H vs Q E hr h => ?_)
  · obtain ⟨d, l, n, m, bs, rfl, _⟩ := h
    rfl
  · obtain ⟨d, l, n, m, bs, rfl, D, hn, m1, m6, lb, q⟩ := h
    refine ⟨_, (pss_cons (ps_set (i := 3) sc_change.nd rfl (by first | exact .inl rfl | exact .inr rfl) (pe_call (ok_next T) (hr.mono (by decide)) (by rfl) T.g_next T.F_next.kp T.b_next .nil pass0 (pa_cons (pv 0) (pa_cons pe_int pa_nil)))) (pss_cons (ps_set (i := 4) sc_change.nd rfl (by first | exact .inl rfl | exact .inr rfl) (pe_call (ok_rows T) (hr.mono (by decide)) (by rfl) T.g_rows T.F_rows.kp T.b_rows .nil pass0 (pa_cons (pv 1) pa_nil))) (pss_cons (ps_set (i := 5) sc_change.nd rfl (by first | exact .inl rfl | exact .inr rfl) (pe_ix ix_list (pv 4) (pe_call (ok_next T) (hr.mono (by decide)) (by rfl) T.g_next T.F_next.kp T.b_next .nil pass0 (pa_cons (pv 0) (pa_cons (pe_callB call_len_seq (by rfl) T.m_len PySem.boot_len (pa_cons (pv 4) pa_nil)) pa_nil))) (fun _ _ => rfl))) (pss_cons (ps_set (i := 6) sc_change.nd rfl (by first | exact .inl rfl | exact .inr rfl) (pe_ix ix_list (pv 4) (pe_call (ok_next T) (hr.mono (by decide)) (by rfl) T.g_next T.F_next.kp T.b_next .nil pass0 (pa_cons (pv 0) (pa_cons (pe_callB call_len_seq (by rfl) T.m_len PySem.boot_len (pa_cons (pv 4) pa_nil)) pa_nil))) (fun _ _ => rfl))) (pss_cons (ps_set (i := 7) sc_change.nd rfl (by first | exact .inl rfl | exact .inr rfl) (pe_call (ok_next T) (hr.mono (by decide)) (by rfl) T.g_next T.F_next.kp T.b_next .nil pass0 (pa_cons (pv 0) (pa_cons (pv 1) pa_nil)))) (pss_cons (ps_set (i := 8) sc_change.nd rfl (by first | exact .inl rfl | exact .inr rfl) (pe_op op_cat (pe_lc (own := [("_law_k", 13), ("_law_row", 14)]) (by rfl) sc_change.nd (pi_enum (by rfl) T.m_enumerate (pa_cons (pv 4) pa_nil)) (blkOk_by (own := [("_law_k", 13), ("_law_row", 14)]) (N := ["_law_deck_here", "_law_many", "_law_table_here", "_law_way", "_law_rows_here", "_law_one", "_law_other", "_law_place", "_law_ones", "_law_noughts", "_law_bright", "_law_dark", "_law_beside", "_law_k", "_law_row"]) (sc := defScope s_change) (by decide +kernel)) (fun _ _ _ _ _ => (show PG _ _ (gTup K 2 _) from pg_tup rfl (pgs_cons (pg_name (i := 13) sc_change.nd rfl (by first | exact .inl rfl | exact .inr rfl)) (pgs_cons (pg_name (i := 14) sc_change.nd rfl (by first | exact .inl rfl | exact .inr rfl)) pgs_nil)))) (fun _ _ _ _ _ => (pts_one (pt_cmpR op_eq (pe_item_str (pv 2) (pv 13) (fun _ _ => rfl)) pe_str (nomark _)))) (fun _ _ _ _ _ => (pv 14))) (pe_lst (pa_cons (pv 5) pa_nil)))) (pss_cons (ps_set (i := 9) sc_change.nd rfl (by first | exact .inl rfl | exact .inr rfl) (pe_op op_cat (pe_lc (own := [("_law_k", 13), ("_law_row", 14)]) (by rfl) sc_change.nd (pi_enum (by rfl) T.m_enumerate (pa_cons (pv 4) pa_nil)) (blkOk_by (own := [("_law_k", 13), ("_law_row", 14)]) (N := ["_law_deck_here", "_law_many", "_law_table_here", "_law_way", "_law_rows_here", "_law_one", "_law_other", "_law_place", "_law_ones", "_law_noughts", "_law_bright", "_law_dark", "_law_beside", "_law_k", "_law_row"]) (sc := defScope s_change) (by decide +kernel)) (fun _ _ _ _ _ => (show PG _ _ (gTup K 2 _) from pg_tup rfl (pgs_cons (pg_name (i := 13) sc_change.nd rfl (by first | exact .inl rfl | exact .inr rfl)) (pgs_cons (pg_name (i := 14) sc_change.nd rfl (by first | exact .inl rfl | exact .inr rfl)) pgs_nil)))) (fun _ _ _ _ _ => (pts_one (pt_cmpR op_eq (pe_item_str (pv 2) (pv 13) (fun _ _ => rfl)) pe_str (nomark _)))) (fun _ _ _ _ _ => (pv 14))) (pe_lst (pa_cons (pv 6) pa_nil)))) (pss_cons (ps_set (i := 10) sc_change.nd rfl (by first | exact .inl rfl | exact .inr rfl) (pe_ix ix_list (pv 8) (pe_call (ok_next T) (hr.mono (by decide)) (by rfl) T.g_next T.F_next.kp T.b_next .nil pass0 (pa_cons (pv 0) (pa_cons (pe_callB call_len_seq (by rfl) T.m_len PySem.boot_len (pa_cons (pv 8) pa_nil)) pa_nil))) (fun _ _ => rfl))) (pss_cons (ps_set (i := 11) sc_change.nd rfl (by first | exact .inl rfl | exact .inr rfl) (pe_ix ix_list (pv 9) (pe_call (ok_next T) (hr.mono (by decide)) (by rfl) T.g_next T.F_next.kp T.b_next .nil pass0 (pa_cons (pv 0) (pa_cons (pe_callB call_len_seq (by rfl) T.m_len PySem.boot_len (pa_cons (pv 9) pa_nil)) pa_nil))) (fun _ _ => rfl))) (pss_cons (ps_set (i := 12) sc_change.nd rfl (by first | exact .inl rfl | exact .inr rfl) (pe_op op_catA (pe_op op_catA (pe_slice sl_tupA (pv 5) po_none (po_some (pv 7))) (pe_tup (pa_cons (pe_op op_sub pe_int (pe_ix ix_tup (pv 5) (pv 7) (fun _ _ => rfl))) pa_nil))) (pe_slice sl_tupA (pv 5) (po_some (pe_op op_add (pv 7) pe_int)) po_none))) (pss_one (ps_ret (pe_ix ix_list (pe_lst (pa_cons (pe_tup (pa_cons (pv 5) (pa_cons (pv 12) pa_nil))) (pa_cons (pe_tup (pa_cons (pv 5) (pa_cons (pv 6) pa_nil))) (pa_cons (pe_tup (pa_cons (pv 5) (pa_cons (pv 5) pa_nil))) (pa_cons (pe_tup (pa_cons (pv 10) (pa_cons (pv 11) pa_nil))) (pa_cons (pe_tup (pa_cons (pv 11) (pa_cons (pv 10) pa_nil))) (pa_cons (pe_tup (pa_cons (pv 10) (pa_cons (pe_ix ix_list (pv 8) pe_int (fun _ _ => rfl)) pa_nil))) pa_nil))))))) (pv 3) (fun _ _ => rfl)))))))))))))), ?_⟩
    refine ⟨.ref d, rfl, d, l, 6, _, rfl, D, by omega, by decide, by decide, fun H1 way D1 fr1 w0 w1 => ?_⟩
    refine ⟨.int m, rfl, m, rfl, m1, m6, fun ca H2 nca s2 tc => ?_⟩
    have D2 := D1.same s2
    have fr2 := fr1.trans (Fr.of s2)
    obtain ⟨_, cs, e, hca, tcs⟩ := tc.lst_inv
    cases e
    have lcs : cs.length = 2 ^ m := by rw [tcs.length, List.length_map, rowsU_len]
    have l64 : 2 ^ m ≤ 64 := Nat.pow_le_pow_right (by decide) m6
    have lpos : 1 ≤ 2 ^ m := Nat.one_le_two_pow
    have oca := D1.off nca
    refine ⟨.ref ca, rfl, .ref d, rfl, .ref ca, rfl, ca, _, rfl, .inl (SqL.of hca), ?_⟩
    rw [lcs]
    refine ⟨d, l, _, _, rfl, D2, by omega, by omega, by omega, fun H3 i1 D3 fr3 a0 a1 => ?_⟩
    have hca3 := fr3 _ _ oca.1 oca.2 hca
    have tcs3 := tcs.ts (Ts.frG D2 fr3) (noLs_map (fun r => noL_row r) _)
    obtain ⟨v1, hv1, mv1⟩ := at_pick (xs := cs) a0 (by rw [lcs]; exact a1)
    refine ⟨ca, _, _, v1, rfl, rfl, SqL.of hca3, hv1, ?_⟩
    refine ⟨.ref ca, rfl, .ref d, rfl, .ref ca, rfl, ca, _, rfl, .inl (SqL.of hca3), ?_⟩
    rw [lcs]
    refine ⟨d, l, _, _, rfl, D3, by omega, by omega, by omega, fun H4 i2 D4 fr4 b0 b1 => ?_⟩
    have hca4 := fr4 _ _ oca.1 oca.2 hca3
    have tcs4 := tcs3.ts (Ts.frG D3 fr4) (noLs_map (fun r => noL_row r) _)
    obtain ⟨v2, hv2, mv2⟩ := at_pick (xs := cs) b0 (by rw [lcs]; exact b1)
    refine ⟨ca, _, _, v2, rfl, rfl, SqL.of hca4, hv2, ?_⟩
    refine ⟨.ref d, rfl, .int m, rfl, d, l, m, _, rfl, D4, by omega, by omega, by omega, fun H5 pl D5 fr5 p0 p1 => ?_⟩
    have hca5 := fr5 _ _ oca.1 oca.2 hca4
    have tcs5 := tcs4.ts (Ts.frG D4 fr5) (noLs_map (fun r => noL_row r) _)
    have fr05 := (fr2.trans fr3).trans (fr4.trans fr5)
    show tSeq _ _ _ [some (.ref d), some (.int m), some (.str (tabOf bs)), some (.int way), some (.ref ca), some v1, some v2, some (.int pl), none, none, none, none, none, none, none] H5
    refine ⟨.ref ca, rfl, ca, _, rfl, SqL.of hca5, fun L nL => ?_⟩
    refine lc_enum (K := K) (a := ca) (xs := cs) (fun j H' => Same H5 (hd1 L H') ∧ ∃ xs, H' L = some (.lst xs) ∧ xs.length ≤ j ∧ ∀ x ∈ xs, x ∈ cs) ⟨hd1_of (same_upd nL) nL, [], upd_same, Nat.zero_le _, fun x hx => by cases hx⟩ (fun j H' _ z => SqL.of (hd1_le _ _ (z.1 _ _ hca5))) ?_ ?_
    · rintro j x Tq H6 hx nT ⟨s6, xs, hL, lx, mx⟩
      have hj := (List.getElem?_eq_some_iff.mp hx).1
      have sT := same_upd (o := HO.tup [.int (j : Nat), x]) nT
      refine ⟨Tq, _, rfl, SqT.of upd_same, rfl, _, _, rfl, _, _, rfl, rfl, rfl, ?_⟩
      refine ⟨.str (tabOf bs), rfl, .int (j : Nat), rfl, tabOf bs, ((j : Nat) : Int), _, rfl, rfl, by omega, by omega, by rw [tab_len]; omega, tab_cps (by omega), rfl, _, rfl, ite2 (fun _ => ?_) (fun _ => ?_)⟩
      · refine ⟨x, rfl, xs, sT _ _ hL, Nat.lt_of_lt_of_le (show _ < 128 by omega) (by decide), (s6.trans (hd1_same sT)).trans hd1_upd, xs ++ [x], upd_same, by rw [List.length_append]; exact Nat.succ_le_succ lx, fun z hz => ?_⟩
        rcases List.mem_append.mp hz with h | h
        · exact mx z h
        · rw [List.mem_singleton.mp h]; exact List.mem_of_getElem? hx
      · exact ⟨s6.trans (hd1_same sT), xs, sT _ _ hL, by omega, mx⟩
    rintro H6 ⟨s6, xs, hL, lx, mx⟩
    have s56 : Same H5 H6 := fun b o e => hd1_le _ _ (s6 _ _ e)
    refine ⟨v1, rfl, sl1, fun M nM => ?_⟩
    have s7 := same_upd (o := (HO.lst [v1])) nM
    have hM : upd H6 M (HO.lst [v1]) M = some (HO.lst [v1]) := upd_same
    generalize upd H6 M (HO.lst [v1]) = H7 at s7 hM ⊢
    refine ⟨L, M, _, _, rfl, rfl, s7 _ _ hL, hM, Nat.le_trans (show xs.length + 1 ≤ 128 by omega) (by decide), fun O nO => ?_⟩
    have s8 := same_upd (o := (HO.lst (xs ++ [v1]))) nO
    have hO : upd H7 O (HO.lst (xs ++ [v1])) O = some (HO.lst (xs ++ [v1])) := upd_same
    generalize upd H7 O (HO.lst (xs ++ [v1])) = H8 at s8 hO ⊢
    have s58 := (s56.trans s7).trans s8
    have mO : ∀ x ∈ xs ++ [v1], x ∈ cs := fun z hz => by
      rcases List.mem_append.mp hz with h | h
      · exact mx z h
      · rw [List.mem_singleton.mp h]; exact mv1
    have lO : 1 ≤ (xs ++ [v1]).length ∧ (xs ++ [v1]).length ≤ 65 := by
      rw [List.length_append]
      show 1 ≤ xs.length + 1 ∧ xs.length + 1 ≤ 65
      omega
    revert hO mO lO
    generalize xs ++ [v1] = os
    intro hO mO lO
    have hca8 := s58 _ _ hca5
    show tSeq _ _ _ [some (.ref d), some (.int m), some (.str (tabOf bs)), some (.int way), some (.ref ca), some v1, some v2, some (.int pl), some (.ref O), none, none, none, none, none, none] H8
    refine ⟨.ref ca, rfl, ca, _, rfl, SqL.of hca8, fun L' nL' => ?_⟩
    refine lc_enum (K := K) (a := ca) (xs := cs) (fun j H' => Same H8 (hd1 L' H') ∧ ∃ xs, H' L' = some (.lst xs) ∧ xs.length ≤ j ∧ ∀ x ∈ xs, x ∈ cs) ⟨hd1_of (same_upd nL') nL', [], upd_same, Nat.zero_le _, fun x hx => by cases hx⟩ (fun j H' _ z => SqL.of (hd1_le _ _ (z.1 _ _ hca8))) ?_ ?_
    · rintro j x Tq H9 hx nT ⟨s9, ys, hL', ly, my⟩
      have hj := (List.getElem?_eq_some_iff.mp hx).1
      have sT := same_upd (o := HO.tup [.int (j : Nat), x]) nT
      refine ⟨Tq, _, rfl, SqT.of upd_same, rfl, _, _, rfl, _, _, rfl, rfl, rfl, ?_⟩
      refine ⟨.str (tabOf bs), rfl, .int (j : Nat), rfl, tabOf bs, ((j : Nat) : Int), _, rfl, rfl, by omega, by omega, by rw [tab_len]; omega, tab_cps (by omega), rfl, _, rfl, ite2 (fun _ => ?_) (fun _ => ?_)⟩
      · refine ⟨x, rfl, ys, sT _ _ hL', Nat.lt_of_lt_of_le (show _ < 128 by omega) (by decide), (s9.trans (hd1_same sT)).trans hd1_upd, ys ++ [x], upd_same, by rw [List.length_append]; exact Nat.succ_le_succ ly, fun z hz => ?_⟩
        rcases List.mem_append.mp hz with h | h
        · exact my z h
        · rw [List.mem_singleton.mp h]; exact List.mem_of_getElem? hx
      · exact ⟨s9.trans (hd1_same sT), ys, sT _ _ hL', by omega, my⟩
    rintro H9 ⟨s9, ys, hL', ly, my⟩
    have s89 : Same H8 H9 := fun b o e => hd1_le _ _ (s9 _ _ e)
    refine ⟨v2, rfl, sl1, fun M' nM' => ?_⟩
    have sA := same_upd (o := (HO.lst [v2])) nM'
    have hM' : upd H9 M' (HO.lst [v2]) M' = some (HO.lst [v2]) := upd_same
    generalize upd H9 M' (HO.lst [v2]) = HA at sA hM' ⊢
    refine ⟨L', M', _, _, rfl, rfl, sA _ _ hL', hM', Nat.le_trans (show ys.length + 1 ≤ 128 by omega) (by decide), fun N nN => ?_⟩
    have sB := same_upd (o := (HO.lst (ys ++ [v2]))) nN
    have hN : upd HA N (HO.lst (ys ++ [v2])) N = some (HO.lst (ys ++ [v2])) := upd_same
    generalize upd HA N (HO.lst (ys ++ [v2])) = HB at sB hN ⊢
    have s8B := (s89.trans sA).trans sB
    have mN : ∀ x ∈ ys ++ [v2], x ∈ cs := fun z hz => by
      rcases List.mem_append.mp hz with h | h
      · exact my z h
      · rw [List.mem_singleton.mp h]; exact mv2
    have lN : 1 ≤ (ys ++ [v2]).length ∧ (ys ++ [v2]).length ≤ 65 := by
      rw [List.length_append]
      show 1 ≤ ys.length + 1 ∧ ys.length + 1 ≤ 65
      omega
    revert hN mN lN
    generalize ys ++ [v2] = ns
    intro hN mN lN
    have DB := D5.same (s58.trans s8B)
    have frB := fr05.trans (Fr.of (s58.trans s8B))
    have tcsB := tcs5.same (s58.trans s8B)
    have hOB := s8B _ _ hO
    have oO := (D5.same ((s56.trans s7))).off nO
    have oN := (D5.same ((s58.trans s89).trans sA)).off nN
    refine ⟨.ref O, rfl, .ref d, rfl, .ref O, rfl, O, _, rfl, .inl (SqL.of hOB), d, l, _, _, rfl, DB, by omega, by omega, by omega, fun HC i3 DC frC c0 c1 => ?_⟩
    have hOC := frC _ _ oO.1 oO.2 hOB
    have hNC := frC _ _ oN.1 oN.2 hN
    obtain ⟨v3, hv3, mv3⟩ := at_pick (xs := os) c0 c1
    refine ⟨O, _, _, v3, rfl, rfl, SqL.of hOC, hv3, ?_⟩
    refine ⟨.ref N, rfl, .ref d, rfl, .ref N, rfl, N, _, rfl, .inl (SqL.of hNC), d, l, _, _, rfl, DC, by omega, by omega, by omega, fun HD i4 DD frD d0 d1 => ?_⟩
    have hOD := frD _ _ oO.1 oO.2 hOC
    have hND := frD _ _ oN.1 oN.2 hNC
    obtain ⟨v4, hv4, mv4⟩ := at_pick (xs := ns) d0 d1
    refine ⟨N, _, _, v4, rfl, rfl, SqL.of hND, hv4, ?_⟩
    have tcsD := tcsB.ts ((Ts.frG DB frC).trans (Ts.frG DC frD)) (noLs_map (fun r => noL_row r) _)
    have frBD := frB.trans (frC.trans frD)
    obtain ⟨p1', r1, rfl, hp1, lr1, or1⟩ := rw_all tcsD v1 mv1
    obtain ⟨k, rfl⟩ := Int.eq_ofNat_of_zero_le p0
    have hk : k < r1.length := by omega
    have hat : atI (r1.map V.int) ((k : Nat) : Int) = some (.int r1[k]) := atI_nat (by rw [List.getElem?_map, List.getElem?_eq_getElem hk]; rfl)
    show tSeq _ _ _ [some (.ref d), some (.int m), some (.str (tabOf bs)), some (.int way), some (.ref ca), some (.ref p1'), some v2, some (.int (k : Nat)), some (.ref O), some (.ref N), some v3, some v4, none, none, none] HD
    refine ⟨.ref p1', rfl, .int (k : Nat), rfl, (k : Int), rfl, slA hp1 fun q1 HE sE hq1 => ?_⟩
    rw [cut_to] at hq1
    refine ⟨.ref p1', rfl, .int (k : Nat), rfl, p1', _, _, _, rfl, rfl, SqT.of (sE _ _ hp1), hat, _, _, rfl, rfl, sl1, fun t nt => ?_⟩
    have sF := same_upd (o := (HO.tup [V.int (1 - r1[k])])) nt
    have ht : upd HE t (HO.tup [V.int (1 - r1[k])]) t = some (HO.tup [V.int (1 - r1[k])]) := upd_same
    generalize upd HE t (HO.tup [V.int (1 - r1[k])]) = HF at sF ht ⊢
    refine catA (sF _ _ hq1) ht ?_ fun q2 HG sG hq2 => ?_
    · rw [List.length_take, List.length_map]
      exact Nat.le_trans (show _ ≤ 64 by simp only [List.length_cons, List.length_nil]; omega) (by decide)
    have sDG := (sE.trans sF).trans sG
    refine ⟨.ref p1', rfl, .int (k : Nat), rfl, _, _, rfl, rfl, ((k + 1 : Nat) : Int), rfl, ?_⟩
    refine slAn (sDG _ _ hp1) fun q3 HI sI hq3 => ?_
    rw [cut_from] at hq3
    refine catA (sI _ _ hq2) hq3 ?_ fun be HJ sJ hbe => ?_
    · rw [List.length_append, List.length_take, List.length_drop, List.length_map]
      exact Nat.le_trans (show _ ≤ 64 by simp only [List.length_cons, List.length_nil]; omega) (by decide)
    rw [set_put (by rw [List.length_map]; exact hk)] at hbe
    have hset : (r1.map V.int).set k (V.int (1 - r1[k])) = (r1.set k (1 - r1[k])).map V.int := by rw [List.map_set]
    rw [hset] at hbe
    have sDJ := (sDG.trans sI).trans sJ
    have DJ := DD.same sDJ
    have frJ := frBD.trans (Fr.of sDJ)
    have tcsJ := tcsD.same sDJ
    have hOJ := sDJ _ _ hOD
    have rwc := rw_all tcsJ
    have rb : Rw HJ m (.ref be) := ⟨be, _, rfl, hbe, by rw [List.length_set]; exact lr1, fun y hy => by
      rcases List.mem_or_eq_of_mem_set hy with z | z
      · exact or1 y z
      · have := or1 r1[k] (List.getElem_mem hk)
        omega⟩
    have w1' := rwc _ mv1
    have w2 := rwc _ mv2
    have w3 := rwc _ (mO _ mv3)
    have w4 := rwc _ (mN _ mv4)
    obtain ⟨v5, hv5, mv5⟩ := at_pick (xs := os) (j := 0) (by decide) (by omega)
    have w5 := rwc _ (mO _ mv5)
    unfold gName
    show (_ : L2.St → Hp → Prop) [some (.ref d), some (.int m), some (.str (tabOf bs)), some (.int way), some (.ref ca), some (.ref p1'), some v2, some (.int (k : Nat)), some (.ref O), some (.ref N), some v3, some v4, some (.ref be), none, none] HJ
    refine ⟨.ref p1', rfl, .ref be, rfl, sl2, fun t1 n1 => ?_⟩
    have s1 := same_upd (o := (HO.tup [V.ref p1', .ref be])) n1
    have h1 : upd HJ t1 (HO.tup [V.ref p1', .ref be]) t1 = some (HO.tup [V.ref p1', .ref be]) := upd_same
    generalize upd HJ t1 (HO.tup [V.ref p1', .ref be]) = J1 at s1 h1 ⊢
    refine ⟨.ref p1', rfl, v2, rfl, sl2, fun t2 n2 => ?_⟩
    have s2' := same_upd (o := (HO.tup [V.ref p1', v2])) n2
    have h2 : upd J1 t2 (HO.tup [V.ref p1', v2]) t2 = some (HO.tup [V.ref p1', v2]) := upd_same
    generalize upd J1 t2 (HO.tup [V.ref p1', v2]) = J2 at s2' h2 ⊢
    refine ⟨.ref p1', rfl, .ref p1', rfl, sl2, fun t3 n3 => ?_⟩
    have s3 := same_upd (o := (HO.tup [V.ref p1', .ref p1'])) n3
    have h3 : upd J2 t3 (HO.tup [V.ref p1', .ref p1']) t3 = some (HO.tup [V.ref p1', .ref p1']) := upd_same
    generalize upd J2 t3 (HO.tup [V.ref p1', .ref p1']) = J3 at s3 h3 ⊢
    refine ⟨v3, rfl, v4, rfl, sl2, fun t4 n4 => ?_⟩
    have s4 := same_upd (o := (HO.tup [v3, v4])) n4
    have h4 : upd J3 t4 (HO.tup [v3, v4]) t4 = some (HO.tup [v3, v4]) := upd_same
    generalize upd J3 t4 (HO.tup [v3, v4]) = J4 at s4 h4 ⊢
    refine ⟨v4, rfl, v3, rfl, sl2, fun t5 n5 => ?_⟩
    have s5 := same_upd (o := (HO.tup [v4, v3])) n5
    have h5 : upd J4 t5 (HO.tup [v4, v3]) t5 = some (HO.tup [v4, v3]) := upd_same
    generalize upd J4 t5 (HO.tup [v4, v3]) = J5 at s5 h5 ⊢
    have sJ5 := (((s1.trans s2').trans s3).trans s4).trans s5
    refine ⟨v3, rfl, .ref O, rfl, O, _, 0, v5, rfl, rfl, SqL.of (sJ5 _ _ hOJ), hv5, sl2, fun t6 n6 => ?_⟩
    have s6' := same_upd (o := (HO.tup [v3, v5])) n6
    have h6 : upd J5 t6 (HO.tup [v3, v5]) t6 = some (HO.tup [v3, v5]) := upd_same
    generalize upd J5 t6 (HO.tup [v3, v5]) = J6 at s6' h6 ⊢
    refine ⟨(show 6 ≤ sizeLine by decide), fun W nW => ?_⟩
    have s7' := same_upd (o := (HO.lst [V.ref t1, .ref t2, .ref t3, .ref t4, .ref t5, .ref t6])) nW
    have h7 : upd J6 W (HO.lst [V.ref t1, .ref t2, .ref t3, .ref t4, .ref t5, .ref t6]) W = some (HO.lst [V.ref t1, .ref t2, .ref t3, .ref t4, .ref t5, .ref t6]) := upd_same
    generalize upd J6 W (HO.lst [V.ref t1, .ref t2, .ref t3, .ref t4, .ref t5, .ref t6]) = J7 at s7' h7 ⊢
    have sJ7 := (sJ5.trans s6').trans s7'
    have tsJ := Ts.same sJ7
    obtain ⟨x, hx, mx⟩ := at_pick (xs := [V.ref t1, .ref t2, .ref t3, .ref t4, .ref t5, .ref t6]) w0 w1
    refine ⟨.int way, rfl, W, _, way, x, rfl, rfl, SqL.of h7, hx, ?_⟩
    have fin : ∀ (t : Addr) (u v : V), J7 t = some (.tup [u, v]) → HJ t = none → Rw HJ m u → Rw HJ m v → Q (.ref t) J7 := fun t u v ht nt hu hv => by
      obtain ⟨a, b, ca', ok⟩ := pair_at ht (hu.ts tsJ) (hv.ts tsJ) m6
      exact q t a b J7 ((DJ.same sJ7).mono (by omega)) (frJ.trans (Fr.of sJ7)) (none_of_frG frJ DJ nt) ca' ok
    have back : ∀ {G : Hp} {t : Addr}, Same HJ G → G t = none → HJ t = none := fun {G t} s n => by
      cases z : HJ t with
      | none => rfl
      | some o => rw [s _ _ z] at n; cases n
    simp only [List.mem_cons, List.not_mem_nil, or_false] at mx
    rcases mx with rfl | rfl | rfl | rfl | rfl | rfl
    · exact fin _ _ _ (s7' _ _ (s6' _ _ (s5 _ _ (s4 _ _ (s3 _ _ (s2' _ _ h1)))))) n1 w1' rb
    · exact fin _ _ _ (s7' _ _ (s6' _ _ (s5 _ _ (s4 _ _ (s3 _ _ h2))))) (back s1 n2) w1' w2
    · exact fin _ _ _ (s7' _ _ (s6' _ _ (s5 _ _ (s4 _ _ h3)))) (back (s1.trans s2') n3) w1' w1'
    · exact fin _ _ _ (s7' _ _ (s6' _ _ (s5 _ _ h4))) (back ((s1.trans s2').trans s3) n4) w3 w4
    · exact fin _ _ _ (s7' _ _ (s6' _ _ h5)) (back (((s1.trans s2').trans s3).trans s4) n5) w4 w3
    · exact fin _ _ _ (s7' _ _ h6) (back sJ5 n6) w3 w5

end
end Gk

--@NEST
set_option Elab.async false
set_option linter.all false
set_option maxRecDepth 100000
set_option maxHeartbeats 1000000
set_option pp.maxSteps 1500
set_option pp.deepTerms false
namespace Gk
open PySem PySem.Spec PyProof.Rows L2
section
variable {P : Program} {w : World} {K : PySem.W.Frag} {mg : Str → Option Value} {base : Heap}
/-! ### a wish drawn -/
abbrev Ch := List Int × List Int
def cD (c : Ch) : PyData := chD c.1 c.2
def wishD (m : Nat) (bs : List Bool) (chs : List Ch) : PyData := .tuple [.int m, .str (tabOf bs), .tuple (chs.map cD)]
structure WishOk (m : Nat) (bs : List Bool) (chs : List Ch) : Prop where
  m1 : 1 ≤ m
  m4 : m ≤ 4
  lb : bs.length = 2 ^ m
  lc : chs.length ≤ 64
  oc : ∀ c ∈ chs, ChOk m c.1 c.2
theorem ChAt.tk {H : Hp} {c : Addr} {a b : List Int} (h : ChAt H c a b) : Tk H (.ref c) (chD a b) := by
  obtain ⟨ra, rb, h1, h2, h3⟩ := h
  exact .tup h1 (.cons (.tup h2 (TkAll.ints a)) (.cons (.tup h3 (TkAll.ints b)) .nil))
theorem ChAt.of_tk {H : Hp} {v : V} {c : Ch} (h : Tk H v (cD c)) : ∃ p, v = .ref p ∧ ChAt H p c.1 c.2 := by
  obtain ⟨p, ra, rb, rfl, h1, h2, h3⟩ := Tk.ch_inv h
  exact ⟨p, rfl, ra, rb, h1, h2, h3⟩
theorem noL_chs (chs : List Ch) : noLs (chs.map cD) = true := noLs_map (f := cD) (fun c => noL_ch c.1 c.2) chs
theorem noL_wish (m : Nat) (bs : List Bool) (chs : List Ch) : noL (wishD m bs chs) = true := by
  show (true && (true && (noLs (chs.map cD) && true))) = true
  rw [noL_chs]
  rfl
theorem Tk.wish_inv {H : Hp} {v : V} {m : Nat} {bs : List Bool} {chs : List Ch} (h : Tk H v (wishD m bs chs)) : ∃ r t xs, v = .ref r ∧ H r = some (.tup [.int m, .str (tabOf bs), .ref t]) ∧ H t = some (.tup xs) ∧ TkAll H xs (chs.map cD) := by
  obtain ⟨r, xs, rfl, hr, t⟩ := h.tup_inv
  cases t with
  | cons h1 t => cases t with
    | cons h2 t => cases t with
      | cons h3 t =>
        cases t
        cases h1
        cases h2
        obtain ⟨t, ys, rfl, ht, tx⟩ := h3.tup_inv
        exact ⟨r, t, ys, rfl, hr, ht, tx⟩
def sp_wish (K : PySem.W.Frag) : Sp := fun vs H Q _ => ∃ (d l : Addr) (n mo : Int), vs = [.ref d, .int mo] ∧ DeckG H d l n ∧ n < 700000000 ∧ 1 ≤ mo ∧ mo ≤ 57 ∧ ∀ (r : Addr) (m : Nat) (bs : List Bool) (chs : List Ch) (H' : Hp), DeckG H' d l (n + 800) → Fr d l H H' → H r = none → Tk H' (.ref r) (wishD m bs chs) → WishOk m bs chs → Q (.ref r) H'
theorem ok_wish (T : Tx K mg) : FnOk P w K mg base CX0 4 T.f_wish T.fd_wish ["_law_deck_here", "_law_most"] (sp_wish K) := by
  refine T.F_wish.ok sc_wish (fun vs H Q E h => ?_) (fun cdv A outer s H vs Q E hr h => ?_)
  · obtain ⟨d, l, n, mo, rfl, _⟩ := h
    rfl
  · obtain ⟨d, l, n, mo, rfl, D, hn, o1, o57, q⟩ := h
    refine ⟨_, (pss_cons (ps_set (i := 2) sc_wish.nd rfl (by first | exact .inl rfl | exact .inr rfl) (pe_ix ix_list (pe_lst (pa_cons pe_int (pa_cons pe_int (pa_cons pe_int (pa_cons pe_int (pa_cons pe_int (pa_cons pe_int (pa_cons pe_int (pa_cons pe_int pa_nil))))))))) (pe_call (ok_next T) (hr.mono (by decide)) (by rfl) T.g_next T.F_next.kp T.b_next .nil pass0 (pa_cons (pv 0) (pa_cons pe_int pa_nil))) (fun _ _ => rfl))) (pss_cons (ps_set (i := 3) sc_wish.nd rfl (by first | exact .inl rfl | exact .inr rfl) (pe_ix ix_list (pe_lst (pa_cons pe_int (pa_cons pe_int (pa_cons pe_int (pa_cons pe_int (pa_cons pe_int (pa_cons pe_int (pa_cons pe_int (pa_cons pe_int pa_nil))))))))) (pe_call (ok_next T) (hr.mono (by decide)) (by rfl) T.g_next T.F_next.kp T.b_next .nil pass0 (pa_cons (pv 0) (pa_cons pe_int pa_nil))) (fun _ _ => rfl))) (pss_cons (ps_set (i := 4) sc_wish.nd rfl (by first | exact .inl rfl | exact .inr rfl) (pe_ix ix_list (pe_lst (pa_cons (pe_call (ok_next T) (hr.mono (by decide)) (by rfl) T.g_next T.F_next.kp T.b_next .nil pass0 (pa_cons (pv 0) (pa_cons pe_int pa_nil))) (pa_cons (pe_call (ok_next T) (hr.mono (by decide)) (by rfl) T.g_next T.F_next.kp T.b_next .nil pass0 (pa_cons (pv 0) (pa_cons pe_int pa_nil))) (pa_cons (pe_op op_add pe_int (pe_call (ok_next T) (hr.mono (by decide)) (by rfl) T.g_next T.F_next.kp T.b_next .nil pass0 (pa_cons (pv 0) (pa_cons (pv 1) pa_nil)))) pa_nil)))) (pv 3) (fun _ _ => rfl))) (pss_cons (ps_set (i := 5) sc_wish.nd rfl (by first | exact .inl rfl | exact .inr rfl) (pe_call (ok_table T) (hr.mono (by decide)) (by rfl) T.g_table T.F_table.kp T.b_table .nil pass0 (pa_cons (pv 0) (pa_cons (pv 2) pa_nil)))) (pss_one (ps_ret (pe_tup (pa_cons (pv 2) (pa_cons (pv 5) (pa_cons (pe_callTy call_tuple_of (by rfl) T.m_tuple (by decide +kernel) (pa_cons (pe_lc (own := [("_law_k", 6)]) (by rfl) sc_wish.nd (pi_range1 (by rfl) T.m_range (pa_cons (pv 4) pa_nil)) (blkOk_by (own := [("_law_k", 6)]) (N := ["_law_deck_here", "_law_most", "_law_many", "_law_way", "_law_count", "_law_table_here", "_law_k"]) (sc := defScope s_wish) (by decide +kernel)) (fun _ _ _ _ _ => (pg_name (i := 6) sc_wish.nd rfl (by first | exact .inl rfl | exact .inr rfl))) (fun _ _ _ _ _ => pts_nil) (fun _ _ _ _ _ => (pe_call (ok_change T) (hr.mono (by decide)) (by rfl) T.g_change T.F_change.kp T.b_change .nil pass0 (pa_cons (pv 0) (pa_cons (pv 2) (pa_cons (pv 5) pa_nil)))))) pa_nil)) pa_nil)))))))))), ?_⟩
    refine ⟨(show 8 ≤ sizeLine by decide), fun p1 np1 => ?_⟩
    have s1 := same_upd (o := (HO.lst [V.int 1, .int 2, .int 3, .int 3, .int 3, .int 4, .int 2, .int 4])) np1
    have h1 : upd H p1 (HO.lst [V.int 1, .int 2, .int 3, .int 3, .int 3, .int 4, .int 2, .int 4]) p1 = some (HO.lst [V.int 1, .int 2, .int 3, .int 3, .int 3, .int 4, .int 2, .int 4]) := upd_same
    generalize upd H p1 (HO.lst [V.int 1, .int 2, .int 3, .int 3, .int 3, .int 4, .int 2, .int 4]) = A1 at s1 h1 ⊢
    have D1 := D.same s1
    have o1' := D.off np1
    refine ⟨.ref d, rfl, d, l, 8, _, rfl, D1, by omega, by decide, by decide, fun H2 x D2 fr2 x0 x1 => ?_⟩
    obtain ⟨vm, hm, mm⟩ := at_pick (xs := [V.int 1, .int 2, .int 3, .int 3, .int 3, .int 4, .int 2, .int 4]) x0 x1
    refine ⟨p1, _, x, vm, rfl, rfl, SqL.of (fr2 _ _ o1'.1 o1'.2 h1), hm, ?_⟩
    obtain ⟨m, rfl, m1, m4⟩ : ∃ m : Nat, vm = .int m ∧ 1 ≤ m ∧ m ≤ 4 := by
      simp only [List.mem_cons, List.not_mem_nil, or_false] at mm
      rcases mm with rfl | rfl | rfl | rfl | rfl | rfl | rfl | rfl
      · exact ⟨1, rfl, by omega, by omega⟩
      · exact ⟨2, rfl, by omega, by omega⟩
      · exact ⟨3, rfl, by omega, by omega⟩
      · exact ⟨3, rfl, by omega, by omega⟩
      · exact ⟨3, rfl, by omega, by omega⟩
      · exact ⟨4, rfl, by omega, by omega⟩
      · exact ⟨2, rfl, by omega, by omega⟩
      · exact ⟨4, rfl, by omega, by omega⟩
    refine ⟨(show 8 ≤ sizeLine by decide), fun p2 np2 => ?_⟩
    have s3 := same_upd (o := (HO.lst [V.int 0, .int 0, .int 1, .int 1, .int 1, .int 0, .int 1, .int 2])) np2
    have h3 : upd H2 p2 (HO.lst [V.int 0, .int 0, .int 1, .int 1, .int 1, .int 0, .int 1, .int 2]) p2 = some (HO.lst [V.int 0, .int 0, .int 1, .int 1, .int 1, .int 0, .int 1, .int 2]) := upd_same
    generalize upd H2 p2 (HO.lst [V.int 0, .int 0, .int 1, .int 1, .int 1, .int 0, .int 1, .int 2]) = A3 at s3 h3 ⊢
    have D3 := D2.same s3
    have o2' := D2.off np2
    refine ⟨.ref d, rfl, d, l, 8, _, rfl, D3, by omega, by decide, by decide, fun H4 y D4 fr4 y0 y1 => ?_⟩
    obtain ⟨vw, hw, mw⟩ := at_pick (xs := [V.int 0, .int 0, .int 1, .int 1, .int 1, .int 0, .int 1, .int 2]) y0 y1
    refine ⟨p2, _, y, vw, rfl, rfl, SqL.of (fr4 _ _ o2'.1 o2'.2 h3), hw, ?_⟩
    obtain ⟨way, rfl, wy0, wy3⟩ : ∃ way : Int, vw = .int way ∧ 0 ≤ way ∧ way < 3 := by
      simp only [List.mem_cons, List.not_mem_nil, or_false] at mw
      rcases mw with rfl | rfl | rfl | rfl | rfl | rfl | rfl | rfl <;> exact ⟨_, rfl, by decide, by decide⟩
    have fr04 := ((Fr.of (d := d) (l := l) s1).trans fr2).trans ((Fr.of (d := d) (l := l) s3).trans fr4)
    refine ⟨.ref d, rfl, d, l, 4, _, rfl, D4, by omega, by decide, by decide, fun H5 c1 D5 fr5 c10 c11 => ?_⟩
    refine ⟨.ref d, rfl, d, l, 7, _, rfl, D5, by omega, by decide, by decide, fun H6 c2 D6 fr6 c20 c21 => ?_⟩
    refine ⟨.ref d, rfl, .int mo, rfl, d, l, mo, _, rfl, D6, by omega, by omega, by omega, fun H7 c3 D7 fr7 c30 c31 => ?_⟩
    refine ⟨_, _, rfl, rfl, sl3, fun p3 np3 => ?_⟩
    have s8 := same_upd (o := (HO.lst [V.int c1, .int c2, .int (8 + c3)])) np3
    have h8 : upd H7 p3 (HO.lst [V.int c1, .int c2, .int (8 + c3)]) p3 = some (HO.lst [V.int c1, .int c2, .int (8 + c3)]) := upd_same
    generalize upd H7 p3 (HO.lst [V.int c1, .int c2, .int (8 + c3)]) = A8 at s8 h8 ⊢
    have D8 := D7.same s8
    obtain ⟨vc, hc, mc⟩ := at_pick (xs := [V.int c1, .int c2, .int (8 + c3)]) wy0 wy3
    refine ⟨.int way, rfl, p3, _, way, vc, rfl, rfl, SqL.of h8, hc, ?_⟩
    obtain ⟨cnt, rfl, ct0, ct64⟩ : ∃ c : Int, vc = .int c ∧ 0 ≤ c ∧ c ≤ 64 := by
      simp only [List.mem_cons, List.not_mem_nil, or_false] at mc
      rcases mc with rfl | rfl | rfl
      · exact ⟨_, rfl, c10, by omega⟩
      · exact ⟨_, rfl, c20, by omega⟩
      · exact ⟨_, rfl, by omega, by omega⟩
    have fr08 := ((fr04.trans fr5).trans (fr6.trans fr7)).trans (Fr.of s8)
    first | (show (_ : L2.St → Hp → Prop) [some (.ref d), some (.int mo), some (.int m), some (.int way), some (.int cnt), none, none] A8) | (unfold gName; show (_ : L2.St → Hp → Prop) [some (.ref d), some (.int mo), some (.int m), some (.int way), some (.int cnt), none, none] A8) | (dsimp only; show (_ : L2.St → Hp → Prop) [some (.ref d), some (.int mo), some (.int m), some (.int way), some (.int cnt), none, none] A8) | (dsimp only [gName]; show (_ : L2.St → Hp → Prop) [some (.ref d), some (.int mo), some (.int m), some (.int way), some (.int cnt), none, none] A8)
    refine ⟨.ref d, rfl, .int m, rfl, d, l, _, m, rfl, D8, by omega, m1, by omega, fun bs H9 D9 fr9 lb => ?_⟩
    have fr09 := fr08.trans fr9
    first | (show (_ : L2.St → Hp → Prop) [some (.ref d), some (.int mo), some (.int m), some (.int way), some (.int cnt), some (.str (tabOf bs)), none] H9) | (unfold gName; show (_ : L2.St → Hp → Prop) [some (.ref d), some (.int mo), some (.int m), some (.int way), some (.int cnt), some (.str (tabOf bs)), none] H9) | (dsimp only; show (_ : L2.St → Hp → Prop) [some (.ref d), some (.int mo), some (.int m), some (.int way), some (.int cnt), some (.str (tabOf bs)), none] H9) | (dsimp only [gName]; show (_ : L2.St → Hp → Prop) [some (.ref d), some (.int mo), some (.int m), some (.int way), some (.int cnt), some (.str (tabOf bs)), none] H9)
    refine ⟨.int m, rfl, .str (tabOf bs), rfl, .int cnt, rfl, cnt, rfl, by omega, by omega, fun L nL => ?_⟩
    have oL := D9.off nL
    have nL0 := none_of_frG fr09 D9 nL
    refine lc_range (g := gName 6) (lo := 0) (n := cnt.toNat) (fun j H' => DeckG H' d l (n + 305 + 6 * j) ∧ Fr d l H H' ∧ ∃ (xs : List V) (chs : List Ch), H' L = some (.lst xs) ∧ xs.length = j ∧ TkAll H' xs (chs.map cD) ∧ ∀ c ∈ chs, ChOk m c.1 c.2) ⟨(D9.same (same_upd nL)).mono (by omega), fr09.trans (Fr.new nL), [], [], upd_same, rfl, .nil, fun c hc => by cases hc⟩ ?_ ?_
    · rintro j H10 hj ⟨D10, fr10, xs, chs, hL, lx, tx, okc⟩
      have hj' : j < 64 := by omega
      refine ⟨rfl, .ref d, rfl, .int m, rfl, .str (tabOf bs), rfl, d, l, _, m, bs, rfl, D10, by omega, m1, by omega, lb, fun c a b H11 D11 fr11 nc ca ok => ?_⟩
      have hL11 := fr11 _ _ oL.1 oL.2 hL
      have tsL := (Ts.frG D10 fr11).trans (Ts.set (ys := xs ++ [V.ref c]) hL11)
      refine ⟨_, hL11, Nat.lt_of_lt_of_le (show _ < 128 by omega) (by decide), (D11.upd oL.1 oL.2).mono (by push_cast; omega), Fr.upd (fr10.trans fr11) nL0, xs ++ [V.ref c], chs ++ [(a, b)], upd_same, by rw [List.length_append, lx]; rfl, ?_, fun z hz => ?_⟩
      · rw [List.map_append]
        exact (tx.ts tsL (noL_chs _)).append (.cons ((ca.tk).ts (Ts.set hL11) (noL_ch a b)) .nil)
      · rcases List.mem_append.mp hz with h | h
        · exact okc z h
        · rw [List.mem_singleton.mp h]; exact ok
    rintro H10 ⟨D10, fr10, xs, chs, hL, lx, tx, okc⟩
    refine ⟨L, _, rfl, .inl ⟨SqL.of hL, fun t nt => ?_⟩⟩
    have s11 := same_upd (o := (HO.tup xs)) nt
    have h11 : upd H10 t (HO.tup xs) t = some (HO.tup xs) := upd_same
    generalize upd H10 t (HO.tup xs) = A11 at s11 h11 ⊢
    refine ⟨sl3, fun r nr => ?_⟩
    have s12 := same_upd (o := (HO.tup [V.int m, .str (tabOf bs), .ref t])) nr
    have h12 : upd A11 r (HO.tup [V.int m, .str (tabOf bs), .ref t]) r = some (HO.tup [V.int m, .str (tabOf bs), .ref t]) := upd_same
    generalize upd A11 r (HO.tup [V.int m, .str (tabOf bs), .ref t]) = A12 at s12 h12 ⊢
    have sa := s11.trans s12
    have nr10 : H10 r = none := by
      cases z : H10 r with
      | none => rfl
      | some o => rw [s11 _ _ z] at nr; cases nr
    have lcx := tx.length
    rw [List.length_map] at lcx
    exact q r m bs chs A12 ((D10.same sa).mono (by omega)) (fr10.trans (Fr.of sa)) (none_of_frG fr10 D10 nr10) (.tup h12 (.cons (.int _) (.cons (.str _) (.cons (.tup (s12 _ _ h11) (tx.same sa)) .nil)))) ⟨m1, m4, lb, by omega, okc⟩

end
end Gk

--@NEST
set_option Elab.async false
set_option linter.all false
set_option maxRecDepth 100000
set_option maxHeartbeats 1000000
set_option pp.maxSteps 1500
set_option pp.deepTerms false
namespace Gk
open PySem PySem.Spec PyProof.Rows L2
/-! ### a walk over a list, a tuple or a text, whichever it is -/
namespace ItA
open PySem.W PySem.Calls HT
section
variable {X : Cx}
def ItR (X : Cx) (tg : Expr) (r : V → Hp → (It → Hp → Prop) → Prop) : Prop := ∀ (pins : List (Addr × Obj)) (s : Shared) (σ : L2.St) (H : Hp) (x : V) (v : Value) (R : It → Hp → Prop), Inv X pins σ H s → RelV x v → r x H R → wpAny (model X.prog X.w) X.A (pyIter v) (PIE X pins σ tg R) X.xe s
theorem pi_of {tg l : Expr} {tl : TE} {r : V → Hp → (It → Hp → Prop) → Prop} (hr : ItR X tg r) (hl : PE X l tl) : PI X tg l (fun σ H R => tl σ H fun x H1 => r x H1 R) := by
  refine ⟨fun pins s σ H R I h => ?_⟩
  exact thn (hl.run pins s σ H _ I h) fun v s1 ⟨x, H1, I1, r1, q1⟩ => hr pins s1 σ H1 x v R I1 r1 q1
def rWalk (K : PySem.W.Frag) (x : V) (H : Hp) (R : It → Hp → Prop) : Prop :=
  (∃ a, x = .ref a ∧ (∃ xs, SqT K H a xs) ∧ R (Itt K a) H) ∨ (∃ a, x = .ref a ∧ (∃ xs, SqL K H a xs) ∧ R (Itl K a) H) ∨ ∃ z, x = .str z ∧ R (Its z) H
theorem it_any {tg : Expr} : ItR X tg (rWalk X.K) := by
  intro pins s σ H x v R I r h
  rcases h with ⟨a, rfl, ⟨xs, hq⟩, q⟩ | ⟨a, rfl, ⟨xs, hq⟩, q⟩ | ⟨z, rfl, q⟩
  · cases r
    obtain ⟨its, rv, p, hz⟩ := I.tuple hq
    refine wpAny_pyIter_tuple (show s.heap.IsTuple a its.toArray from p) ?_
    refine ⟨s.heap.objs.size, [s.heap.objs.size], _, _, H, rfl, I.kept (t' := s.toks) fun b o e => Heap.get?_push_of_some _ e, turn_tuple a _, ⟨_, Heap.get?_push_size _ rfl, rfl, rfl⟩, fun b hb => ?_, q⟩
    have e : b = s.heap.objs.size := by simpa using hb
    subst e
    exact I.fpOk (Nat.le_refl _) (I.hok.fresh (Nat.le_refl _))
  · cases r
    obtain ⟨its, rv, p, hz⟩ := I.list hq
    refine wpAny_pyIter_list p.isList ?_
    refine ⟨s.heap.objs.size, [s.heap.objs.size], _, _, H, rfl, I.kept (t' := s.toks) fun b o e => Heap.get?_push_of_some _ e, turn_list a _, ⟨_, Heap.get?_push_size _ rfl, rfl, rfl⟩, fun b hb => ?_, q⟩
    have e : b = s.heap.objs.size := by simpa using hb
    subst e
    exact I.fpOk (Nat.le_refl _) (I.hok.fresh (Nat.le_refl _))
  · obtain ⟨t, rfl⟩ := r
    cases ha : z.cps.all (· < 128)
    · exact wpAny_pyIter_wide ha (pi_one (tk := s.toks) I _ (turn_str _ z t "str_iterator" (.inr rfl)) ⟨_, Heap.get?_push_size _ rfl, rfl, rfl⟩ q)
    · exact wpAny_pyIter_ascii ha (pi_one (tk := s.toks) I _ (turn_str _ z t "str_ascii_iterator" (.inl rfl)) ⟨_, Heap.get?_push_size _ rfl, rfl, rfl⟩ q)
def iAny (K : PySem.W.Frag) (tl : TE) : TI := fun σ H R => tl σ H fun x H1 => rWalk K x H1 R
theorem pi_any {tg l : Expr} {tl : TE} (hl : PE X l tl) : PI X tg l (iAny X.K tl) := pi_of it_any hl
end
/-- what is walked over: its data -/
def Opt (H : Hp) (v : V) (ds : List PyData) : Prop :=
  (∃ a xs, v = .ref a ∧ (H a = some (.tup xs) ∨ H a = some (.lst xs)) ∧ TkAll H xs ds) ∨ ∃ cs : List Nat, v = .str (SX.S cs) ∧ ds = cs.map fun c => PyData.str (SX.S [c])
theorem Opt.same {H H' : Hp} {v : V} {ds : List PyData} (s : Same H H') (h : Opt H v ds) : Opt H' v ds := by
  rcases h with ⟨a, xs, e, h, t⟩ | h
  · exact .inl ⟨a, xs, e, h.imp (s _ _) (s _ _), t.same s⟩
  · exact .inr h
structure Goes (J : It) (B : Hp) (ds : List PyData) : Prop where
  stop : ∀ H, Same B H → J.stop ds.length H
  go : ∀ j H, j < ds.length → Same B H → J.go j H
  yld : ∀ j H y Hn d, Same B H → ds[j]? = some d → J.yld j H y Hn → Hn = H ∧ Tk B y d
theorem opt_walk {K : PySem.W.Frag} {B H : Hp} {v : V} {ds : List PyData} {R : It → Hp → Prop} (h : Opt B v ds) (s : Same B H) (q : ∀ J, Goes J B ds → R J H) : rWalk K v H R := by
  rcases h with ⟨a, xs, rfl, h | h, t⟩ | ⟨cs, rfl, rfl⟩
  · have l := t.length
    refine .inl ⟨a, rfl, ⟨_, SqT.of (s _ _ h)⟩, q _ ⟨fun H' s => ⟨xs, SqT.of (s _ _ h), by omega⟩, fun j H' hj s => ⟨xs, xs[j]'(by omega), SqT.of (s _ _ h), List.getElem?_eq_getElem _⟩, fun j H' y Hn d s hd hy => ?_⟩⟩
    obtain ⟨rfl, hy⟩ := hy
    obtain ⟨d', hd', ty⟩ := t.get (hy xs (SqT.of (s _ _ h)))
    rw [hd] at hd'
    cases Option.some.inj hd'
    exact ⟨rfl, ty⟩
  · have l := t.length
    refine .inr (.inl ⟨a, rfl, ⟨_, SqL.of (s _ _ h)⟩, q _ ⟨fun H' s => ⟨xs, SqL.of (s _ _ h), by omega⟩, fun j H' hj s => ⟨xs, xs[j]'(by omega), SqL.of (s _ _ h), List.getElem?_eq_getElem _⟩, fun j H' y Hn d s hd hy => ?_⟩⟩)
    obtain ⟨rfl, hy⟩ := hy
    obtain ⟨d', hd', ty⟩ := t.get (hy xs (SqL.of (s _ _ h)))
    rw [hd] at hd'
    cases Option.some.inj hd'
    exact ⟨rfl, ty⟩
  · refine .inr (.inr ⟨SX.S cs, rfl, q _ ⟨fun H' s => ?_, fun j H' hj s => ?_, fun j H' y Hn d s hd hy => ?_⟩⟩)
    · show (SX.S cs).cps.size ≤ _
      rw [List.length_map]
      show cs.toArray.size ≤ _
      simp
    · show j < (SX.S cs).cps.size
      rw [List.length_map] at hj
      show j < cs.toArray.size
      simpa using hj
    · obtain ⟨rfl, c, hc, rfl⟩ := hy
      have hc' : cs[j]? = some c := by
        have : (SX.S cs).cps = cs.toArray := rfl
        rw [this, List.getElem?_toArray] at hc
        exact hc
      rw [List.getElem?_map, hc'] at hd
      cases Option.some.inj hd
      exact ⟨rfl, .str _⟩
end ItA

section
variable {P : Program} {w : World} {K : PySem.W.Frag} {mg : Str → Option Value} {base : Heap}
/-! ### all choices -/
def stepC {α : Type} (cs : List (List α)) (os : List α) : List (List α) := cs.flatMap fun c => os.map fun o => c ++ [o]
def chs {α : Type} (ls : List (List α)) : List (List α) := ls.foldl stepC [[]]
theorem chs_snoc {α : Type} (ls : List (List α)) (os : List α) : chs (ls ++ [os]) = stepC (chs ls) os := by
  unfold chs
  rw [List.foldl_append]
  rfl
theorem stepC_snoc {α : Type} (cs : List (List α)) (c : List α) (os : List α) : stepC (cs ++ [c]) os = stepC cs os ++ os.map fun o => c ++ [o] := by
  unfold stepC
  rw [List.flatMap_append]
  simp
theorem stepC_len {α : Type} (cs : List (List α)) (os : List α) : (stepC cs os).length = cs.length * os.length := by
  induction cs with
  | nil => simp [stepC]
  | cons c r ih =>
    have : stepC (c :: r) os = (os.map fun o => c ++ [o]) ++ stepC r os := by simp [stepC]
    rw [this, List.length_append, List.length_map, ih, List.length_cons, Nat.succ_mul]
    omega
theorem chs_len {α : Type} (m : Nat) (hm : 1 ≤ m) : ∀ (n : Nat) (ls : List (List α)), ls.length = n → (∀ l ∈ ls, l.length ≤ m) → (chs ls).length ≤ m ^ n := by
  intro n
  induction n with
  | zero =>
    intro ls h _
    cases List.eq_nil_of_length_eq_zero h
    exact Nat.le_refl _
  | succ n ih =>
    intro ls h hl
    have hne : ls ≠ [] := fun z => by rw [z] at h; cases h
    obtain ⟨r, x, rfl⟩ : ∃ r x, ls = r ++ [x] := ⟨ls.dropLast, ls.getLast hne, (List.dropLast_concat_getLast hne).symm⟩
    have hr := ih r (by rw [List.length_append] at h; simpa using h) fun l h' => hl l (List.mem_append_left _ h')
    rw [chs_snoc, stepC_len, Nat.pow_succ]
    exact Nat.mul_le_mul hr (hl x (by simp))
theorem chs_width {α : Type} : ∀ (ls : List (List α)) (c : List α), c ∈ chs ls → c.length = ls.length := by
  have key : ∀ (n : Nat) (ls : List (List α)), ls.length = n → ∀ c ∈ chs ls, c.length = n := by
    intro n
    induction n with
    | zero =>
      intro ls h c hc
      cases List.eq_nil_of_length_eq_zero h
      cases List.mem_singleton.mp hc
      rfl
    | succ n ih =>
      intro ls h c hc
      have hne : ls ≠ [] := fun z => by rw [z] at h; cases h
      obtain ⟨r, x, rfl⟩ : ∃ r x, ls = r ++ [x] := ⟨ls.dropLast, ls.getLast hne, (List.dropLast_concat_getLast hne).symm⟩
      rw [chs_snoc] at hc
      obtain ⟨c0, h0, hc⟩ := List.mem_flatMap.mp hc
      obtain ⟨o, _, rfl⟩ := List.mem_map.mp hc
      rw [List.length_append, ih r (by rw [List.length_append] at h; simpa using h) c0 h0]
      rfl
  exact fun ls c h => key _ ls rfl c h
theorem chs_map {α β : Type} (f : α → β) : ∀ (n : Nat) (ls : List (List α)), ls.length = n → chs (ls.map (List.map f)) = (chs ls).map (List.map f) := by
  intro n
  induction n with
  | zero =>
    intro ls h
    cases List.eq_nil_of_length_eq_zero h
    rfl
  | succ n ih =>
    intro ls h
    have hne : ls ≠ [] := fun z => by rw [z] at h; cases h
    obtain ⟨r, x, rfl⟩ : ∃ r x, ls = r ++ [x] := ⟨ls.dropLast, ls.getLast hne, (List.dropLast_concat_getLast hne).symm⟩
    rw [List.map_append, List.map_singleton, chs_snoc, chs_snoc, ih r (by rw [List.length_append] at h; simpa using h)]
    unfold stepC
    rw [List.flatMap_map, List.map_flatMap]
    congr 1
    funext c
    simp
def OptAll (H : Hp) (xs : List V) (os : List (List PyData)) : Prop := xs.length = os.length ∧ ∀ (i : Nat) (v : V) (o : List PyData), xs[i]? = some v → os[i]? = some o → ItA.Opt H v o
def sp_choices_of (K : PySem.W.Frag) : Sp := fun vs H Q _ => ∃ (la : Addr) (xs : List V) (os : List (List PyData)), vs = [.ref la] ∧ H la = some (.lst xs) ∧ OptAll H xs os ∧ os.length ≤ 8 ∧ (∀ i, i ≤ os.length → (chs (os.take i)).length ≤ 512) ∧ (∀ o ∈ os, o.length ≤ 16) ∧ ∀ r H', Same H H' → Tk H' (.ref r) (.tuple ((chs os).map PyData.tuple)) → Q (.ref r) H'
theorem ok_choices_of (T : Tx K mg) : FnOk P w K mg base CX0 1 T.f_choices_of T.fd_choices_of ["lists"] (sp_choices_of K) := by
  refine T.F_choices_of.ok sc_choices_of (fun vs H Q E h => ?_) (fun cdv A outer s H vs Q E hr h => ?_)
  · obtain ⟨la, xs, os, rfl, _⟩ := h
    rfl
  · obtain ⟨la, xs, os, rfl, hla, ⟨lxo, tk⟩, l8, big, o8, q⟩ := h
    refine ⟨_, (pss_cons (ps_set (i := 1) sc_choices_of.nd rfl (by first | exact .inl rfl | exact .inr rfl) (pe_lst (pa_cons (pe_tup pa_nil) pa_nil))) (pss_cons (ps_for PassesOwn.never rfl (pi_list (pv 0)) (pg_name (i := 2) sc_choices_of.nd rfl (by first | exact .inl rfl | exact .inr rfl)) (pss_one (ps_setLc2 (i := 1) (own := [("choice", 3), ("option", 4)]) (vs1 := [4]) (by rfl) sc_choices_of.nd rfl rfl (sw_true rfl rfl rfl (by decide +kernel)) (pi_list (pv 1)) (blkOk_by (own := [("choice", 3), ("option", 4)]) (N := ["lists", "choices", "options", "choice", "option"]) (sc := defScope s_choices_of) (by decide +kernel)) (by decide) (fun _ _ _ _ _ => (pg_name (i := 3) sc_choices_of.nd rfl (by first | exact .inl rfl | exact .inr rfl))) (fun _ _ _ _ _ => pts_nil) (fun _ _ _ _ _ => (show PI _ _ _ (ItA.iAny K _) from ItA.pi_any (pv 2))) (fun _ _ _ _ _ => (pg_name (i := 4) sc_choices_of.nd rfl (by first | exact .inl rfl | exact .inr rfl))) (fun _ _ _ _ _ => pts_nil) (fun _ _ _ _ _ => (pe_op (show OpR _ _ (rCatA K) from op_catA) (pv 3) (pe_tup (pa_cons (pv 4) pa_nil))))))) (pss_one (ps_ret (pe_callTy call_tuple_of (by rfl) T.m_tuple (by decide +kernel) (pa_cons (pv 1) pa_nil)))))), ?_⟩
    refine ⟨Nat.zero_le _, fun t0 n0 => ⟨sl1, fun c0 nc0 => ?_⟩⟩
    refine ⟨.ref la, rfl, la, rfl, ⟨_, SqL.of (same_upd nc0 _ _ (same_upd n0 _ _ hla))⟩, for_list (K := K) (a := la) (xs := xs) (fun i σ H' => ∃ ca y2, σ = [some (.ref la), some (.ref ca), y2, none, none] ∧ Same H H' ∧ Tk H' (.ref ca) (.list ((chs (os.take i)).map PyData.tuple)))
      ⟨c0, none, rfl, (same_upd n0).trans (same_upd nc0), .lst upd_same (.cons (.tup (same_upd nc0 _ _ upd_same) .nil) .nil)⟩ (fun i σ H' _ ⟨_, _, _, z, _⟩ => SqL.of (z _ _ hla)) ?_ ?_⟩
    · rintro i x0 σ H1 hx ⟨ca, y2, rfl, s1, tc⟩
      have hix := (List.getElem?_eq_some_iff.mp hx).1
      obtain ⟨op, hop⟩ : ∃ op, os[i]? = some op := ⟨_, List.getElem?_eq_getElem (by omega)⟩
      have tx := tk i x0 op hx hop
      obtain ⟨ca', cs, e, hca, tcs⟩ := tc.lst_inv
      cases e
      have hi : i < os.length := (List.getElem?_eq_some_iff.mp hop).1
      have o8' := o8 op (List.mem_of_getElem? hop)
      have ytake : chs (os.take (i + 1)) = stepC (chs (os.take i)) op := by
        rw [List.take_add_one, hop]
        exact chs_snoc _ _
      have bigN := big (i + 1) hi
      rw [ytake] at bigN
      refine ⟨.ref ca, rfl, ca, rfl, ⟨_, SqL.of hca⟩, fun D nD => ?_⟩
      have lcs : cs.length = (chs (os.take i)).length := by rw [tcs.length, List.length_map]
      -- both walks
      refine ⟨fun k m H' => m = cs.length - k ∧ k ≤ cs.length ∧ Same H1 (hd1 D H') ∧ ∃ acc, H' D = some (.lst acc) ∧ TkAll (hd1 D H') acc ((stepC ((chs (os.take i)).take k) op).map PyData.tuple), ⟨_, rfl, Nat.zero_le _, hd1_of (same_upd nD) nD, [], upd_same, .nil⟩, ?_⟩
      rintro k m H2 ⟨rfl, hk, s2, acc, hD, ta⟩
      have hca2 := hd1_le _ _ (s2 _ _ hca)
      by_cases hlt : k < cs.length
      · obtain ⟨c, hc⟩ : ∃ c, (chs (os.take i))[k]? = some c := ⟨_, List.getElem?_eq_getElem (by omega)⟩
        have htk : (chs (os.take i)).take (k + 1) = (chs (os.take i)).take k ++ [c] := by
          rw [List.take_add_one, hc]
          rfl
        refine .inr ⟨⟨cs, cs[k], SqL.of hca2, List.getElem?_eq_getElem hlt⟩, fun H' => Same H1 (hd1 D H') ∧ ∃ acc, H' D = some (.lst acc) ∧ TkAll (hd1 D H') acc ((stepC ((chs (os.take i)).take (k + 1)) op).map PyData.tuple), fun σ' ⟨z1, z2⟩ => ⟨cs.length - (k + 1), by omega, rfl, by omega, z1, z2⟩, fun x H' hy => ?_⟩
        obtain ⟨rfl, hy⟩ := hy
        have hx2 : cs[k]? = some x := hy cs (SqL.of hca2)
        obtain ⟨dc, hdc, tx2⟩ := tcs.get hx2
        obtain rfl : dc = .tuple c := by
          rw [List.getElem?_map, hc] at hdc
          exact (Option.some.inj hdc).symm
        obtain ⟨xa, zs, rfl, hxa, tz⟩ := tx2.tup_inv
        refine ⟨rfl, ?_⟩
        have s02 : Same H _ := fun b o e => hd1_le _ _ (s2 _ _ (s1 _ _ e))
        refine ⟨x0, rfl, ItA.opt_walk tx s02 fun J w => ?_⟩
        refine ⟨fun j n H' => n = op.length - j ∧ j ≤ op.length ∧ Same H1 (hd1 D H') ∧ ∃ acc, H' D = some (.lst acc) ∧ TkAll (hd1 D H') acc ((stepC ((chs (os.take i)).take k) op ++ (op.take j).map fun o => c ++ [o]).map PyData.tuple), ⟨_, rfl, Nat.zero_le _, s2, acc, hD, by rw [List.take_zero, List.map_nil, List.append_nil]; exact ta⟩, ?_⟩
        rintro j n H3 ⟨rfl, hj, s3, acc3, hD3, ta3⟩
        have s03 : Same H H3 := fun b o e => hd1_le _ _ (s3 _ _ (s1 _ _ e))
        by_cases hjl : j < op.length
        · obtain ⟨ov, hov⟩ : ∃ ov, op[j]? = some ov := ⟨_, List.getElem?_eq_getElem (by omega)⟩
          refine .inr ⟨w.go j H3 hjl s03, fun H' => Same H1 (hd1 D H') ∧ ∃ acc, H' D = some (.lst acc) ∧ TkAll (hd1 D H') acc ((stepC ((chs (os.take i)).take k) op ++ (op.take (j + 1)).map fun o => c ++ [o]).map PyData.tuple), fun σ' ⟨z1, z2⟩ => ⟨op.length - (j + 1), by omega, rfl, by omega, z1, z2⟩, fun y Hn hy => ?_⟩
          obtain ⟨rfl, ty2⟩ := w.yld j H3 y Hn ov s03 hov hy
          refine ⟨rfl, ?_⟩
          -- choice + (option,)
          have hxa3 := hd1_le _ _ (s3 _ _ hxa)
          refine ⟨.ref xa, rfl, y, rfl, sl1, fun t nt => ?_⟩
          have st := same_upd (o := .tup [y]) nt
          have ntD : t ≠ D := (ne_of_none hD3 nt).symm
          have sD := hd1_same (p := D) st
          have ty3 : Tk (hd1 D Hn) y ov := ty2.same ((s1.trans s3))
          have tz3 : TkAll (hd1 D Hn) zs c := tz.same s3
          have lacc : acc3.length < sizeLine := by
            have h1 := ta3.length
            rw [List.length_map, List.length_append, stepC_len, List.length_map, List.length_take, List.length_take] at h1
            have h2 : min k (chs (os.take i)).length * op.length ≤ 512 * 16 := Nat.mul_le_mul (by have := big i (by omega); omega) o8'
            have : sizeLine = 16777216 := by decide
            omega
          have done : ∀ (H4 : Hp) (p : Addr), Same (hd1 D Hn) (hd1 D H4) → H4 D = some (.lst acc3) → p ≠ D → H4 p = some (.tup (zs ++ [y])) → TkAll (hd1 D H4) zs c → Tk (hd1 D H4) y ov → ∃ acc, H4 D = some (.lst acc) ∧ acc.length < sizeLine ∧ Same H1 (hd1 D (upd H4 D (.lst (acc ++ [.ref p])))) ∧ ∃ acc', (upd H4 D (.lst (acc ++ [.ref p]))) D = some (.lst acc') ∧ TkAll (hd1 D (upd H4 D (.lst (acc ++ [.ref p])))) acc' ((stepC ((chs (os.take i)).take k) op ++ (op.take (j + 1)).map fun o => c ++ [o]).map PyData.tuple) := fun H4 p s4 h4 np hp tzz tyy => by
            refine ⟨acc3, h4, lacc, (s3.trans s4).trans hd1_upd, acc3 ++ [.ref p], upd_same, ?_⟩
            rw [List.take_add_one, hov]
            show TkAll _ _ ((_ ++ (op.take j ++ [ov]).map _).map _)
            rw [List.map_append (l₁ := op.take j), ← List.append_assoc, List.map_append]
            refine ((ta3.same s4).same hd1_upd).append (.cons (.tup (xs := zs ++ [y]) ?_ ((tzz.same hd1_upd).append (.cons (tyy.same hd1_upd) .nil))) .nil)
            rw [hd1_at np, upd_ne np]
            exact hp
          have lz : zs.length + 1 ≤ sizeLine := by
            have h1 := (Tk.tup hxa tz)
            have h2 := tz.length
            have h3 : c.length ≤ 8 := by
              have := chs_width (os.take i) c (List.mem_of_getElem? hc)
              rw [this, List.length_take]
              omega
            have : sizeLine = 16777216 := by decide
            omega
          refine ⟨xa, t, zs, [y], rfl, rfl, SqT.of (st _ _ hxa3), SqT.of upd_same, lz, fun ez => ?_, (fun _ z => by cases z), fun nz _ p np => ?_⟩
          · subst ez
            exact done _ t sD (st _ _ hD3) ntD upd_same (tz3.same sD) (ty3.same sD)
          · have sp := same_upd (o := .tup (zs ++ [y])) np
            have sDp := hd1_same (p := D) sp
            have npD : p ≠ D := (ne_of_none (st _ _ hD3) np).symm
            exact done _ p (sD.trans sDp) (sp _ _ (st _ _ hD3)) npD upd_same ((tz3.same sD).same sDp) ((ty3.same sD).same sDp)
        · have ej : j = op.length := by omega
          refine .inl ⟨by rw [ej]; exact w.stop H3 s03, s3, acc3, hD3, ?_⟩
          rw [htk, stepC_snoc]
          rw [ej, List.take_length] at ta3
          exact ta3
      · have ek : k = cs.length := by omega
        refine .inl ⟨⟨cs, SqL.of hca2, by omega⟩, ?_⟩
        refine ⟨D, _, rfl, fun b o e => hd1_le _ _ (s2 _ _ (s1 _ _ e)), ?_⟩
        rw [ytake]
        refine .lst hD ?_
        rw [ek, lcs, List.take_length] at ta
        exact ta.same hd1_le
    · rintro σ H1 ⟨ca, y2, rfl, s1, tc⟩
      rw [lxo, List.take_length] at tc
      obtain ⟨ca', cs, e, hca, tcs⟩ := tc.lst_inv
      cases e
      refine ⟨.ref ca, rfl, ca, cs, rfl, .inl ⟨SqL.of hca, fun r nr => ?_⟩⟩
      exact q r _ (s1.trans (same_upd nr)) (.tup upd_same (tcs.same (same_upd nr)))

def rowsI (m : Nat) : List (List Int) := chs (List.replicate m [0, 1])
theorem rep_ref (x : V) : ∀ k : Nat, (List.replicate k [x]).flatten = List.replicate k x
  | 0 => rfl
  | k + 1 => by rw [List.replicate_succ, List.flatten_cons, rep_ref x k]; rfl
theorem TkAll.rep {H : Hp} {v : V} {d : PyData} (h : Tk H v d) : ∀ k : Nat, TkAll H (List.replicate k v) (List.replicate k d)
  | 0 => .nil
  | k + 1 => .cons h (TkAll.rep h k)
theorem rows_data (m : Nat) : (chs (List.replicate m [PyData.int 0, PyData.int 1])).map PyData.tuple = (rowsI m).map rowD := by
  have e : List.replicate m [PyData.int 0, PyData.int 1] = (List.replicate m [(0 : Int), 1]).map (List.map PyData.int) := by rw [List.map_replicate]; rfl
  rw [e, chs_map PyData.int _ _ rfl, List.map_map]
  rfl
def sp_rows_of (K : PySem.W.Frag) : Sp := fun vs H Q _ => ∃ m : Nat, vs = [.int m] ∧ 1 ≤ m ∧ m ≤ 6 ∧ ∀ r H', Same H H' → Tk H' (.ref r) (.tuple ((rowsI m).map rowD)) → Q (.ref r) H'
theorem ok_rows_of (T : Tx K mg) : FnOk P w K mg base CX0 2 T.f_rows_of T.fd_rows_of ["many"] (sp_rows_of K) := by
  refine T.F_rows_of.ok sc_rows_of (fun vs H Q E h => ?_) (fun cdv A outer s H vs Q E hr h => ?_)
  · obtain ⟨m, rfl, _⟩ := h
    rfl
  · obtain ⟨m, rfl, m1, m6, q⟩ := h
    refine ⟨_, (pss_one (ps_ret (pe_call (ok_choices_of T) (hr.mono (by decide)) (by rfl) T.g_choices_of T.F_choices_of.kp T.b_choices_of .nil pass0 (pa_cons (pe_op op_rep (pe_lst (pa_cons (pe_tup (pa_cons pe_int (pa_cons pe_int pa_nil))) pa_nil)) (pv 0)) pa_nil)))), ?_⟩
    refine ⟨sl2, fun t nt => ⟨sl1, fun p np => ?_⟩⟩
    have s1 := same_upd (o := HO.tup [V.int 0, V.int 1]) nt
    have s2 := same_upd (o := HO.lst [V.ref t]) np
    refine ⟨.int m, rfl, p, m, _, rfl, rfl, upd_same, by omega, by omega, ?_, fun l nl => ?_⟩
    · show 1 * (m : Int).toNat ≤ sizeLine
      exact Nat.le_trans (show _ ≤ 8 by omega) (by decide)
    rw [rep_ref, show (m : Int).toNat = m by omega]
    have s3 := same_upd (o := HO.lst (List.replicate m (V.ref t))) nl
    have ht := s3 _ _ (s2 _ _ (show (upd H t (.tup [V.int 0, V.int 1])) t = _ from upd_same))
    refine ⟨l, _, List.replicate m [.int 0, .int 1], rfl, upd_same, ⟨by rw [List.length_replicate, List.length_replicate], fun i v o hv ho => ?_⟩, by rw [List.length_replicate]; omega, fun i hi => ?_, fun o ho => ?_, fun r H' s4 tr => ?_⟩
    · rw [(List.mem_replicate.mp (List.mem_of_getElem? hv)).2, (List.mem_replicate.mp (List.mem_of_getElem? ho)).2]
      exact .inl ⟨t, _, rfl, .inl ht, .cons (.int 0) (.cons (.int 1) .nil)⟩
    · rw [List.length_replicate] at hi
      have h1 := chs_len 2 (by decide) i ((List.replicate m [PyData.int 0, PyData.int 1]).take i) (by rw [List.length_take, List.length_replicate]; omega) fun l hl => by rw [(List.mem_replicate.mp (List.mem_of_mem_take hl)).2]; exact Nat.le_refl _
      have h2 : 2 ^ i ≤ 2 ^ 8 := Nat.pow_le_pow_right (by decide) (by omega)
      omega
    · rw [(List.mem_replicate.mp ho).2]
      decide
    · rw [rows_data] at tr
      exact q r H' (((s1.trans s2).trans s3).trans s4) tr
/-! ### counted up -/
def incr : List Int → List Int
  | [] => []
  | x :: r => if r.all (fun y => decide (y = 1)) = true then 1 :: r.map (fun _ => 0) else x :: incr r
theorem rows_step : ((List.range 7).all fun m => (List.range (2 ^ m - 1)).all fun i => decide ((rowsI m)[i + 1]? = ((rowsI m)[i]?).map incr) && ((rowsI m)[i]?).any (fun r => decide ((0 : Int) ∈ r))) = true := by decide +kernel
theorem rows_ends : ((List.range 7).all fun m => decide ((rowsI m).length = 2 ^ m) && (decide ((rowsI m)[0]? = some (List.replicate m 0)) && decide ((rowsI m)[2 ^ m - 1]? = some (List.replicate m 1)))) = true := by decide +kernel
theorem rows_len {m i : Nat} {r : List Int} (h : (rowsI m)[i]? = some r) : r.length = m := by
  have := chs_width (List.replicate m [(0 : Int), 1]) r (List.mem_of_getElem? h)
  rw [List.length_replicate] at this
  exact this

end
end Gk

--@NEST
set_option Elab.async false
set_option linter.all false
set_option maxRecDepth 100000
set_option maxHeartbeats 1000000
set_option pp.maxSteps 1500
set_option pp.deepTerms false
namespace Gk
open PySem PySem.Spec PyProof.Rows L2
section
variable {P : Program} {w : World} {K : PySem.W.Frag} {mg : Str → Option Value} {base : Heap}
/-! ### products: the program's own -/
theorem joinOk_ones (cs : List Nat) (h : cs.length ≤ 64) : JoinOk (Str.ofString "") (cs.map one) = true := by
  have key : ∀ (cs : List Nat) (n : Nat), (cs.map one).foldl (fun a t => a + t.length + (Str.ofString "").length) n = n + cs.length := by
    intro cs
    induction cs with
    | nil => intro n; rfl
    | cons c r ih =>
      intro n
      rw [List.map_cons, List.foldl_cons, ih, List.length_cons]
      show n + 1 + 0 + r.length = n + (r.length + 1)
      omega
  unfold JoinOk
  rw [List.foldl_toArray', key]
  · unfold Builtin.Str.tooLong
    rw [decide_eq_false (show ¬ (0 + cs.length > sizeLine) by rw [sizeLine_eq]; omega)]
    rfl
  · simp
def sp_show_row (T : Tx K mg) : Sp := fun vs H Q _ => ∃ (a : Addr) (r : List Int), vs = [.ref a] ∧ H a = some (.tup (r.map V.int)) ∧ Row01' r ∧ r.length ≤ 6 ∧ Tabs H T.tabs ∧ ∀ H', Gr H H' → Q (.str (SX.S (rowS r))) H'
theorem ok_show_row (T : Tx K mg) (B : Tb base T) : FnOk P w K mg base CX0 2 T.f_show_row T.fd_show_row ["row"] (sp_show_row T) := by
  refine okC T.F_show_row sc_show_row (fun vs H Q E h => ?_) (fun A outer s H vs Q E hr h => ?_)
  · obtain ⟨a, r, rfl, _⟩ := h
    rfl
  · obtain ⟨a, r, rfl, ha, ok, l6, tabs, q⟩ := h
    refine ⟨_, (pss_one (ps_ret (GxJ.pe_joinX (own := [("worth", 1)]) (k := 0) (hr.mono (by decide)) rfl sc_show_row.nd pe_str B.TB_show_row T.cd_show_row rfl rfl (blkOk_by (own := [("worth", 1)]) (N := ["row", "worth"]) (sc := defScope s_show_row) (by decide +kernel)) (pi_tup (pv 0)) (fun _ _ _ _ _ c1 P1 _ hr gd => (pg_name (i := 1) sc_show_row.nd rfl (by first | exact .inl rfl | exact .inr rfl))) (fun _ _ _ _ _ c1 P1 _ hr gd => pts_nil) (fun _ _ _ _ _ c1 P1 _ hr gd => (pe_callTy call_str_int (by rfl) T.m_str (by decide +kernel) (pa_cons (pv 1) pa_nil))) (fun _ => rfl)))), ?_⟩
    have tab : GzN.TabG H T.P_show_row := tabs _ (by simp [Tx.tabs])
    refine ⟨_, rfl, .ref a, rfl, a, rfl, ⟨_, SqT.of ha⟩, tab, fun H2 tb2 => ?_⟩
    have g2 := Gr.tab tab tb2
    refine gx_tup (K := K) (a := a) (xs := r.map V.int) (fun j ys H' => H' = H2 ∧ ys = ((rowS (r.take j)).map one).map V.str) ⟨rfl, rfl⟩ (fun j ys H' _ ⟨e, _⟩ => by rw [e]; exact SqT.of (g2.tup ha)) ?_ ?_
    · rintro j x ys H' hx ⟨rfl, rfl⟩
      obtain ⟨b, hb, rfl⟩ : ∃ b, r[j]? = some b ∧ x = V.int b := by
        rw [List.getElem?_map] at hx
        cases hz : r[j]? with
        | none => rw [hz] at hx; cases hx
        | some u => rw [hz] at hx; exact ⟨u, rfl, (Option.some.inj hx).symm⟩
      have hb01 := ok b (List.mem_of_getElem? hb)
      refine ⟨rfl, .int b, rfl, b, rfl, by rcases hb01 with rfl | rfl <;> decide, ?_⟩
      rw [str01 hb01]
      refine ⟨?_, rfl, ?_⟩
      · unfold rowS
        rw [List.length_map, List.length_map, List.length_map, List.length_take]
        exact Nat.lt_of_lt_of_le (show _ < 64 by omega) (by decide)
      · unfold rowS
        rw [List.take_add_one, hb]
        simp
    · rintro ys H' ⟨rfl, rfl⟩
      rw [List.length_map, List.take_length]
      refine ⟨(rowS r).map one, rfl, joinOk_ones _ (by unfold rowS; rw [List.length_map]; omega), ?_⟩
      rw [join_one]
      exact q _ g2
theorem at_tx {H : Hp} (p : List Nat) : (ZpG.ZS.tx (SX.S p)).at K H (p.map fun c => V.str (one c)) := (S_list p).symm
def sp_holds_all (T : Tx K mg) : Sp := fun vs H Q _ => ∃ (p q' : List Nat), vs = [.str (SX.S p), .str (SX.S q')] ∧ p.length = q'.length ∧ Tabs H T.tabs ∧ ∀ H', Gr H H' → Q (.bl (hall p q')) H'
theorem ok_holds_all (T : Tx K mg) (B : Tb base T) : FnOk P w K mg base CX0 2 T.f_holds_all T.fd_holds_all ["product", "other"] (sp_holds_all T) := by
  refine okC T.F_holds_all sc_holds_all (fun vs H Q E h => ?_) (fun A outer s H vs Q E hr h => ?_)
  · obtain ⟨p, q', rfl, _⟩ := h
    rfl
  · obtain ⟨p, q', rfl, hl, tabs, q⟩ := h
    refine ⟨_, (pss_one (ps_ret (pe_allX (own := [("sign", 2), ("held", 3)]) (k := 0) (hr.mono (by decide)) rfl sc_holds_all.nd (by rfl) T.m_all (by decide +kernel) B.TB_holds_all T.cd_holds_all rfl rfl (blkOk_by (own := [("sign", 2), ("held", 3)]) (N := ["product", "other", "sign", "held"]) (sc := defScope s_holds_all) (by decide +kernel)) (ZpG.pi_zip2 (by rfl) T.m_zip (pa_cons (pv 0) (pa_cons (pv 1) pa_nil))) (fun _ _ _ _ _ c1 P1 _ hr gd => (show PG _ _ (gTup K 2 _) from pg_tup rfl (pgs_cons (pg_name (i := 2) sc_holds_all.nd rfl (by first | exact .inl rfl | exact .inr rfl)) (pgs_cons (pg_name (i := 3) sc_holds_all.nd rfl (by first | exact .inl rfl | exact .inr rfl)) pgs_nil)))) (fun _ _ _ _ _ c1 P1 _ hr gd => pts_nil) (fun _ _ _ _ _ c1 P1 _ hr gd => (pe_cmpR (show OpR _ _ (rIn K false) from op_in_seq) (pv 2) (pe_tup (pa_cons pe_str (pa_cons (pv 3) pa_nil))) rfl)) (fun _ => rfl)))), ?_⟩
    have tab : GzN.TabG H T.P_holds_all := tabs _ (by simp [Tx.tabs])
    refine ⟨.str (SX.S p), rfl, .str (SX.S q'), rfl, .tx (SX.S p), .tx (SX.S q'), _, _, rfl, at_tx p, at_tx q', tab, fun H2 tb2 => ?_⟩
    have g2 := Gr.tab tab tb2
    refine ZpG.gx_zip2 (K := K) (n := p.length) (xs1 := p.map fun c => V.str (one c)) (xs2 := q'.map fun c => V.str (one c)) (by rw [List.length_map]) (by rw [List.length_map, hl]) (fun j _ H' => Gr H H' ∧ ((p.zip q').take j).all (fun z => decide (z.1 = 45) || decide (z.1 = z.2)) = true) ⟨g2, rfl⟩ (fun j _ H' _ _ => ⟨at_tx p, at_tx q'⟩) ?_ ?_
    · rintro j x y t _ H' hx hy nt ⟨g, ih⟩
      obtain ⟨a, ha, rfl⟩ := one_at hx
      obtain ⟨b, hb, rfl⟩ := one_at hy
      have g' := g.trans (Gr.none (o := .tup [V.str (one a), V.str (one b)]) nt)
      have ez := zip_take_succ ha hb
      refine ⟨t, _, rfl, SqT.of upd_same, rfl, _, _, rfl, _, _, rfl, rfl, rfl, ?_⟩
      refine ⟨.str (one a), rfl, .str (one b), rfl, sl2, fun u nu => ?_⟩
      have g'' := g'.trans (Gr.none (o := .tup [V.str (Str.ofString "-"), V.str (one b)]) nu)
      refine ⟨u, _, rfl, .inr (SqT.of upd_same), rfl, rfl, ?_⟩
      have ev : (if false = true then !inV (.str (one a)) [V.str (Str.ofString "-"), V.str (one b)] else inV (.str (one a)) [V.str (Str.ofString "-"), V.str (one b)]) = (decide (a = 45) || decide (a = b)) := by
        show (eqV (.str (Str.ofString "-")) (.str (one a)) || (eqV (.str (one b)) (.str (one a)) || false)) = _
        rw [dash_S, eqV_one, eqV_one, Bool.or_false]
        congr 1
        · exact decide_eq_decide.mpr ⟨Eq.symm, Eq.symm⟩
        · exact decide_eq_decide.mpr ⟨Eq.symm, Eq.symm⟩
      refine ⟨_, rfl, ?_⟩
      rw [ev]
      refine ite2 (fun e => ⟨g'', ?_⟩) (fun e => ?_)
      · rw [ez, List.all_append, ih]
        simpa using e
      · have : hall p q' = false := all_stop (f := fun z : Nat × Nat => decide (z.1 = 45) || decide (z.1 = z.2)) ez (Bool.eq_false_iff.mpr e)
        have z := q _ g''
        rw [this] at z
        exact z
    · rintro _ H' ⟨g, ih⟩
      have : (p.zip q').length ≤ p.length := by rw [List.length_zip]; omega
      rw [List.take_of_length_le this] at ih
      have z := q H' g
      unfold hall at z
      rw [ih] at z
      exact z
def sp_meet (T : Tx K mg) : Sp := fun vs H Q _ => ∃ (p q' : List Nat), vs = [.str (SX.S p), .str (SX.S q')] ∧ p.length = q'.length ∧ Tabs H T.tabs ∧ ∀ H', Gr H H' → Q (.bl (meetM p q')) H'
theorem ok_meet (T : Tx K mg) (B : Tb base T) : FnOk P w K mg base CX0 2 T.f_meet T.fd_meet ["product", "other"] (sp_meet T) := by
  refine okC T.F_meet sc_meet (fun vs H Q E h => ?_) (fun A outer s H vs Q E hr h => ?_)
  · obtain ⟨p, q', rfl, _⟩ := h
    rfl
  · obtain ⟨p, q', rfl, hl, tabs, q⟩ := h
    refine ⟨_, (pss_one (ps_ret (pe_allX (own := [("one", 2), ("two", 3)]) (k := 0) (hr.mono (by decide)) rfl sc_meet.nd (by rfl) T.m_all (by decide +kernel) B.TB_meet T.cd_meet rfl rfl (blkOk_by (own := [("one", 2), ("two", 3)]) (N := ["product", "other", "one", "two"]) (sc := defScope s_meet) (by decide +kernel)) (ZpG.pi_zip2 (by rfl) T.m_zip (pa_cons (pv 0) (pa_cons (pv 1) pa_nil))) (fun _ _ _ _ _ c1 P1 _ hr gd => (show PG _ _ (gTup K 2 _) from pg_tup rfl (pgs_cons (pg_name (i := 2) sc_meet.nd rfl (by first | exact .inl rfl | exact .inr rfl)) (pgs_cons (pg_name (i := 3) sc_meet.nd rfl (by first | exact .inl rfl | exact .inr rfl)) pgs_nil)))) (fun _ _ _ _ _ c1 P1 _ hr gd => pts_nil) (fun _ _ _ _ _ c1 P1 _ hr gd => (pe_or (pe_cmpR (show OpR _ _ (rIn K false) from op_in_seq) pe_str (pe_tup (pa_cons (pv 2) (pa_cons (pv 3) pa_nil))) rfl) (pe_one (pe_cmpR op_eq (pv 2) (pv 3) (nomark _))))) (fun _ => rfl)))), ?_⟩
    have tab : GzN.TabG H T.P_meet := tabs _ (by simp [Tx.tabs])
    refine ⟨.str (SX.S p), rfl, .str (SX.S q'), rfl, .tx (SX.S p), .tx (SX.S q'), _, _, rfl, at_tx p, at_tx q', tab, fun H2 tb2 => ?_⟩
    have g2 := Gr.tab tab tb2
    refine ZpG.gx_zip2 (K := K) (n := p.length) (xs1 := p.map fun c => V.str (one c)) (xs2 := q'.map fun c => V.str (one c)) (by rw [List.length_map]) (by rw [List.length_map, hl]) (fun j _ H' => Gr H H' ∧ ((p.zip q').take j).all (fun z => decide (z.1 = 45) || decide (z.2 = 45) || decide (z.1 = z.2)) = true) ⟨g2, rfl⟩ (fun j _ H' _ _ => ⟨at_tx p, at_tx q'⟩) ?_ ?_
    · rintro j x y t _ H' hx hy nt ⟨g, ih⟩
      obtain ⟨a, ha, rfl⟩ := one_at hx
      obtain ⟨b, hb, rfl⟩ := one_at hy
      have g' := g.trans (Gr.none (o := .tup [V.str (one a), V.str (one b)]) nt)
      have ez := zip_take_succ ha hb
      refine ⟨t, _, rfl, SqT.of upd_same, rfl, _, _, rfl, _, _, rfl, rfl, rfl, ?_⟩
      refine ⟨.str (one a), rfl, .str (one b), rfl, sl2, fun u nu => ?_⟩
      have g'' := g'.trans (Gr.none (o := .tup [V.str (one a), V.str (one b)]) nu)
      have fin : ∀ c : Bool, c = (decide (a = 45) || decide (b = 45) || decide (a = b)) → ∃ b_1, V.bl c = V.bl b_1 ∧ if b_1 = true then Gr H (upd (upd H' t (.tup [V.str (one a), V.str (one b)])) u (.tup [V.str (one a), V.str (one b)])) ∧ ((p.zip q').take (j + 1)).all (fun z => decide (z.1 = 45) || decide (z.2 = 45) || decide (z.1 = z.2)) = true else Q (.bl false) (upd (upd H' t (.tup [V.str (one a), V.str (one b)])) u (.tup [V.str (one a), V.str (one b)])) := fun c hc => by
        refine ⟨c, rfl, ?_⟩
        refine ite2 (fun e => ⟨g'', ?_⟩) (fun e => ?_)
        · rw [ez, List.all_append, ih]
          rw [hc] at e
          simpa using e
        · rw [hc] at e
          have : meetM p q' = false := all_stop (f := fun z : Nat × Nat => decide (z.1 = 45) || decide (z.2 = 45) || decide (z.1 = z.2)) ez (Bool.eq_false_iff.mpr e)
          have z := q _ g''
          rw [this] at z
          exact z
      have ev : (if false = true then !inV (.str (Str.ofString "-")) [V.str (one a), V.str (one b)] else inV (.str (Str.ofString "-")) [V.str (one a), V.str (one b)]) = (decide (a = 45) || decide (b = 45)) := by
        show (eqV (.str (one a)) (.str (Str.ofString "-")) || (eqV (.str (one b)) (.str (Str.ofString "-")) || false)) = _
        rw [dash_S, eqV_one, eqV_one, Bool.or_false]
      refine ⟨u, _, rfl, .inr (SqT.of upd_same), rfl, rfl, _, rfl, ?_⟩
      rw [ev]
      refine ite2 (fun e => ?_) (fun e => ?_)
      · refine fin _ ?_
        rw [e]
        rfl
      · refine ⟨.str (one a), rfl, .str (one b), rfl, rfl, fin _ ?_⟩
        rw [Bool.eq_false_iff.mpr e, Bool.false_or, str_dec]
        exact one_inj
    · rintro _ H' ⟨g, ih⟩
      have : (p.zip q').length ≤ p.length := by rw [List.length_zip]; omega
      rw [List.take_of_length_le this] at ih
      have z := q H' g
      unfold meetM at z
      rw [ih] at z
      exact z

def sp_holds_row (T : Tx K mg) : Sp := fun vs H Q _ => ∃ (p : List Nat) (a : Addr) (r : List Int), vs = [.str (SX.S p), .ref a] ∧ H a = some (.tup (r.map V.int)) ∧ Row01' r ∧ p.length = r.length ∧ r.length ≤ 6 ∧ Tabs H T.tabs ∧ ∀ H', Gr H H' → Q (.bl (hrow p r)) H'
theorem ok_holds_row (T : Tx K mg) (B : Tb base T) : FnOk P w K mg base CX0 3 T.f_holds_row T.fd_holds_row ["product", "row"] (sp_holds_row T) := by
  refine T.F_holds_row.ok sc_holds_row (fun vs H Q E h => ?_) (fun cdv A outer s H vs Q E hr h => ?_)
  · obtain ⟨p, a, r, rfl, _⟩ := h
    rfl
  · obtain ⟨p, a, r, rfl, ha, ok, hl, l6, tabs, q⟩ := h
    refine ⟨_, (pss_one (ps_ret (pe_call (ok_holds_all T B) (hr.mono (by decide)) (by rfl) T.g_holds_all T.F_holds_all.kp T.b_holds_all .nil pass0 (pa_cons (pv 0) (pa_cons (pe_call (ok_show_row T B) (hr.mono (by decide)) (by rfl) T.g_show_row T.F_show_row.kp T.b_show_row .nil pass0 (pa_cons (pv 1) pa_nil)) pa_nil))))), ?_⟩
    refine ⟨.str (SX.S p), rfl, .ref a, rfl, a, r, rfl, ha, ok, l6, tabs, fun H1 g1 => ?_⟩
    exact ⟨p, rowS r, rfl, by unfold rowS; rw [List.length_map]; exact hl, g1.tabs tabs, fun H2 g2 => q H2 (g1.trans g2)⟩
def sp_cube_of (T : Tx K mg) : Sp := fun vs H Q _ => ∃ (c : Addr) (m : Nat) (a b : List Int), vs = [.ref c] ∧ ChAt H c a b ∧ ChOk m a b ∧ Tabs H T.tabs ∧ ∀ H', Gr H H' → Q (.str (SX.S (cubeM a b))) H'
theorem int_at {r : List Int} {i : Nat} {x : V} (h : (r.map V.int)[i]? = some x) : ∃ b, r[i]? = some b ∧ x = V.int b := by
  rw [List.getElem?_map] at h
  cases hz : r[i]? with
  | none => rw [hz] at h; cases h
  | some u => rw [hz] at h; exact ⟨u, rfl, (Option.some.inj h).symm⟩
theorem int_dec (x y : Int) : decide (V.int x = V.int y) = decide (x = y) := by
  by_cases z : x = y
  · rw [decide_eq_true z, decide_eq_true (by rw [z])]
  · rw [decide_eq_false z, decide_eq_false (fun k => z (V.int.inj k))]
theorem ok_cube_of (T : Tx K mg) (B : Tb base T) : FnOk P w K mg base CX0 2 T.f_cube_of T.fd_cube_of ["change"] (sp_cube_of T) := by
  refine okC T.F_cube_of sc_cube_of (fun vs H Q E h => ?_) (fun A outer s H vs Q E hr h => ?_)
  · obtain ⟨c, m, a, b, rfl, _⟩ := h
    rfl
  · obtain ⟨c, m, a, b, rfl, ⟨ra, rb, hc, ha, hb⟩, ok, tabs, q⟩ := h
    refine ⟨_, (pss_cons (ps_asg (pv 0) (pg_tup rfl (pgs_cons (pg_name (i := 1) sc_cube_of.nd rfl (by first | exact .inl rfl | exact .inr rfl)) (pgs_cons (pg_name (i := 2) sc_cube_of.nd rfl (by first | exact .inl rfl | exact .inr rfl)) pgs_nil)))) (pss_one (ps_ret (GxJ.pe_joinX (own := [("before", 3), ("after", 4)]) (k := 0) (hr.mono (by decide)) rfl sc_cube_of.nd pe_str B.TB_cube_of T.cd_cube_of rfl rfl (blkOk_by (own := [("before", 3), ("after", 4)]) (N := ["change", "a", "b", "before", "after"]) (sc := defScope s_cube_of) (by decide +kernel)) (ZpG.pi_zip2 (by rfl) T.m_zip (pa_cons (pv 1) (pa_cons (pv 2) pa_nil))) (fun _ _ _ _ _ c1 P1 _ hr gd => (show PG _ _ (gTup K 2 _) from pg_tup rfl (pgs_cons (pg_name (i := 3) sc_cube_of.nd rfl (by first | exact .inl rfl | exact .inr rfl)) (pgs_cons (pg_name (i := 4) sc_cube_of.nd rfl (by first | exact .inl rfl | exact .inr rfl)) pgs_nil)))) (fun _ _ _ _ _ c1 P1 _ hr gd => pts_nil) (fun _ _ _ _ _ c1 P1 _ hr gd => (pe_ifExp (pt_cmpR op_eq (pv 3) (pv 4) (nomark _)) (pe_callTy call_str_int (by rfl) T.m_str (by decide +kernel) (pa_cons (pv 3) pa_nil)) pe_str)) (fun _ => rfl))))), ?_⟩
    have tab : GzN.TabG H T.P_cube_of := tabs _ (by simp [Tx.tabs])
    refine ⟨.ref c, rfl, c, _, rfl, SqT.of hc, rfl, _, _, rfl, _, _, rfl, rfl, ?_⟩
    refine ⟨_, rfl, .ref ra, rfl, .ref rb, rfl, .tu ra, .tu rb, _, _, rfl, SqT.of ha, SqT.of hb, tab, fun H2 tb2 => ?_⟩
    have g2 := Gr.tab tab tb2
    have la := ok.la
    have lb := ok.lb
    have m6 := ok.m6
    refine ZpG.gx_zip2 (K := K) (n := m) (xs1 := a.map V.int) (xs2 := b.map V.int) (by rw [List.length_map, la]) (by rw [List.length_map, lb]) (fun j ys H' => Gr H H' ∧ ys = ((((a.zip b).take j).map fun z => if z.1 = z.2 then wS z.1 else 45).map one).map V.str) ⟨g2, rfl⟩ (fun j _ H' _ z => ⟨SqT.of (z.1.tup ha), SqT.of (z.1.tup hb)⟩) ?_ ?_
    · rintro j x y t ys H' hx hy nt ⟨g, rfl⟩
      obtain ⟨u, hu, rfl⟩ := int_at hx
      obtain ⟨v, hv, rfl⟩ := int_at hy
      have u01 := ok.oa u (List.mem_of_getElem? hu)
      have g' := g.trans (Gr.none (o := .tup [V.int u, V.int v]) nt)
      have ez := zip_take_succ hu hv
      have ll : ((((((a.zip b).take j).map fun z => if z.1 = z.2 then wS z.1 else 45).map one).map V.str)).length < sizeLine := by
        rw [List.length_map, List.length_map, List.length_map, List.length_take, List.length_zip]
        exact Nat.lt_of_lt_of_le (show _ < 64 by omega) (by decide)
      refine ⟨t, _, rfl, SqT.of upd_same, rfl, _, _, rfl, _, _, rfl, rfl, rfl, ?_⟩
      refine ⟨.int u, rfl, .int v, rfl, rfl, _, rfl, ?_⟩
      rw [int_dec]
      refine ite2 (fun e => ?_) (fun e => ?_)
      · have e : u = v := of_decide_eq_true e
        refine ⟨.int u, rfl, u, rfl, by rcases u01 with rfl | rfl <;> decide, ll, g', ?_⟩
        rw [str01 u01, ez]
        simp [e]
      · have e : ¬ u = v := fun z => e (decide_eq_true z)
        refine ⟨ll, g', ?_⟩
        rw [dash_S, ez]
        simp [e]
    · rintro ys H' ⟨g, rfl⟩
      have : (a.zip b).length ≤ m := by rw [List.length_zip]; omega
      rw [List.take_of_length_le this]
      refine ⟨(cubeM a b).map one, rfl, joinOk_ones _ ?_, ?_⟩
      · unfold cubeM
        rw [List.length_map]
        omega
      · rw [join_one]
        exact q _ g
theorem cube_len {m : Nat} {a b : List Int} (ok : ChOk m a b) : (cubeM a b).length = m := by
  unfold cubeM
  rw [List.length_map, List.length_zip, ok.la, ok.lb, Nat.min_self]

/-! ### a table at a row -/
def sp_table_worth (K : PySem.W.Frag) : Sp := fun vs H Q _ => ∃ (bs : List Bool) (la : Addr) (ws : List Int), vs = [.str (tabOf bs), .ref la] ∧ H la = some (.tup (ws.map V.int)) ∧ Row01' ws ∧ bs.length = 2 ^ ws.length ∧ ws.length ≤ 6 ∧ Q (.int (gateM bs ws)) H
theorem ok_table_worth (T : Tx K mg) : FnOk P w K mg base CX0 1 T.f_table_worth T.fd_table_worth ["table", "worths"] (sp_table_worth K) := by
  refine T.F_table_worth.ok sc_table_worth (fun vs H Q E h => ?_) (fun cdv A outer s H vs Q E hr h => ?_)
  · obtain ⟨bs, la, ws, rfl, _⟩ := h
    rfl
  · obtain ⟨bs, la, ws, rfl, hS, hw, hb, h6, q⟩ := h
    obtain ⟨b, p0, p1, p2, p3, p4⟩ := gate_read6 hw hb h6
    refine ⟨_, (pss_cons (ps_set (i := 2) sc_table_worth.nd rfl (by first | exact .inl rfl | exact .inr rfl) pe_int) (pss_cons (ps_for PassesOwn.never rfl (pi_tup (pv 1)) (pg_name (i := 3) sc_table_worth.nd rfl (by first | exact .inl rfl | exact .inr rfl)) (pss_one (ps_set (i := 2) sc_table_worth.nd rfl (by first | exact .inl rfl | exact .inr rfl) (pe_op op_add (pe_op op_mul pe_int (pv 2)) (pv 3))))) (pss_one (ps_ret (pe_callTy call_int_str (by rfl) T.m_int (by decide +kernel) (pa_cons (pe_item_str (pv 0) (pv 2) (fun _ _ => rfl)) pa_nil)))))), ?_⟩
    refine ⟨.ref la, rfl, la, rfl, ⟨_, SqT.of hS⟩, for_tup (K := K) (a := la) (xs := ws.map V.int) (fun i σ H' => ∃ y, σ = [some (.str (tabOf bs)), some (.ref la), some (.int (plc (ws.take i))), y] ∧ H' = H) ⟨none, rfl, rfl⟩ (fun i σ H' _ ⟨_, _, e⟩ => by rw [e]; exact SqT.of hS) ?_ ?_⟩
    · rintro i x σ H' hx ⟨y, rfl, rfl⟩
      obtain ⟨u, hu, rfl⟩ : ∃ u, ws[i]? = some u ∧ x = V.int u := by
        rw [List.getElem?_map] at hx
        cases hz : ws[i]? with
        | none => rw [hz] at hx; cases hx
        | some u => rw [hz] at hx; exact ⟨u, rfl, (Option.some.inj hx).symm⟩
      refine ⟨.int (plc (ws.take i)), rfl, 2, _, rfl, rfl, .inl ⟨by decide, by decide⟩, .int u, rfl, _, _, rfl, rfl, some (.int u), ?_, rfl⟩
      rw [plc_take hu]
      rfl
    · rintro σ H' ⟨y, rfl, rfl⟩
      rw [List.length_map, List.take_length]
      refine ⟨.str (tabOf bs), rfl, .int (plc ws), rfl, _, _, _, rfl, rfl, p0, p1, p2, p3, _, _, rfl, int_sign b, (show 1 ≤ 640 by decide), ?_⟩
      rw [← p4]
      exact q

end
end Gk

--@NEST
set_option Elab.async false
set_option linter.all false
set_option maxRecDepth 100000
set_option maxHeartbeats 1000000
set_option pp.maxSteps 1500
set_option pp.deepTerms false
namespace Gk
open PySem PySem.Spec PyProof.Rows L2
section
variable {P : Program} {w : World} {K : PySem.W.Frag} {mg : Str → Option Value} {base : Heap}
/-! ### enumerate(tuple) -/
theorem draws_tuple {P : Program} {w : World} {A : Around} (hA : A.handled = none) (it a : Addr) (items : Array Value) (hne : a ≠ it) : Draws P w A it [it, a] items.size (fun i v => items[i]? = some v) (fun i h => h.IsTupleIter it a i ∧ h.IsTuple a items) where
  live := fun _ _ st => let ⟨o, ho, _⟩ := st.1; ⟨o, ho⟩
  frame := fun _ _ _ st hk => ⟨st.1.at fun o e => hk it (by simp) o e, by
    obtain ⟨o, ho, r⟩ := st.2
    exact ⟨o, hk a (by simp) o ho, r⟩⟩
  item := fun i s Q E hi st hQ => by
    refine RZ.nextOf_tuple_item st.1 st.2 (x := items[i]) (by simp [hi]) fun h' hit' hs' => ?_
    refine hQ _ h' s.toks (by simp [hi]) ⟨hit', ?_⟩ hs'
    obtain ⟨o, ho, r⟩ := st.2
    exact ⟨o, hs'.extBut a o hne ho, r⟩
  done := fun s Q E st hE => RZ.nextOf_tuple_end hA st.1 st.2 (by simp) hE
open PySem.AutoSeq1 in
set_option maxHeartbeats 1000000 in
theorem meets_enumerate_newT (l : Addr) (items : Array Value) (o : Obj) (hc : o.cls = .type "tuple") (n : Nat) (hd : o.data = .seq items n) :
    Meets (Builtin.«enumerate.__new__» ⟨[.type "enumerate", .ref l], []⟩) (fun _ R s => s.heap.get? l = some o ∧
      R (.ok (.ret (.ref (s.heap.push { cls := .type "tuple_iterator", data := .fields #[.ref l, .int 0 0] }).objs.size)))
        { s with heap := (s.heap.push { cls := .type "tuple_iterator", data := .fields #[.ref l, .int 0 0] }).push { cls := .type "enumerate", data := .fields #[.none, .bool false, .ref s.heap.objs.size, rawInt 0, .none, .none] } }) :=
  .of_wp fun prog w A R s h => by
    obtain ⟨hp, g, d, tk, os⟩ := s; obtain ⟨hl, h⟩ := h
    have hsub := sub_enumerate
    have hL : Heap.IsTuple (Shared.heap ⟨hp, g, d, tk, os⟩) l items := ⟨_, hl, hc, n, hd⟩
    wp_walk using wpAny_loadPart' hl
    refine wpAny_stack_any fun st => wpAny_pure ?_
    split
    · rename_i c _ _ _ _ _
      cases (c == Value.type "enumerate")
      · wp_walk using wpAny_loadPart' hl, wpAny_pyIter_tuple hL
        exact ⟨_, rfl, h⟩
      · wp_walk using wpAny_loadPart' hl, wpAny_pyIter_tuple hL
        exact ⟨_, rfl, h⟩
    · wp_walk using wpAny_loadPart' hl, wpAny_pyIter_tuple hL
      exact ⟨_, rfl, h⟩
theorem call_enumerate_tuple {prog : Program} {w : World} {A : Around} {E : Value → Shared → Prop} {s : Shared} {l : Addr} {items : Array Value} {Q : Value → Shared → Prop} (hL : s.heap.IsTuple l items)
    (h : ∀ h', IsEnum h' (s.heap.objs.size + 1) s.heap.objs.size 0 .none → h'.IsTupleIter s.heap.objs.size l 0 → h'.objs.size = s.heap.objs.size + 2 →
      (∀ b o, s.heap.get? b = some o → h'.get? b = some o) → Q (.ref (s.heap.objs.size + 1)) { s with heap := h' }) :
    wpAny (model prog w) A (call (.type "enumerate") [.ref l]) Q E s := by
  obtain ⟨o, hl, hc, n, hd⟩ := hL
  refine callType_new F.called_enumerate (by decide) (F.typeCall_enumerate_1 _) (F.newCall_enumerate_1 _) (fun obj => F.args_object_init_2 obj _) F.entry_enumerate_new
    (meets_enumerate_newT l items o hc n hd) ⟨hl, ?_⟩
  have hz : (s.heap.push { cls := .type "tuple_iterator", data := .fields #[.ref l, .int 0 0] }).objs.size = s.heap.objs.size + 1 := Heap.size_push ..
  show _ ∧ _
  rw [hz]
  have he : IsEnum ((s.heap.push { cls := .type "tuple_iterator", data := .fields #[.ref l, .int 0 0] }).push
      { cls := .type "enumerate", data := .fields #[.none, .bool false, .ref s.heap.objs.size, rawInt 0, .none, .none] }) (s.heap.objs.size + 1) s.heap.objs.size 0 .none := by
    have := Heap.get?_push_size (s.heap.push { cls := .type "tuple_iterator", data := .fields #[.ref l, .int 0 0] })
      (o := { cls := .type "enumerate", data := .fields #[.none, .bool false, .ref s.heap.objs.size, rawInt 0, .none, .none] }) rfl
    rw [hz] at this; exact this
  refine ⟨⟨_, he, rfl⟩, h _ he ⟨_, Heap.get?_push_of_some _ (Heap.get?_push_size _ rfl), rfl, rfl⟩ (by rw [Heap.size_push, hz]) fun b o x => Heap.get?_push_of_some _ (Heap.get?_push_of_some _ x)⟩
/-- the tuple at a, each item in a new pair -/
def IteT (K : PySem.W.Frag) (a : Addr) : It :=
  ⟨fun i H => ∃ (xs : List V) (x : V), SqT K H a xs ∧ xs[i]? = some x, fun i H v H' => ∃ T x, v = .ref T ∧ H T = none ∧ H' = upd H T (.tup [.int (i : Nat), x]) ∧ ∀ xs, SqT K H a xs → xs[i]? = some x, fun i H => ∃ xs : List V, SqT K H a xs ∧ xs.length = i⟩
theorem turn_enumT {P : Program} {w : World} {K : PySem.W.Frag} {elts : List Expr} {kk : Nat} {tpos : Pos} (a e it : Addr) :
    Turn P w K (.Tuple elts kk tpos) (IteT K a) [e, it] e (fun i h => (∃ old, IsEnum h e it ((i : Nat) : Int) old) ∧ h.IsTupleIter it a i ∧ e ≠ it) where
  mem := by simp
  obj := fun i h st b hb => by
    obtain ⟨⟨old, he⟩, ⟨o, ho, hc, hd⟩, _⟩ := st
    have e' : b = e ∨ b = it := by simpa using hb
    rcases e' with z | z
    · rw [z]; exact ⟨_, he, fun v q => nomatch q⟩
    · rw [z]; exact ⟨o, ho, fun v q => by rw [hd] at q; cases q⟩
  keep := fun i h h' st k => let ⟨⟨old, he⟩, hi, hne⟩ := st; ⟨⟨old, k e (by simp) _ he⟩, hi.at fun o q => k it (by simp) o q, hne⟩
  item := by
    intro X hP hw hK hc i pins s σ H E I hf st hg
    subst hP hw hK
    obtain ⟨⟨old, he⟩, hit, hne⟩ := st
    obtain ⟨xs, x, hq, hx⟩ := hg
    obtain ⟨its, rv, p, hz⟩ := I.tuple hq
    obtain ⟨u, hu, ru⟩ := rv.get hx
    have hel : e < s.heap.objs.size := Heap.lt_size he
    have hil : it < s.heap.objs.size := by obtain ⟨_, q, _⟩ := hit; exact Heap.lt_size q
    have hpt : s.heap.IsTuple a its.toArray := p
    have hai : a ≠ it := fun z => by
      obtain ⟨o1, h1, c1, _⟩ := hpt
      obtain ⟨o2, h2, c2, _⟩ := hit
      rw [z, h2] at h1
      cases h1
      rw [c2] at c1
      exact absurd (Value.type.inj c1) (by decide)
    have hae : e ≠ a := fun z => by
      obtain ⟨o1, h1, c1, _⟩ := hpt
      rw [← z, he] at h1
      cases h1
      exact absurd (Value.type.inj c1) (by decide)
    have hil2 : i < its.toArray.size := by
      rw [List.size_toArray]
      exact (List.getElem?_eq_some_iff.mp hu).1
    refine wpAny_pyNext_enum_itemD (draws_tuple (A := X.A.in1) (I.ok.hd hc) it a its.toArray hai) he ⟨hit, hpt⟩ hil2 hne (by simp only [List.mem_cons, List.not_mem_nil, or_false, not_or]; exact ⟨hne, hae⟩) fun y h' tk hy ho hst hT hsz hk => ?_
    have hyu : y = u := by
      have : its[i]? = some y := by simpa using hy
      rw [hu] at this
      exact (Option.some.inj this).symm
    subst hyu
    have hit' := hst.1
    refine ⟨_, rfl, wpAny_letOwnedTupleGo_enum (s := { s with heap := h', toks := tk + 1 }) ho fun h'' he' sb => ?_⟩
    have hT2 : h''.get? s.heap.objs.size = some { cls := .type "tuple", data := .seq #[.int i tk, y] } := (sb.2 _ (Nat.ne_of_gt hel)).trans hT
    have new : ObjOk X.prog X.w (upd H s.heap.objs.size (.tup [.int (i : Nat), x])) h'' s.heap.objs.size (.tup [.int (i : Nat), x]) :=
      ⟨by show 2 ≤ sizeLine; decide, [.int i tk, y], .cons ⟨_, rfl⟩ (.cons ru .nil), ⟨_, hT2, rfl, _, rfl⟩⟩
    have I1 : Inv X pins σ (upd H s.heap.objs.size (.tup [.int (i : Nat), x])) { s with heap := h'', toks := tk + 1 } :=
      I.turnedNew (ch := [e, it]) (fun b ob hb q => (sb.2 b (fun z => hb (by simp [z]))).trans (hk b ob (fun z => hb (by simp [z])) (fun z => hb (by simp [z])) q)) hf (Nat.le_refl _) new
    refine ⟨.ref s.heap.objs.size, _, I1, rfl, ⟨_, x, rfl, I.hok.fresh (Nat.le_refl _), rfl, fun ys hy => by rw [I.tuple_inj hy hq]; exact hx⟩, ⟨⟨y, ?_⟩, hit'.at fun o q => (sb.2 it (Ne.symm hne)).trans q, hne⟩, fun b hb => ?_⟩
    · have e1 : ((i + 1 : Nat) : Int) = (i : Int) + 1 := by omega
      rw [e1]; exact he'
    · have hb' : b < s.heap.objs.size := by
        have e' : b = e ∨ b = it := by simpa using hb
        rcases e' with z | z
        · rw [z]; exact hel
        · rw [z]; exact hil
      rw [upd_ne (Nat.ne_of_lt hb')]
      exact (hf b hb).1
  done := by
    intro X hP hw hK hc i pins s σ H E I hf st hg
    subst hP hw hK
    obtain ⟨⟨old, he⟩, hit, hne⟩ := st
    obtain ⟨xs, hq, hx⟩ := hg
    obtain ⟨its, rv, p, hz⟩ := I.tuple hq
    obtain ⟨f0, f1, f2, f3, f4, f5⟩ := hf it (by simp)
    have hl := rv.length
    have hpt : s.heap.IsTuple a its.toArray := p
    have hai : a ≠ it := fun z => by
      obtain ⟨o1, h1, c1, _⟩ := hpt
      obtain ⟨o2, h2, c2, _⟩ := hit
      rw [z, h2] at h1
      cases h1
      rw [c2] at c1
      exact absurd (Value.type.inj c1) (by decide)
    have hn : i = its.toArray.size := by rw [List.size_toArray]; omega
    exact wpAny_pyNext_enum_endD (draws_tuple (A := X.A.in1) (I.ok.hd hc) it a its.toArray hai) he (by rw [← hn]; exact ⟨hit, hpt⟩) fun h' eb => ⟨rfl, I.turned (t' := s.toks) (fun b o hb q => eb b o hb q) f0 f1 f3 f4 f5⟩
  self := fun A i s Q E st h => let ⟨⟨_, he⟩, _⟩ := st; wpAny_pyIter_enum he h
def iEnumT (K : PySem.W.Frag) (ta : TA) : TI := fun σ H R => ta σ H fun vs H1 => ∃ a xs, vs = [.ref a] ∧ SqT K H1 a xs ∧ R (IteT K a) H1
theorem pi_enumT {X : Cx} {e : Expr} {ta : TA} {p pos tpos : Pos} {elts : List Expr} {kk : Nat} (hg : Gl X "enumerate") (hm : X.mg "enumerate" = none) (ha : PA X [e] ta) (hs : starEach [e] X.env = [(false, eval e X.env)] := by rfl) :
    PI X (.Tuple elts kk tpos) (.Call (.Name "enumerate" p) [e] [] pos) (iEnumT X.K ta) := by
  refine ⟨fun pins s σ H R I h => ?_⟩
  refine Call_ (ld_blt I hg hm boot_enumerate (PyProof.Rows.callWith_type1 (thn (ha.run pos pins s σ H _ I h) fun us s1 ⟨vs, H1, I1, r1, q1⟩ => ?_) hs rfl))
  obtain ⟨a, xs, ex, hq, q⟩ := q1
  subst ex
  cases r1 with
  | cons r rr =>
    cases rr
    cases r
    obtain ⟨its, rv, p', hz⟩ := I1.tuple hq
    refine call_enumerate_tuple p' fun h' he hit hsz hk => wpAny_pyIter_enum he ?_
    have I2 : Inv X pins σ H1 { s1 with heap := h' } := I1.kept (t' := s1.toks) hk
    refine ⟨s1.heap.objs.size + 1, [s1.heap.objs.size + 1, s1.heap.objs.size], _, _, H1, rfl, I2, turn_enumT a (s1.heap.objs.size + 1) s1.heap.objs.size, ⟨⟨.none, he⟩, hit, Nat.succ_ne_self _⟩, fun b hb => ?_, q⟩
    have e' : b = s1.heap.objs.size + 1 ∨ b = s1.heap.objs.size := by simpa using hb
    have hle : s1.heap.objs.size ≤ b := by
      rcases e' with z | z
      · rw [z]; exact Nat.le_add_right _ _
      · rw [z]; exact Nat.le_refl _
    exact I1.fpOk hle (I1.hok.fresh hle)
theorem gx_enum {α : Type} {K : PySem.W.Frag} {a : Addr} {xs : List V} {g : TG} {tt : TT} {te : TE} {vs : List Nat} {σ0 : L2.St} {End : α → Hp → Prop} {Yd : α → V → Hp → (α → Hp → Prop) → Prop} {a0 : α} {H0 : Hp} (Pv : Nat → α → Hp → Prop) (h0 : Pv 0 a0 H0)
    (hl : ∀ i c H, i ≤ xs.length → Pv i c H → SqT K H a xs)
    (hs : ∀ i x T c H, xs[i]? = some x → H T = none → Pv i c H → g (.ref T) σ0 (upd H T (.tup [.int (i : Nat), x])) fun σ2 H2 => wipe σ2 vs = σ0 ∧ tt σ2 H2 fun b H3 => if b = true then te σ2 H3 fun y H4 => Yd c y H4 (Pv (i + 1)) else Pv (i + 1) c H3) (hd : ∀ c H, Pv xs.length c H → End c H) :
    ∃ W : Nat → Nat → α → Hp → Prop, (∃ m, W 0 m a0 H0) ∧ tGx (IteT K a) g tt te σ0 vs End Yd W := by
  refine ⟨fun i m c H => m = xs.length - i ∧ i ≤ xs.length ∧ Pv i c H, ⟨xs.length, rfl, Nat.zero_le _, h0⟩, ?_⟩
  rintro i m c H ⟨rfl, hi, p⟩
  by_cases hlt : i < xs.length
  · have hx : xs[i]? = some xs[i] := List.getElem?_eq_getElem hlt
    refine .inr ⟨⟨xs, xs[i], hl i c H hi p, hx⟩, Pv (i + 1), fun c' H' p' => ⟨xs.length - (i + 1), by omega, rfl, hlt, p'⟩, fun x H' y => ?_⟩
    obtain ⟨T, x1, rfl, nT, rfl, e1⟩ := y
    exact hs i x1 T c H (e1 xs (hl i c _ hi p)) nT p
  · have e : i = xs.length := by omega
    subst e
    exact .inl ⟨⟨xs, hl _ c H hi p, rfl⟩, hd c H p⟩
theorem gx_str {α : Type} {z : Str} {g : TG} {tt : TT} {te : TE} {vs : List Nat} {σ0 : L2.St} {End : α → Hp → Prop} {Yd : α → V → Hp → (α → Hp → Prop) → Prop} {a0 : α} {H0 : Hp} (Pv : Nat → α → Hp → Prop) (h0 : Pv 0 a0 H0)
    (hs : ∀ i x c H, z.cps[i]? = some x → Pv i c H → g (.str ⟨#[x]⟩) σ0 H fun σ2 H2 => wipe σ2 vs = σ0 ∧ tt σ2 H2 fun b H3 => if b = true then te σ2 H3 fun y H4 => Yd c y H4 (Pv (i + 1)) else Pv (i + 1) c H3) (hd : ∀ c H, Pv z.cps.size c H → End c H) :
    ∃ W : Nat → Nat → α → Hp → Prop, (∃ m, W 0 m a0 H0) ∧ tGx (Its z) g tt te σ0 vs End Yd W := by
  refine ⟨fun i m c H => m = z.cps.size - i ∧ i ≤ z.cps.size ∧ Pv i c H, ⟨z.cps.size, rfl, Nat.zero_le _, h0⟩, ?_⟩
  rintro i m c H ⟨rfl, hi, p⟩
  by_cases hlt : i < z.cps.size
  · refine .inr ⟨hlt, Pv (i + 1), fun c' H' p' => ⟨z.cps.size - (i + 1), by omega, rfl, hlt, p'⟩, fun x H' y => ?_⟩
    obtain ⟨rfl, ch, hc, rfl⟩ := y
    exact hs i ch c _ hc p
  · have e : i = z.cps.size := by omega
    subst e
    exact .inl ⟨Nat.le_refl _, hd c H p⟩

/-! ### a generator expression over a list -/
theorem gx_list {α : Type} {K : PySem.W.Frag} {a : Addr} {xs : List V} {g : TG} {tt : TT} {te : TE} {vs : List Nat} {σ0 : L2.St} {End : α → Hp → Prop} {Yd : α → V → Hp → (α → Hp → Prop) → Prop} {a0 : α} {H0 : Hp} (Pv : Nat → α → Hp → Prop) (h0 : Pv 0 a0 H0)
    (hl : ∀ i c H, i ≤ xs.length → Pv i c H → SqL K H a xs)
    (hs : ∀ i x c H, xs[i]? = some x → Pv i c H → g x σ0 H fun σ2 H2 => wipe σ2 vs = σ0 ∧ tt σ2 H2 fun b H3 => if b = true then te σ2 H3 fun y H4 => Yd c y H4 (Pv (i + 1)) else Pv (i + 1) c H3) (hd : ∀ c H, Pv xs.length c H → End c H) :
    ∃ W : Nat → Nat → α → Hp → Prop, (∃ m, W 0 m a0 H0) ∧ tGx (Itl K a) g tt te σ0 vs End Yd W := by
  refine ⟨fun i m c H => m = xs.length - i ∧ i ≤ xs.length ∧ Pv i c H, ⟨xs.length, rfl, Nat.zero_le _, h0⟩, ?_⟩
  rintro i m c H ⟨rfl, hi, p⟩
  by_cases hlt : i < xs.length
  · have hx : xs[i]? = some xs[i] := List.getElem?_eq_getElem hlt
    refine .inr ⟨⟨xs, xs[i], hl i c H hi p, hx⟩, Pv (i + 1), fun c' H' p' => ⟨xs.length - (i + 1), by omega, rfl, hlt, p'⟩, fun x H' y => ?_⟩
    obtain ⟨rfl, y⟩ := y
    exact hs i x c _ (y xs (hl i c _ hi p)) p
  · have e : i = xs.length := by omega
    subst e
    exact .inl ⟨⟨xs, hl _ c H hi p, Nat.le_refl _⟩, hd c H p⟩

/-! ### what is allowed, and why not: the program's own -/
def tTru (K : PySem.W.Frag) (ta : TE) : TT := fun σ H Q => ta σ H fun x H' => ∃ k, TruV K x H' k ∧ Q k H'
theorem pt_tru {X : Cx} {a : Expr} {ta : TE} (ha : PE X a ta) (he : ∀ whole, isTrue a X.env whole = (do let v ← whole; standAt a.pos; holding [v] (truthy v))) : PT X a (tTru X.K ta) := pt_truth ha he
def oneB (bs : List Bool) (r : List Int) : Bool := decide (gateM bs r = 1)
def atM (bs : List Bool) (p : List Nat) (a b : List Int) : Bool := (oneB bs a && oneB bs b) || (oneB bs a && hrow p a) || (oneB bs b && hrow p b) || !meetM p (cubeM a b)
abbrev Why := Option (List Int ⊕ Nat)
def whyM (m : Nat) (bs : List Bool) (cs : List Ch) (p : List Nat) : Why :=
  match ((rowsI m).zip bs).find? (fun z => !z.2 && hrow p z.1) with
  | some z => some (.inl z.1)
  | none => (cs.findIdx? fun c => !atM bs p c.1 c.2).map .inr
def WhyV (H : Hp) : Why → V → Prop
  | none, v => v = .non
  | some (.inl r), v => Tk H v (.tuple [.str (Str.ofString "row"), rowD r])
  | some (.inr k), v => Tk H v (.tuple [.str (Str.ofString "change"), .int k])
theorem s0_one : Str.ofString "0" = one 48 := by decide +kernel
theorem s1_one : Str.ofString "1" = one 49 := by decide +kernel
def bitS (b : Bool) : Nat := if b = true then 49 else 48
theorem tab_S (bs : List Bool) : tabOf bs = SX.S (bs.map bitS) := rfl
def sp_ones_of (K : PySem.W.Frag) : Sp := fun vs H Q _ => ∃ (wa ra : Addr) (m : Nat) (bs : List Bool) (x : V) (xs : List V) (rs : List (List Int)), vs = [.ref wa, .ref ra] ∧ H wa = some (.tup [.int m, .str (tabOf bs), x]) ∧ H ra = some (.tup xs) ∧ TkAll H xs (rs.map rowD) ∧ (∀ r ∈ rs, r.length = m ∧ Row01' r) ∧ m ≤ 6 ∧ bs.length = 2 ^ m ∧ rs.length ≤ 64 ∧ ∀ l ys H', H l = none → Same H H' → H' l = some (.lst ys) → TkAll H' ys ((rs.filter (oneB bs)).map rowD) → Q (.ref l) H'
theorem ok_ones_of (T : Tx K mg) : FnOk P w K mg base CX0 2 T.f_ones_of T.fd_ones_of ["wish", "rows"] (sp_ones_of K) := by
  refine T.F_ones_of.ok sc_ones_of (fun vs H Q E h => ?_) (fun cdv A outer s H vs Q E hr h => ?_)
  · obtain ⟨wa, ra, m, bs, x, xs, rs, rfl, _⟩ := h
    rfl
  · obtain ⟨wa, ra, m, bs, x, xs, rs, rfl, hw, hra, tx, okr, m6, lb, l64, q⟩ := h
    refine ⟨_, (pss_one (ps_ret (pe_lc (own := [("row", 2)]) (by rfl) sc_ones_of.nd (pi_tup (pv 1)) (blkOk_by (own := [("row", 2)]) (N := ["wish", "rows", "row"]) (sc := defScope s_ones_of) (by decide +kernel)) (fun _ _ _ _ _ => (pg_name (i := 2) sc_ones_of.nd rfl (by first | exact .inl rfl | exact .inr rfl))) (fun _ _ _ _ _ => (pts_one (show PT _ _ (tTru K _) from pt_tru (pe_call (ok_table_worth T) (hr.mono (by decide)) (by rfl) T.g_table_worth T.F_table_worth.kp T.b_table_worth .nil pass0 (pa_cons (pe_ix (show IxR _ (rIxT K) from ix_tup) (pv 0) pe_int (fun _ _ => rfl)) (pa_cons (pv 2) pa_nil))) (by intro _; rfl)))) (fun _ _ _ _ _ => (pv 2))))), ?_⟩
    refine ⟨.ref ra, rfl, ra, rfl, ⟨_, SqT.of hra⟩, fun L nL => ?_⟩
    refine lc_tup (K := K) (a := ra) (xs := xs) (fun j H' => Same H (hd1 L H') ∧ ∃ ys, H' L = some (.lst ys) ∧ TkAll (hd1 L H') ys (((rs.take j).filter (oneB bs)).map rowD)) ⟨hd1_of (same_upd nL) nL, [], upd_same, .nil⟩ (fun j H' _ z => SqT.of (hd1_le _ _ (z.1 _ _ hra))) ?_ ?_
    · rintro j v H1 hv ⟨s1, ys, hL, ty⟩
      obtain ⟨r, hr', tr⟩ := tx.at hv
      obtain ⟨p, rfl, hp⟩ := tr.row_inv
      obtain ⟨lr, or⟩ := okr r (List.mem_of_getElem? hr')
      refine ⟨rfl, .ref wa, rfl, wa, _, _, .str (tabOf bs), rfl, rfl, SqT.of (hd1_le _ _ (s1 _ _ hw)), rfl, .ref p, rfl, bs, p, r, rfl, hd1_le _ _ (s1 _ _ hp), or, by rw [lr]; exact lb, by omega, ?_⟩
      have et : (rs.take (j + 1)).filter (oneB bs) = (rs.take j).filter (oneB bs) ++ (if oneB bs r = true then [r] else []) := by
        rw [List.take_add_one, hr', List.filter_append]
        congr 1
        show List.filter _ [r] = _
        rw [List.filter_cons, List.filter_nil]
      have ly := ty.length
      rw [List.length_map] at ly
      have l2 := List.length_filter_le (oneB bs) (rs.take j)
      rw [List.length_take] at l2
      rcases gate01 bs r with e | e
      · rw [e]
        refine ⟨false, rfl, iteF ⟨s1, ys, hL, ?_⟩⟩
        have e1 : oneB bs r = false := decide_eq_false (by rw [e]; decide)
        rw [et, e1]
        simpa using ty
      · rw [e]
        refine ⟨true, rfl, iteT ?_⟩
        have e1 : oneB bs r = true := decide_eq_true e
        refine ⟨.ref p, rfl, ys, hL, Nat.lt_of_lt_of_le (show _ < 128 by omega) (by decide), s1.trans hd1_upd, ys ++ [V.ref p], upd_same, ?_⟩
        rw [et, e1, List.map_append]
        exact (ty.same hd1_upd).append (.cons ((tr.same s1).same hd1_upd) .nil)
    · rintro H1 ⟨s1, ys, hL, ty⟩
      have lx := tx.length
      rw [List.length_map] at lx
      rw [lx, List.take_length] at ty
      exact q L ys H1 nL (fun b o e => hd1_le _ _ (s1 _ _ e)) hL (ty.same hd1_le)
theorem ch_rows {m : Nat} {a b : List Int} (ok : ChOk m a b) : ∀ r ∈ [a, b], r.length = m ∧ Row01' r := fun r hr => by
  simp only [List.mem_cons, List.not_mem_nil, or_false] at hr
  rcases hr with rfl | rfl
  · exact ⟨ok.la, ok.oa⟩
  · exact ⟨ok.lb, ok.ob⟩
theorem ones_two (bs : List Bool) (a b : List Int) : decide (([a, b].filter (oneB bs)).length = 2) = (oneB bs a && oneB bs b) := by
  cases h1 : oneB bs a <;> cases h2 : oneB bs b <;> simp [List.filter, h1, h2]
theorem ones_any (bs : List Bool) (p : List Nat) (a b : List Int) : ([a, b].filter (oneB bs)).any (fun r => hrow p r) = ((oneB bs a && hrow p a) || (oneB bs b && hrow p b)) := by
  cases h1 : oneB bs a <;> cases h2 : oneB bs b <;> simp [List.filter, h1, h2]
theorem Tk.row_at {H : Hp} {xs : List V} {rs : List (List Int)} (t : TkAll H xs (rs.map rowD)) {j : Nat} {v : V} (h : xs[j]? = some v) : ∃ p r, v = .ref p ∧ rs[j]? = some r ∧ H p = some (.tup (r.map V.int)) := by
  obtain ⟨r, hr, tr⟩ := t.at h
  obtain ⟨p, rfl, hp⟩ := tr.row_inv
  exact ⟨p, r, rfl, hr, hp⟩
def sp_is_allowed_at (T : Tx K mg) : Sp := fun vs H Q _ => ∃ (wa c : Addr) (m : Nat) (bs : List Bool) (x : V) (p : List Nat) (a b : List Int), vs = [.ref wa, .str (SX.S p), .ref c] ∧ H wa = some (.tup [.int m, .str (tabOf bs), x]) ∧ bs.length = 2 ^ m ∧ ProdOk m p ∧ ChAt H c a b ∧ ChOk m a b ∧ Tabs H T.tabs ∧ ∀ H', Gr H H' → Q (.bl (atM bs p a b)) H'
theorem ok_is_allowed_at (T : Tx K mg) (B : Tb base T) : FnOk P w K mg base CX0 5 T.f_is_allowed_at T.fd_is_allowed_at ["wish", "product", "change"] (sp_is_allowed_at T) := by
  refine okC T.F_is_allowed_at sc_is_allowed_at (fun vs H Q E h => ?_) (fun A outer s H vs Q E hr h => ?_)
  · obtain ⟨wa, c, m, bs, x, p, a, b, rfl, _⟩ := h
    rfl
  · obtain ⟨wa, c, m, bs, x, p, a, b, rfl, hw, lb, okp, ca, ok, tabs, q⟩ := h
    obtain ⟨ra, rb, hc, ha, hb⟩ := id ca
    refine ⟨_, (pss_cons (ps_set (i := 3) sc_is_allowed_at.nd rfl (by first | exact .inl rfl | exact .inr rfl) (pe_call (ok_ones_of T) (hr.mono (by decide)) (by rfl) T.g_ones_of T.F_ones_of.kp T.b_ones_of .nil pass0 (pa_cons (pv 0) (pa_cons (pv 2) pa_nil)))) (pss_cons (ps_if (pw_or (pt_cmpR op_eq (pe_callB call_len_seq (by rfl) T.m_len PySem.boot_len (pa_cons (pv 3) pa_nil)) pe_int (nomark _)) (pw_or1 (pt_val (pe_anyX (own := [("row", 4)]) (k := 3) (hr.mono (by decide)) rfl sc_is_allowed_at.nd (by rfl) T.m_any (by decide +kernel) B.TB_is_allowed_at T.cd_is_allowed_at rfl rfl (blkOk_by (own := [("row", 4)]) (N := ["wish", "product", "change", "ones", "row"]) (sc := defScope s_is_allowed_at) (by decide +kernel)) (pi_list (pv 3)) (fun _ _ _ _ _ c1 P1 _ hr gd => (pg_name (i := 4) sc_is_allowed_at.nd rfl (by first | exact .inl rfl | exact .inr rfl))) (fun _ _ _ _ _ c1 P1 _ hr gd => pts_nil) (fun _ _ _ _ _ c1 P1 _ hr gd => (pe_call (ok_holds_row T B) (hr.mono (by decide)) (by rfl) T.g_holds_row T.F_holds_row.kp T.b_holds_row .nil pass0 (pa_cons (pv 1) (pa_cons (pv 4) pa_nil)))) (fun _ => rfl))))).pt (pss_one (ps_ret pe_bl)) pss_nil) (pss_one (ps_ret (pe_not (pe_call (ok_meet T B) (hr.mono (by decide)) (by rfl) T.g_meet T.F_meet.kp T.b_meet .nil pass0 (pa_cons (pv 1) (pa_cons (pe_call (ok_cube_of T B) (hr.mono (by decide)) (by rfl) T.g_cube_of T.F_cube_of.kp T.b_cube_of .nil pass0 (pa_cons (pv 2) pa_nil)) pa_nil)))))))), ?_⟩
    have tab : GzN.TabG H T.P_is_allowed_at := tabs _ (by simp [Tx.tabs])
    refine ⟨.ref wa, rfl, .ref c, rfl, wa, c, m, bs, x, _, [a, b], rfl, hw, hc, .cons (.tup ha (TkAll.ints a)) (.cons (.tup hb (TkAll.ints b)) .nil), ch_rows ok, ok.m6, lb, (by show 2 ≤ 64; decide), fun l ys H1 nl s1 hl ty => ?_⟩
    have lx := ty.length
    rw [List.length_map] at lx
    have g1 : Gr H H1 := Gr.of s1
    have okf : ∀ r ∈ [a, b].filter (oneB bs), r.length = m ∧ Row01' r := fun r hr => ch_rows ok r (List.mem_filter.mp hr).1
    have e2 := ones_two bs a b
    have ea := ones_any bs p a b
    revert lx ty okf e2 ea
    generalize [a, b].filter (oneB bs) = fs
    intro ty lx okf e2 ea
    refine ⟨.ref l, rfl, l, ys, rfl, .inl (SqL.of hl), rfl, _, rfl, ite2 (fun e => ?_) (fun e => ?_)⟩
    · have e' : (oneB bs a && oneB bs b) = true := by
        rw [← e2, ← lx]
        have := of_decide_eq_true e
        have z : (ys.length : Int) = 2 := V.int.inj this
        exact decide_eq_true (by omega)
      have z := q H1 g1
      unfold atM at z
      rw [e', Bool.true_or, Bool.true_or, Bool.true_or] at z
      exact iteT z
    · have e' : (oneB bs a && oneB bs b) = false := by
        rw [← e2, ← lx]
        refine decide_eq_false fun z => e (decide_eq_true ?_)
        show V.int (ys.length : Int) = V.int 2
        rw [z]
        rfl
      have m6 := ok.m6
      refine ⟨.ref l, rfl, l, rfl, ⟨_, SqL.of hl⟩, g1.2 _ tab, fun H2 tb2 => ?_⟩
      have g2 := Gr.tab (g1.2 _ tab) tb2
      refine gx_list (K := K) (a := l) (xs := ys) (fun j _ H' => Gr H1 H' ∧ (fs.take j).any (fun r => hrow p r) = false) ⟨g2, rfl⟩ (fun j _ H' _ z => SqL.of (z.1.lst hl)) ?_ ?_
      · rintro j v _ H' hv ⟨g, ih⟩
        obtain ⟨t, r, rfl, hr', ht⟩ := Tk.row_at ty hv
        obtain ⟨lr, or⟩ := okf r (List.mem_of_getElem? hr')
        refine ⟨rfl, .str (SX.S p), rfl, .ref t, rfl, p, t, r, rfl, g.tup ht, or, by rw [okp.1, lr], by omega, (g1.trans g).tabs tabs, fun H3 g3 => ?_⟩
        refine ⟨_, rfl, ite2 (fun e => ?_) (fun e => ⟨g.trans g3, ?_⟩)⟩
        · have z := q H3 (g1.trans (g.trans g3))
          have e3 : fs.any (fun r => hrow p r) = true := List.any_eq_true.mpr ⟨r, List.mem_of_getElem? hr', e⟩
          have ez : atM bs p a b = true := by
            unfold atM
            rw [ea] at e3
            rw [Bool.or_assoc (oneB bs a && oneB bs b), e3, Bool.or_true, Bool.true_or]
          rw [ez] at z
          exact ⟨true, rfl, iteT z⟩
        · rw [List.take_add_one, hr', List.any_append, ih]
          simpa using e
      · rintro _ H' ⟨g, ih⟩
        rw [lx, List.take_length] at ih
        refine ⟨false, rfl, iteF ?_⟩
        have g' := g1.trans g
        refine ⟨.str (SX.S p), rfl, .ref c, rfl, c, m, a, b, rfl, ca.gr g', ok, g'.tabs tabs, fun H3 g3 => ?_⟩
        refine ⟨p, cubeM a b, rfl, by rw [okp.1, cube_len ok], (g'.trans g3).tabs tabs, fun H4 g4 => ⟨_, rfl, ?_⟩⟩
        have z := q H4 (g'.trans (g3.trans g4))
        unfold atM at z
        rw [e', Bool.false_or, ← ea, ih, Bool.false_or] at z
        exact z

end
end Gk

--@NEST
set_option Elab.async false
set_option linter.all false
set_option maxRecDepth 100000
set_option maxHeartbeats 1000000
set_option pp.maxSteps 1500
set_option pp.deepTerms false
namespace Gk
open PySem PySem.Spec PyProof.Rows L2
section
variable {P : Program} {w : World} {K : PySem.W.Frag} {mg : Str → Option Value} {base : Heap}
theorem chs_mem {α : Type} : ∀ (n : Nat) (ls : List (List α)), ls.length = n → ∀ q ∈ chs ls, ∀ c ∈ q, ∃ l ∈ ls, c ∈ l := by
  intro n
  induction n with
  | zero =>
    intro ls h q hq c hc
    cases List.eq_nil_of_length_eq_zero h
    rw [List.mem_singleton.mp hq] at hc
    cases hc
  | succ n ih =>
    intro ls h q hq c hc
    have hne : ls ≠ [] := fun z => by rw [z] at h; cases h
    obtain ⟨r, x, rfl⟩ : ∃ r x, ls = r ++ [x] := ⟨ls.dropLast, ls.getLast hne, (List.dropLast_concat_getLast hne).symm⟩
    rw [chs_snoc] at hq
    obtain ⟨c0, h0, hq⟩ := List.mem_flatMap.mp hq
    obtain ⟨o, ho, rfl⟩ := List.mem_map.mp hq
    rcases List.mem_append.mp hc with z | z
    · obtain ⟨l, hl, hc⟩ := ih r (by rw [List.length_append] at h; simpa using h) c0 h0 c z
      exact ⟨l, List.mem_append_left _ hl, hc⟩
    · rw [List.mem_singleton.mp z]
      exact ⟨x, by simp, ho⟩

theorem find_hit {α : Type} {l : List α} {f : α → Bool} {i : Nat} {a : α} (h : l[i]? = some a) (n : ∀ j, j < i → ∀ x, l[j]? = some x → f x = false) (e : f a = true) : l.findIdx? f = some i := by
  rw [List.findIdx?_eq_some_iff_getElem]
  obtain ⟨hl, rfl⟩ := List.getElem?_eq_some_iff.mp h
  exact ⟨hl, e, fun j hj => by simpa using n j hj _ (List.getElem?_eq_getElem _)⟩
theorem find_miss {α : Type} {l : List α} {f : α → Bool} (n : ∀ j, j < l.length → ∀ x, l[j]? = some x → f x = false) : l.findIdx? f = none := by
  rw [List.findIdx?_eq_none_iff]
  intro x hx
  obtain ⟨i, hi, rfl⟩ := List.getElem_of_mem hx
  exact n i hi _ (List.getElem?_eq_getElem _)

theorem for_enumT {K : PySem.W.Frag} {a : Addr} {xs : List V} {g : TG} {tb : TS} {D : Ends} {σ : L2.St} {H : Hp} (Pv : Nat → L2.St → Hp → Prop) (h0 : Pv 0 σ H) (hl : ∀ i σ H, i ≤ xs.length → Pv i σ H → SqT K H a xs)
    (hs : ∀ (i : Nat) (x : V) (T : Addr) (σ : L2.St) (H : Hp), xs[i]? = some x → H T = none → Pv i σ H → g (.ref T) σ (upd H T (.tup [.int (i : Nat), x])) fun σ2 H2 => tb { D with nx := Pv (i + 1), ct := Pv (i + 1), bk := D.nx } σ2 H2) (hd : ∀ σ H, Pv xs.length σ H → D.nx σ H) :
    ∃ W : Nat → Nat → L2.St → Hp → Prop, (∃ m, W 0 m σ H) ∧ ∀ i m σ H, W i m σ H →
      ((IteT K a).stop i H ∧ D.nx σ H) ∨ ((IteT K a).go i H ∧ ∃ N : L2.St → Hp → Prop, (∀ σ' H', N σ' H' → ∃ m', m' < m ∧ W (i + 1) m' σ' H') ∧ ∀ x H', (IteT K a).yld i H x H' → g x σ H' fun σ2 H2 => tb { D with nx := N, ct := N, bk := D.nx } σ2 H2) := by
  refine ⟨fun i m σ H => m = xs.length - i ∧ i ≤ xs.length ∧ Pv i σ H, ⟨xs.length, rfl, Nat.zero_le _, h0⟩, ?_⟩
  rintro i m σ H ⟨rfl, hi, p⟩
  have q := hl i σ H hi p
  by_cases hlt : i < xs.length
  · have hx : xs[i]? = some xs[i] := List.getElem?_eq_getElem hlt
    refine .inr ⟨⟨xs, xs[i], q, hx⟩, Pv (i + 1), fun σ' H' p' => ⟨xs.length - (i + 1), by omega, rfl, hlt, p'⟩, fun x H' y => ?_⟩
    obtain ⟨T, x1, rfl, nT, rfl, e1⟩ := y
    exact hs i x1 T σ H (e1 xs q) nT p
  · have e : i = xs.length := by omega
    subst e
    exact .inl ⟨⟨xs, q, rfl⟩, hd σ H p⟩

theorem find_stop {α : Type} {l : List α} {f : α → Bool} {i : Nat} {a : α} (h : l.take (i + 1) = l.take i ++ [a]) (n : (l.take i).find? f = none) (e : f a = true) : l.find? f = some a := by
  rw [← List.take_append_drop (i + 1) l, h, List.find?_append, List.find?_append, n]
  simp [List.find?, e]
theorem find_more {α : Type} {l : List α} {f : α → Bool} {i : Nat} {a : α} (h : l.take (i + 1) = l.take i ++ [a]) (n : (l.take i).find? f = none) (e : f a = false) : (l.take (i + 1)).find? f = none := by
  rw [h, List.find?_append, n]
  simp [List.find?, e]
theorem rowsI_len {m : Nat} (h : m ≤ 6) : (rowsI m).length = 2 ^ m := by
  have := List.all_eq_true.mp rows_ends m (List.mem_range.mpr (by omega))
  rw [Bool.and_eq_true] at this
  exact of_decide_eq_true this.1
theorem rowsI_ok {m : Nat} (hm : m ≤ 6) : ∀ r ∈ rowsI m, r.length = m ∧ Row01' r := fun r hr => by
  obtain ⟨i, hi, rfl⟩ := List.getElem_of_mem hr
  refine ⟨rows_len (List.getElem?_eq_getElem hi), fun x hx => ?_⟩
  obtain ⟨l, hl, hx'⟩ := chs_mem _ _ rfl _ hr x hx
  rw [(List.mem_replicate.mp hl).2] at hx'
  simpa using hx'
def hit (p : List Nat) (z : List Int × Bool) : Bool := !z.2 && hrow p z.1
theorem bit48 (b : Bool) : decide (V.str (one (bitS b)) = V.str (Str.ofString "0")) = !b := by
  rw [s0_one, str_dec, one_inj]
  cases b <;> rfl
def sp_why_not (T : Tx K mg) : Sp := fun vs H Q _ => ∃ (wa : Addr) (m : Nat) (bs : List Bool) (cs : List Ch) (p : List Nat), vs = [.ref wa, .str (SX.S p)] ∧ Tk H (.ref wa) (wishD m bs cs) ∧ WishOk m bs cs ∧ ProdOk m p ∧ Tabs H T.tabs ∧ ∀ v H', Gr H H' → WhyV H' (whyM m bs cs p) v → Q v H'
theorem ok_why_not (T : Tx K mg) (B : Tb base T) : FnOk P w K mg base CX0 6 T.f_why_not T.fd_why_not ["wish", "product"] (sp_why_not T) := by
  refine T.F_why_not.ok sc_why_not (fun vs H Q E h => ?_) (fun cdv A outer s H vs Q E hr h => ?_)
  · obtain ⟨wa, m, bs, cs, p, rfl, _⟩ := h
    rfl
  · obtain ⟨wa, m, bs, cs, p, rfl, tw, ok, okp, tabs, q⟩ := h
    obtain ⟨_, t, xs, e, hw, ht, tx⟩ := tw.wish_inv
    cases e
    have m1 := ok.m1
    have m4 := ok.m4
    have lb := ok.lb
    refine ⟨_, (pss_cons (ps_asg (pv 0) (pg_tup rfl (pgs_cons (pg_name (i := 2) sc_why_not.nd rfl (by first | exact .inl rfl | exact .inr rfl)) (pgs_cons (pg_name (i := 3) sc_why_not.nd rfl (by first | exact .inl rfl | exact .inr rfl)) (pgs_cons (pg_name (i := 4) sc_why_not.nd rfl (by first | exact .inl rfl | exact .inr rfl)) pgs_nil))))) (pss_cons (ps_for PassesOwn.never rfl (ZpG.pi_zip2 (by rfl) T.m_zip (pa_cons (pe_call (ok_rows_of T) (hr.mono (by decide)) (by rfl) T.g_rows_of T.F_rows_of.kp T.b_rows_of .nil pass0 (pa_cons (pv 2) pa_nil)) (pa_cons (pv 3) pa_nil))) (pg_tup rfl (pgs_cons (pg_name (i := 5) sc_why_not.nd rfl (by first | exact .inl rfl | exact .inr rfl)) (pgs_cons (pg_name (i := 6) sc_why_not.nd rfl (by first | exact .inl rfl | exact .inr rfl)) pgs_nil))) (pss_one (ps_if (pw_and (pt_cmpR op_eq (pv 6) pe_str (nomark _)) (pw_and1 (pt_val (pe_call (ok_holds_row T B) (hr.mono (by decide)) (by rfl) T.g_holds_row T.F_holds_row.kp T.b_holds_row .nil pass0 (pa_cons (pv 1) (pa_cons (pv 5) pa_nil)))))).pt (pss_one (ps_ret (pe_tup (pa_cons pe_str (pa_cons (pv 5) pa_nil))))) pss_nil))) (pss_cons (ps_for PassesOwn.never rfl (pi_enumT (by rfl) T.m_enumerate (pa_cons (pv 4) pa_nil)) (pg_tup rfl (pgs_cons (pg_name (i := 7) sc_why_not.nd rfl (by first | exact .inl rfl | exact .inr rfl)) (pgs_cons (pg_name (i := 8) sc_why_not.nd rfl (by first | exact .inl rfl | exact .inr rfl)) pgs_nil))) (pss_one (ps_if (pt_not (pt_val (pe_call (ok_is_allowed_at T B) (hr.mono (by decide)) (by rfl) T.g_is_allowed_at T.F_is_allowed_at.kp T.b_is_allowed_at .nil pass0 (pa_cons (pv 0) (pa_cons (pv 1) (pa_cons (pv 8) pa_nil)))))) (pss_one (ps_ret (pe_tup (pa_cons pe_str (pa_cons (pv 7) pa_nil))))) pss_nil))) (pss_one (ps_ret pe_non))))), ?_⟩
    refine ⟨.ref wa, rfl, wa, _, rfl, SqT.of hw, rfl, _, _, rfl, _, _, rfl, _, _, rfl, rfl, ?_⟩
    first | (show (_ : L2.St → Hp → Prop) [some (.ref wa), some (.str (SX.S p)), some (.int m), some (.str (tabOf bs)), some (.ref t), none, none, none, none] H) | (unfold gName; show (_ : L2.St → Hp → Prop) [some (.ref wa), some (.str (SX.S p)), some (.int m), some (.str (tabOf bs)), some (.ref t), none, none, none, none] H) | (dsimp only; show (_ : L2.St → Hp → Prop) [some (.ref wa), some (.str (SX.S p)), some (.int m), some (.str (tabOf bs)), some (.ref t), none, none, none, none] H) | (dsimp only [gName]; show (_ : L2.St → Hp → Prop) [some (.ref wa), some (.str (SX.S p)), some (.int m), some (.str (tabOf bs)), some (.ref t), none, none, none, none] H)
    refine ⟨.int m, rfl, m, rfl, m1, by omega, fun r H1 s1 tr => ?_⟩
    obtain ⟨_, rs, e, hr1, trs⟩ := tr.tup_inv
    cases e
    have lrs : rs.length = 2 ^ m := by
      have := trs.length
      rw [List.length_map] at this
      rw [this, rowsI_len (by omega)]
    have g1 : Gr H H1 := Gr.of s1
    refine ⟨.str (tabOf bs), rfl, .tu r, .tx (tabOf bs), rs, _, rfl, SqT.of hr1, at_tx (bs.map bitS), ?_⟩
    refine ZpG.for_zip2 (K := K) (n := 2 ^ m) lrs (by rw [List.length_map, List.length_map, lb]) (fun j σ H' => ∃ y5 y6, σ = [some (.ref wa), some (.str (SX.S p)), some (.int m), some (.str (tabOf bs)), some (.ref t), y5, y6, none, none] ∧ Gr H1 H' ∧ (((rowsI m).zip bs).take j).find? (hit p) = none) ⟨_, _, rfl, Gr.refl, rfl⟩ (fun j σ H' _ ⟨_, _, _, g, _⟩ => ⟨SqT.of (g.tup hr1), at_tx (bs.map bitS)⟩) ?_ ?_
    · rintro j x1 x2 Tq σ H2 h1 h2 nT ⟨y5, y6, rfl, g, ih⟩
      obtain ⟨ra, rw', rfl, hrw, hra⟩ := Tk.row_at trs h1
      obtain ⟨c, hc, rfl⟩ := one_at h2
      rw [List.getElem?_map] at hc
      obtain ⟨b, hb, rfl⟩ := Option.map_eq_some_iff.mp hc
      obtain ⟨lr, or⟩ := rowsI_ok (by omega) rw' (List.mem_of_getElem? hrw)
      have ez := zip_take_succ hrw hb
      have gT := g.trans (Gr.none (o := .tup [V.ref ra, .str (one (bitS b))]) nT)
      refine ⟨Tq, _, rfl, SqT.of upd_same, rfl, _, _, rfl, _, _, rfl, rfl, ?_⟩
      refine ⟨.str (one (bitS b)), rfl, rfl, _, rfl, ite2 (fun e => ?_) (fun e => ?_)⟩
      · have e1 := (bit48 b).symm.trans e
        refine ⟨.str (SX.S p), rfl, .ref ra, rfl, p, ra, rw', rfl, gT.tup hra, or, by rw [okp.1, lr], by omega, (g1.trans gT).tabs tabs, fun H3 g3 => ⟨_, rfl, ite2 (fun e2 => ?_) (fun e2 => ?_)⟩⟩
        · refine ⟨.ref ra, rfl, sl2, fun p' np => ?_⟩
          have g4 := (g1.trans gT).trans (g3.trans (Gr.none (o := .tup [V.str (Str.ofString "row"), .ref ra]) np))
          have ew : whyM m bs cs p = some (.inl rw') := by
            unfold whyM
            have := find_stop (f := hit p) ez ih (show hit p (rw', b) = true by show (!b && hrow p rw') = true; rw [e1, e2]; rfl)
            unfold hit at this
            rw [this]
          have z := q (.ref p') _ g4
          rw [ew] at z
          refine z (.tup upd_same (.cons (.str _) (.cons (.tup ?_ (TkAll.ints rw')) .nil)))
          exact (gT.trans (g3.trans (Gr.none np))).tup hra
        · refine ⟨_, _, rfl, gT.trans g3, find_more ez ih ?_⟩
          show (!b && hrow p rw') = false
          rw [Bool.eq_false_iff.mpr e2, Bool.and_false]
      · refine iteF ⟨_, _, rfl, gT, find_more ez ih ?_⟩
        show (!b && hrow p rw') = false
        have : (!b) = false := Bool.eq_false_iff.mpr fun z => e ((bit48 b).trans z)
        rw [this, Bool.false_and]
    · rintro σ H2 ⟨y5, y6, rfl, g, ih⟩
      have ez : ((rowsI m).zip bs).length ≤ 2 ^ m := by rw [List.length_zip]; omega
      rw [List.take_of_length_le ez] at ih
      have ew : whyM m bs cs p = (cs.findIdx? fun c => !atM bs p c.1 c.2).map .inr := by
        unfold whyM
        unfold hit at ih
        rw [ih]
      have gg := g1.trans g
      have lx := tx.length
      rw [List.length_map] at lx
      refine ⟨.ref t, rfl, t, xs, rfl, SqT.of (gg.tup ht), ?_⟩
      refine for_enumT (K := K) (a := t) (xs := xs) (fun j σ H' => ∃ y5 y6 y7 y8, σ = [some (.ref wa), some (.str (SX.S p)), some (.int m), some (.str (tabOf bs)), some (.ref t), y5, y6, y7, y8] ∧ Gr H H' ∧ ∀ i, i < j → ∀ c, cs[i]? = some c → (!atM bs p c.1 c.2) = false) ⟨_, _, _, _, rfl, gg, fun i hi => by omega⟩ (fun j σ H' _ ⟨_, _, _, _, _, g, _⟩ => SqT.of (g.tup ht)) ?_ ?_
      · rintro j x Tq σ H3 hx nT ⟨y5, y6, y7, y8, rfl, g3, ih3⟩
        obtain ⟨c, hc, tc⟩ := tx.at hx
        have gT := g3.trans (Gr.none (o := .tup [.int (j : Nat), x]) nT)
        obtain ⟨ca, rfl, hca⟩ := ChAt.of_tk (tc.gr gT)
        have okc := ok.oc c (List.mem_of_getElem? hc)
        refine ⟨Tq, _, rfl, SqT.of upd_same, rfl, _, _, rfl, _, _, rfl, rfl, ?_⟩
        refine ⟨.ref wa, rfl, .str (SX.S p), rfl, .ref ca, rfl, wa, ca, m, bs, _, p, c.1, c.2, rfl, gT.tup hw, lb, okp, hca, okc, gT.tabs tabs, fun H4 g4 => ⟨_, rfl, ite2 (fun e => ?_) (fun e => ?_)⟩⟩
        · refine ⟨.int (j : Nat), rfl, sl2, fun p' np => ?_⟩
          have z := q (.ref p') _ ((gT.trans g4).trans (Gr.none (o := .tup [V.str (Str.ofString "change"), .int (j : Nat)]) np))
          rw [ew, find_hit hc ih3 e] at z
          exact z (.tup upd_same (.cons (.str _) (.cons (.int _) .nil)))
        · refine ⟨_, _, _, _, rfl, gT.trans g4, fun i hi c' hc' => ?_⟩
          by_cases h : i = j
          · subst h
            rw [hc] at hc'
            cases hc'
            exact Bool.eq_false_iff.mpr e
          · exact ih3 i (by omega) c' hc'
      · rintro σ H3 ⟨y5, y6, y7, y8, rfl, g3, ih3⟩
        have z := q .non H3 g3
        rw [ew, find_miss (fun i hi c hc => ih3 i (by omega) c hc)] at z
        exact z rfl

end
end Gk

--@NEST
set_option Elab.async false
set_option linter.all false
set_option maxRecDepth 100000
set_option maxHeartbeats 1000000
set_option pp.maxSteps 1500
set_option pp.deepTerms false
namespace Gk
open PySem PySem.Spec PyProof.Rows L2
section
variable {P : Program} {w : World} {K : PySem.W.Frag} {mg : Str → Option Value} {base : Heap}
/-! ### things that may be products -/
inductive Od (H : Hp) : V → Option (List Nat) → Prop
  | str (p : List Nat) : p.length ≤ 64 → Od H (.str (SX.S p)) (some p)
  | non : Od H .non none
  | bl (b : Bool) : Od H (.bl b) none
  | int (i : Int) : Od H (.int i) none
  | lst {a : Addr} {xs : List V} : H a = some (.lst xs) → Od H (.ref a) none
  | tup {a : Addr} {xs : List V} : H a = some (.tup xs) → Od H (.ref a) none
  | dic {a : Addr} {kvs : List (Key × V)} : H a = some (.dK kvs) → Od H (.ref a) none
theorem Od.gr {H H' : Hp} (g : Gr H H') {v : V} {z : Option (List Nat)} (h : Od H v z) : Od H' v z := by
  cases h with
  | str p l => exact .str p l
  | non => exact .non
  | bl b => exact .bl b
  | int i => exact .int i
  | lst h => exact .lst (g.lst h)
  | tup h => exact .tup (g.tup h)
  | dic h => exact .dic (g.1 _ _ (fun _ z => by cases z) h)
def odTy : Option (List Nat) → Bool
  | some _ => true
  | none => false
theorem Od.ty {H : Hp} {v : V} {z : Option (List Nat)} (h : Od H v z) : ∃ t, TyX K H v (.type t) ∧ kitB t "str" = some (odTy z) := by
  cases h with
  | str p => exact ⟨_, .base (.str _), (by decide +kernel : kitB "str" "str" = some true)⟩
  | non => exact ⟨_, .base .non, (by decide +kernel : kitB "NoneType" "str" = some false)⟩
  | bl b => exact ⟨_, .base (.bl b), (by decide +kernel : kitB "bool" "str" = some false)⟩
  | int i => exact ⟨_, .base (.int i), (by decide +kernel : kitB "int" "str" = some false)⟩
  | lst h => exact ⟨_, .base (.lst h), (by decide +kernel : kitB "list" "str" = some false)⟩
  | tup h => exact ⟨_, .base (.tup h), (by decide +kernel : kitB "tuple" "str" = some false)⟩
  | dic h => exact ⟨_, .base (.dK h), (by decide +kernel : kitB "dict" "str" = some false)⟩
def sgB (c : Nat) : Bool := decide (c ∈ (Str.ofString "01-").cps.toList)
theorem sgB_iff {c : Nat} : sgB c = true ↔ SgOk c := by
  have e : (Str.ofString "01-").cps.toList = [48, 49, 45] := by decide +kernel
  unfold sgB
  rw [e, decide_eq_true_eq]
  unfold SgOk
  simp only [List.mem_cons, List.not_mem_nil, or_false]
  omega
def isPr (m : Nat) (p : List Nat) : Bool := decide (p.length = m) && p.all sgB
theorem isPr_iff {m : Nat} {p : List Nat} : isPr m p = true ↔ ProdOk m p := by
  unfold isPr ProdOk
  rw [Bool.and_eq_true, decide_eq_true_eq, List.all_eq_true]
  exact ⟨fun h => ⟨h.1, fun c hc => sgB_iff.mp (h.2 c hc)⟩, fun h => ⟨h.1, fun c hc => sgB_iff.mpr (h.2 c hc)⟩⟩
def isOd (m : Nat) : Option (List Nat) → Bool
  | some p => isPr m p
  | none => false
theorem all_stop' {α : Type} {f : α → Bool} {l : List α} {j : Nat} {x : α} (h : l[j]? = some x) (n : ¬ f x = true) : l.all f = false := by
  cases e : l.all f with
  | false => rfl
  | true => exact absurd (List.all_eq_true.mp e x (List.mem_of_getElem? h)) n
theorem all_take {α : Type} {f : α → Bool} {l : List α} {j : Nat} {x : α} (h : l[j]? = some x) (p : (l.take j).all f = true) (hx : f x = true) : (l.take (j + 1)).all f = true := by
  rw [List.take_add_one, h, List.all_append, p, Bool.true_and]
  show (f x && true) = true
  rw [hx]
  rfl
def sp_is_product (T : Tx K mg) : Sp := fun vs H Q _ => ∃ (m : Nat) (v : V) (z : Option (List Nat)), vs = [.int m, v] ∧ Od H v z ∧ GzN.TabG H T.P_is_product ∧ ∀ H', Gr H H' → Q (.bl (isOd m z)) H'
theorem ok_is_product (T : Tx K mg) (B : Tb base T) : FnOk P w K mg base CX0 2 T.f_is_product T.fd_is_product ["many", "thing"] (sp_is_product T) := by
  refine okC T.F_is_product sc_is_product (fun vs H Q E h => ?_) (fun A outer s H vs Q E hr h => ?_)
  · obtain ⟨m, v, z, rfl, _⟩ := h
    rfl
  · obtain ⟨m, v, z, rfl, sh, tab, q⟩ := h
    refine ⟨_, (pss_one (ps_ret (pe_and (pe_callB call_isi (by rfl) T.m_isinstance (by decide +kernel) (pa_cons (pv 1) (pa_cons (pe_bltn (v := .ty "str") (u := .type "str") (by rfl) T.m_str (by decide +kernel) rfl) pa_nil))) (pe_and (pe_cmpR op_eq (pe_callB call_len_str (by rfl) T.m_len PySem.boot_len (pa_cons (pv 1) pa_nil)) (pv 0) (nomark _)) (pe_one (pe_allX (own := [("sign", 2)]) (k := 0) (hr.mono (by decide)) rfl sc_is_product.nd (by rfl) T.m_all (by decide +kernel) B.TB_is_product T.cd_is_product rfl rfl (blkOk_by (own := [("sign", 2)]) (N := ["many", "thing", "sign"]) (sc := defScope s_is_product) (by decide +kernel)) (pi_str (pv 1)) (fun _ _ _ _ _ c1 P1 _ hr gd => (pg_name (i := 2) sc_is_product.nd rfl (by first | exact .inl rfl | exact .inr rfl))) (fun _ _ _ _ _ c1 P1 _ hr gd => pts_nil) (fun _ _ _ _ _ c1 P1 _ hr gd => (pe_cmpR op_in_sign (pv 2) pe_str rfl)) (fun _ => rfl))))))), ?_⟩
    obtain ⟨t, ty, kit⟩ := Od.ty (K := K) sh
    refine ⟨v, rfl, _, _, _, _, _, rfl, .ty _, ty, kit_ty kit, _, rfl, ?_⟩
    cases sh with
    | str p l64 =>
      refine iteT ?_
      refine ⟨.str (SX.S p), rfl, _, rfl, ?_, .int m, rfl, rfl, _, rfl, ?_⟩
      · rw [SX.S_len]
        exact Nat.le_trans l64 (by decide)
      rw [SX.S_len]
      refine ite2 (fun e1 => ?_) (fun e1 => ?_)
      · have e2 : p.length = m := by have := V.int.inj (of_decide_eq_true e1); omega
        refine ⟨.str (SX.S p), rfl, SX.S p, rfl, tab, fun H2 tb => ?_⟩
        have g2 := Gr.tab tab tb
        refine gx_str (z := SX.S p) (fun j _ H' => H' = H2 ∧ (p.take j).all sgB = true) ⟨rfl, rfl⟩ ?_ ?_
        · rintro j c _ H' hx ⟨rfl, ih⟩
          have hc := S_at hx
          refine ⟨rfl, .str ⟨#[c]⟩, rfl, c, _, rfl, rfl, _, rfl, ite2 (fun z => ⟨rfl, all_take hc ih z⟩) (fun z => ?_)⟩
          have q' := q H' g2
          have : isOd m (some p) = false := by
            show (decide (p.length = m) && p.all sgB) = false
            rw [all_stop' hc z, Bool.and_false]
          rw [this] at q'
          exact q'
        · rintro _ H' ⟨rfl, ih⟩
          rw [S_size, List.take_length] at ih
          have q' := q H' g2
          have : isOd m (some p) = true := by
            show (decide (p.length = m) && p.all sgB) = true
            rw [ih, decide_eq_true e2]
            rfl
          rw [this] at q'
          exact q'
      · have q' := q H Gr.refl
        have : isOd m (some p) = false := by
          show (decide (p.length = m) && p.all sgB) = false
          rw [decide_eq_false (fun z => e1 (decide_eq_true (by rw [z]))), Bool.false_and]
        rw [this] at q'
        exact q'
    | non => exact iteF (q H Gr.refl)
    | bl b => exact iteF (q H Gr.refl)
    | int i => exact iteF (q H Gr.refl)
    | lst h => exact iteF (q H Gr.refl)
    | tup h => exact iteF (q H Gr.refl)
    | dic h => exact iteF (q H Gr.refl)
def alM (m : Nat) (bs : List Bool) (cs : List Ch) : Option (List Nat) → Bool
  | some p => isPr m p && (whyM m bs cs p).isNone
  | none => false
theorem why_none {H : Hp} {z : Why} {v : V} (h : WhyV H z v) : decide (v = .non) = z.isNone := by
  match z, h with
  | none, h => exact decide_eq_true h
  | some (.inl r), h =>
    cases h
    rfl
  | some (.inr k), h =>
    cases h
    rfl
def sp_is_allowed (T : Tx K mg) : Sp := fun vs H Q _ => ∃ (wa : Addr) (m : Nat) (bs : List Bool) (cs : List Ch) (v : V) (z : Option (List Nat)), vs = [.ref wa, v] ∧ Tk H (.ref wa) (wishD m bs cs) ∧ WishOk m bs cs ∧ Od H v z ∧ Tabs H T.tabs ∧ ∀ H', Gr H H' → Q (.bl (alM m bs cs z)) H'
theorem ok_is_allowed (T : Tx K mg) (B : Tb base T) : FnOk P w K mg base CX0 7 T.f_is_allowed T.fd_is_allowed ["wish", "product"] (sp_is_allowed T) := by
  refine T.F_is_allowed.ok sc_is_allowed (fun vs H Q E h => ?_) (fun cdv A outer s H vs Q E hr h => ?_)
  · obtain ⟨wa, m, bs, cs, v, z, rfl, _⟩ := h
    rfl
  · obtain ⟨wa, m, bs, cs, v, z, rfl, tw, ok, od, tabs, q⟩ := h
    obtain ⟨_, t, xs, e, hw, ht, tx⟩ := tw.wish_inv
    cases e
    refine ⟨_, (pss_one (ps_ret (pe_and (pe_call (ok_is_product T B) (hr.mono (by decide)) (by rfl) T.g_is_product T.F_is_product.kp T.b_is_product .nil pass0 (pa_cons (pe_ix ix_tup (pv 0) pe_int (fun _ _ => rfl)) (pa_cons (pv 1) pa_nil))) (pe_one (pe_cmpR op_isN (pe_call (ok_why_not T B) (hr.mono (by decide)) (by rfl) T.g_why_not T.F_why_not.kp T.b_why_not .nil pass0 (pa_cons (pv 0) (pa_cons (pv 1) pa_nil))) pe_non (nomark _)))))), ?_⟩
    refine ⟨.ref wa, rfl, wa, _, _, .int m, rfl, rfl, SqT.of hw, rfl, v, rfl, m, v, z, rfl, od, tabs _ (by simp [Tx.tabs]), fun H1 g1 => ⟨_, rfl, ite2 (fun e => ?_) (fun e => ?_)⟩⟩
    · cases z with
      | none => cases e
      | some p =>
        cases od with
        | str _ l64 =>
          refine ⟨.ref wa, rfl, .str (SX.S p), rfl, wa, m, bs, cs, p, rfl, tw.gr g1, ok, isPr_iff.mp e, g1.tabs tabs, fun v' H2 g2 wv => ⟨rfl, ?_⟩⟩
          have z := q H2 (g1.trans g2)
          have ez : alM m bs cs (some p) = (whyM m bs cs p).isNone := by
            show (isPr m p && _) = _
            rw [show isPr m p = true from e, Bool.true_and]
          rw [ez, ← why_none wv] at z
          exact z
    · have y := q H1 g1
      have ez : alM m bs cs z = false := by
        cases z with
        | none => rfl
        | some p =>
          show (isPr m p && _) = false
          rw [show isPr m p = false from Bool.eq_false_iff.mpr e, Bool.false_and]
      rw [ez] at y
      exact y
theorem alM_ok {m : Nat} {bs : List Bool} {cs : List Ch} {p : List Nat} (h : ProdOk m p) : alM m bs cs (some p) = (whyM m bs cs p).isNone := by
  show (isPr m p && _) = _
  rw [isPr_iff.mpr h, Bool.true_and]

end
end Gk

--@NEST
set_option Elab.async false
set_option linter.all false
set_option maxRecDepth 100000
set_option maxHeartbeats 1000000
set_option pp.maxSteps 1500
set_option pp.deepTerms false
namespace Gk
open PySem PySem.Spec PyProof.Rows L2
section
variable {P : Program} {w : World} {K : PySem.W.Frag} {mg : Str → Option Value} {base : Heap}
/-! ### all choices, in order -/
theorem lt_app {x y : List Nat} : ∀ {a b : List Nat}, a.length = b.length → a < b → a ++ x < b ++ y
  | [], [], _, h => absurd h (List.lt_irrefl _)
  | [], _ :: _, h, _ => by cases h
  | _ :: _, [], h, _ => by cases h
  | p :: a, q :: b, h, z => by
    rw [List.cons_append, List.cons_append, List.cons_lt_cons_iff]
    rcases List.cons_lt_cons_iff.mp z with z1 | ⟨z1, z2⟩
    · exact .inl z1
    · exact .inr ⟨z1, lt_app (Nat.succ.inj h) z2⟩
theorem lt_snoc {o o' : Nat} (h : o < o') : ∀ a : List Nat, a ++ [o] < a ++ [o']
  | [] => List.cons_lt_cons_iff.mpr (.inl h)
  | p :: a => by
    rw [List.cons_append, List.cons_append, List.cons_lt_cons_iff]
    exact .inr ⟨rfl, lt_snoc h a⟩
theorem stepC_sorted {cs : List (List Nat)} {os : List Nat} {n : Nat} (hl : ∀ c ∈ cs, c.length = n) (h1 : cs.Pairwise (· < ·)) (h2 : os.Pairwise (· < ·)) : (stepC cs os).Pairwise (· < ·) := by
  unfold stepC
  rw [List.pairwise_flatMap]
  refine ⟨fun c _ => List.pairwise_map.mpr (h2.imp fun h => lt_snoc h c), ?_⟩
  refine List.Pairwise.imp_of_mem (fun {a b} ha hb hab => ?_) h1
  intro x hx y hy
  obtain ⟨o, _, rfl⟩ := List.mem_map.mp hx
  obtain ⟨o', _, rfl⟩ := List.mem_map.mp hy
  exact lt_app (by rw [hl a ha, hl b hb]) hab
theorem chs_sorted : ∀ (n : Nat) (ls : List (List Nat)), ls.length = n → (∀ l ∈ ls, l.Pairwise (· < ·)) → (chs ls).Pairwise (· < ·) := by
  intro n
  induction n with
  | zero =>
    intro ls h _
    cases List.eq_nil_of_length_eq_zero h
    exact List.pairwise_singleton _ _
  | succ n ih =>
    intro ls h hs
    have hne : ls ≠ [] := fun z => by rw [z] at h; cases h
    obtain ⟨r, x, rfl⟩ : ∃ r x, ls = r ++ [x] := ⟨ls.dropLast, ls.getLast hne, (List.dropLast_concat_getLast hne).symm⟩
    rw [chs_snoc]
    exact stepC_sorted (n := r.length) (fun c hc => chs_width r c hc) (ih r (by rw [List.length_append] at h; simpa using h) fun l hl => hs l (List.mem_append_left _ hl)) (hs x (by simp))

/-! ### all products -/
def prodL : Nat → List (List Nat)
  | 0 => [[]]
  | k + 1 => ((prodL k).map (· ++ [45]) ++ (prodL k).map (· ++ [48])) ++ (prodL k).map (· ++ [49])
def prodsU (m : Nat) : List (List Nat) := chs (List.replicate m [45, 48, 49])
theorem prodL_len : ∀ k, (prodL k).length = 3 ^ k
  | 0 => rfl
  | k + 1 => by
    unfold prodL
    rw [List.length_append, List.length_append, List.length_map, List.length_map, List.length_map, prodL_len k, Nat.pow_succ]
    omega
theorem prodL_wid : ∀ k, ∀ p ∈ prodL k, p.length = k
  | 0, p, h => by rw [List.mem_singleton.mp h]; rfl
  | k + 1, p, h => by
    unfold prodL at h
    have ih := prodL_wid k
    rcases List.mem_append.mp h with h | h
    · rcases List.mem_append.mp h with h | h
      · obtain ⟨q, hq, rfl⟩ := List.mem_map.mp h
        rw [List.length_append, ih q hq]; rfl
      · obtain ⟨q, hq, rfl⟩ := List.mem_map.mp h
        rw [List.length_append, ih q hq]; rfl
    · obtain ⟨q, hq, rfl⟩ := List.mem_map.mp h
      rw [List.length_append, ih q hq]; rfl
theorem perm_prods : ((List.range 5).all fun m => (prodL m).isPerm (prodsU m)) = true := by decide +kernel
theorem prodsU_sorted (m : Nat) : ((prodsU m).map SX.S).Pairwise (fun x y => SrtS.ltC y x = false) := by
  rw [List.pairwise_map]
  refine (chs_sorted _ (List.replicate m [45, 48, 49]) rfl fun l hl => ?_).imp fun {a b} hab => ?_
  · rw [(List.mem_replicate.mp hl).2]
    decide
  · refine decide_eq_false ?_
    show ¬ (b.toArray.toList < a.toArray.toList)
    exact List.lt_asymm hab
theorem prodsU_ok {m : Nat} : ∀ p ∈ prodsU m, ProdOk m p := fun p hp => by
  have h := chs_width _ _ hp
  rw [List.length_replicate] at h
  refine ⟨h, fun c hc => ?_⟩
  obtain ⟨l, hl, hc'⟩ := chs_mem _ _ rfl _ hp c hc
  rw [(List.mem_replicate.mp hl).2] at hc'
  simpa [SgOk] using hc'
theorem pVs_S (ps : List (List Nat)) : pVs ps = (ps.map SX.S).map V.str := by
  unfold pVs
  rw [List.map_map]
  rfl
theorem sg_add (p : List Nat) {x : Str} {c : Nat} (h : x = one c) (l : p.length ≤ 64) : (SX.S p).length + x.length ≤ sizeLine ∧ SX.S p ++ x = SX.S (p ++ [c]) := by
  subst h
  refine ⟨?_, S_app p [c]⟩
  rw [SX.S_len]
  exact Nat.le_trans (show p.length + 1 ≤ 65 by omega) (by decide)
def sp_all_products (K : PySem.W.Frag) : Sp := fun vs H Q _ => ∃ m : Nat, vs = [.int m] ∧ 1 ≤ m ∧ m ≤ 4 ∧ ∀ r H', H r = none → Same H H' → H' r = some (.lst (pVs (prodsU m))) → Q (.ref r) H'
theorem ok_all_products (T : Tx K mg) : FnOk P w K mg base CX0 1 T.f_all_products T.fd_all_products ["_law_many"] (sp_all_products K) := by
  refine T.F_all_products.ok sc_all_products (fun vs H Q E h => ?_) (fun cdv A outer s H vs Q E hr h => ?_)
  · obtain ⟨m, rfl, _⟩ := h
    rfl
  · obtain ⟨m, rfl, m1, m4, q⟩ := h
    refine ⟨_, (pss_cons (ps_set (i := 1) sc_all_products.nd rfl (by first | exact .inl rfl | exact .inr rfl) (pe_lst (pa_cons pe_str pa_nil))) (pss_cons (ps_for PassesOwn.never rfl (pi_range1 (by rfl) T.m_range (pa_cons (pv 0) pa_nil)) (pg_name (i := 2) sc_all_products.nd rfl (by first | exact .inl rfl | exact .inr rfl)) (pss_one (ps_set (i := 1) sc_all_products.nd rfl (by first | exact .inl rfl | exact .inr rfl) (pe_op op_cat (pe_op op_cat (pe_lc (own := [("_law_one", 3)]) (by rfl) sc_all_products.nd (pi_list (pv 1)) (blkOk_by (own := [("_law_one", 3)]) (N := ["_law_many", "_law_found", "_law_place", "_law_one"]) (sc := defScope s_all_products) (by decide +kernel)) (fun _ _ _ _ _ => (pg_name (i := 3) sc_all_products.nd rfl (by first | exact .inl rfl | exact .inr rfl))) (fun _ _ _ _ _ => pts_nil) (fun _ _ _ _ _ => (pe_op op_add_str (pv 3) pe_str))) (pe_lc (own := [("_law_one", 3)]) (by rfl) sc_all_products.nd (pi_list (pv 1)) (blkOk_by (own := [("_law_one", 3)]) (N := ["_law_many", "_law_found", "_law_place", "_law_one"]) (sc := defScope s_all_products) (by decide +kernel)) (fun _ _ _ _ _ => (pg_name (i := 3) sc_all_products.nd rfl (by first | exact .inl rfl | exact .inr rfl))) (fun _ _ _ _ _ => pts_nil) (fun _ _ _ _ _ => (pe_op op_add_str (pv 3) pe_str)))) (pe_lc (own := [("_law_one", 3)]) (by rfl) sc_all_products.nd (pi_list (pv 1)) (blkOk_by (own := [("_law_one", 3)]) (N := ["_law_many", "_law_found", "_law_place", "_law_one"]) (sc := defScope s_all_products) (by decide +kernel)) (fun _ _ _ _ _ => (pg_name (i := 3) sc_all_products.nd rfl (by first | exact .inl rfl | exact .inr rfl))) (fun _ _ _ _ _ => pts_nil) (fun _ _ _ _ _ => (pe_op op_add_str (pv 3) pe_str))))))) (pss_one (ps_ret (pe_callB cr_sortedTx (by rfl) T.m_sorted (by decide +kernel) (pa_cons (pv 1) pa_nil)))))), ?_⟩
    refine ⟨sl1, fun c0 nc0 => ?_⟩
    refine ⟨.int m, rfl, (m : Int), rfl, by omega, by omega, ?_⟩
    refine for_range (lo := 0) (n := (m : Int).toNat) (fun i σ H' => ∃ ca y2 y3, σ = [some (.int m), some (.ref ca), y2, y3] ∧ Same H H' ∧ H' ca = some (.lst (pVs (prodL i))))
      ⟨c0, _, _, rfl, same_upd nc0, by rw [show Str.ofString "" = SX.S [] from by decide +kernel]; exact upd_same⟩ ?_ ?_
    · rintro i σ H1 hi ⟨ca, y2, y3, rfl, s1, hca⟩
      have hi' : i < m := by simpa using hi
      have big : (prodL i).length ≤ 27 := by
        rw [prodL_len]
        exact Nat.pow_le_pow_right (by decide) (show i ≤ 3 by omega)
      have wid := prodL_wid i
      revert hca big wid
      generalize eps : prodL i = ps
      intro hca big wid
      have lcs : (pVs ps).length = ps.length := by unfold pVs; rw [List.length_map]
      have snoc : ∀ (c : Nat) (k : Nat) (p : List Nat), ps[k]? = some p → pVs ((ps.take k).map (· ++ [c])) ++ [V.str (SX.S (p ++ [c]))] = pVs ((ps.take (k + 1)).map (· ++ [c])) := fun c k p h => by
        rw [List.take_add_one, h]
        unfold pVs
        simp
      have small : ∀ (c k : Nat), (pVs ((ps.take k).map (· ++ [c]))).length < sizeLine := fun c k => by
        unfold pVs
        rw [List.length_map, List.length_map, List.length_take]
        exact Nat.lt_of_lt_of_le (show _ < 64 by omega) (by decide)
      refine ⟨.ref ca, rfl, ca, rfl, ⟨_, SqL.of hca⟩, fun D nD => ?_⟩
      refine lc_list (K := K) (a := ca) (xs := pVs ps) (fun k H' => Same H1 (hd1 D H') ∧ H' D = some (.lst (pVs ((ps.take k).map (· ++ [45]))))) ⟨hd1_of (same_upd nD) nD, upd_same⟩ (fun k H' _ z => SqL.of (hd1_le _ _ (z.1 _ _ hca))) ?_ ?_
      · rintro k x H2 hx ⟨s2, hD⟩
        obtain ⟨p, hp, rfl⟩ := pV_at hx
        obtain ⟨f1, f2⟩ := sg_add p dash_S (by have := wid p (List.mem_of_getElem? hp); omega)
        refine ⟨rfl, .str (SX.S p), rfl, _, _, rfl, rfl, f1, ?_⟩
        rw [f2]
        exact ⟨_, hD, small 45 k, s2.trans hd1_upd, by rw [upd_same, snoc 45 k p hp]⟩
      rintro H2 ⟨s2, hD⟩
      rw [lcs, List.take_length] at hD
      have s12 : Same H1 H2 := fun b o e => hd1_le _ _ (s2 _ _ e)
      refine ⟨.ref ca, rfl, ca, rfl, ⟨_, SqL.of (s12 _ _ hca)⟩, fun D' nD' => ?_⟩
      refine lc_list (K := K) (a := ca) (xs := pVs ps) (fun k H' => Same H2 (hd1 D' H') ∧ H' D' = some (.lst (pVs ((ps.take k).map (· ++ [48]))))) ⟨hd1_of (same_upd nD') nD', upd_same⟩ (fun k H' _ z => SqL.of (hd1_le _ _ (z.1 _ _ (s12 _ _ hca)))) ?_ ?_
      · rintro k x H3 hx ⟨s3, hD3⟩
        obtain ⟨p, hp, rfl⟩ := pV_at hx
        obtain ⟨f1, f2⟩ := sg_add p s0_one (by have := wid p (List.mem_of_getElem? hp); omega)
        refine ⟨rfl, .str (SX.S p), rfl, _, _, rfl, rfl, f1, ?_⟩
        rw [f2]
        exact ⟨_, hD3, small 48 k, s3.trans hd1_upd, by rw [upd_same, snoc 48 k p hp]⟩
      rintro H3 ⟨s3, hD3⟩
      rw [lcs, List.take_length] at hD3
      have s23 : Same H2 H3 := fun b o e => hd1_le _ _ (s3 _ _ e)
      have len3 : ∀ c : Nat, (pVs (ps.map (· ++ [c]))).length = ps.length := fun c => by unfold pVs; rw [List.length_map, List.length_map]
      refine ⟨D, D', _, _, rfl, rfl, s23 _ _ hD, hD3, by rw [len3, len3]; exact Nat.le_trans (show _ ≤ 128 by omega) (by decide), fun F nF => ?_⟩
      have s4 := same_upd (o := (HO.lst (pVs (ps.map (· ++ [45])) ++ pVs (ps.map (· ++ [48]))))) nF
      have h4 : upd H3 F (HO.lst (pVs (ps.map (· ++ [45])) ++ pVs (ps.map (· ++ [48])))) F = some (HO.lst (pVs (ps.map (· ++ [45])) ++ pVs (ps.map (· ++ [48])))) := upd_same
      generalize upd H3 F (HO.lst (pVs (ps.map (· ++ [45])) ++ pVs (ps.map (· ++ [48])))) = H4 at s4 h4 ⊢
      have s14 := (s12.trans s23).trans s4
      refine ⟨.ref ca, rfl, ca, rfl, ⟨_, SqL.of (s14 _ _ hca)⟩, fun D2 nD2 => ?_⟩
      refine lc_list (K := K) (a := ca) (xs := pVs ps) (fun k H' => Same H4 (hd1 D2 H') ∧ H' D2 = some (.lst (pVs ((ps.take k).map (· ++ [49]))))) ⟨hd1_of (same_upd nD2) nD2, upd_same⟩ (fun k H' _ z => SqL.of (hd1_le _ _ (z.1 _ _ (s14 _ _ hca)))) ?_ ?_
      · rintro k x H5 hx ⟨s5, hD5⟩
        obtain ⟨p, hp, rfl⟩ := pV_at hx
        obtain ⟨f1, f2⟩ := sg_add p s1_one (by have := wid p (List.mem_of_getElem? hp); omega)
        refine ⟨rfl, .str (SX.S p), rfl, _, _, rfl, rfl, f1, ?_⟩
        rw [f2]
        exact ⟨_, hD5, small 49 k, s5.trans hd1_upd, by rw [upd_same, snoc 49 k p hp]⟩
      rintro H5 ⟨s5, hD5⟩
      rw [lcs, List.take_length] at hD5
      have s45 : Same H4 H5 := fun b o e => hd1_le _ _ (s5 _ _ e)
      refine ⟨F, D2, _, _, rfl, rfl, s45 _ _ h4, hD5, by rw [List.length_append, len3, len3, len3]; exact Nat.le_trans (show _ ≤ 128 by omega) (by decide), fun G nG => ?_⟩
      refine ⟨G, _, _, rfl, ((s1.trans s14).trans s45).trans (same_upd nG), ?_⟩
      rw [upd_same]
      unfold prodL
      rw [eps]
      unfold pVs
      rw [List.map_append, List.map_append]
    · rintro σ H1 ⟨ca, y2, y3, rfl, s1, hca⟩
      rw [show (m : Int).toNat = m by omega] at hca
      refine ⟨.ref ca, rfl, ca, (prodL m).map SX.S, rfl, SqL.of (by rw [hca, pVs_S]), fun ys p pm st np => ?_⟩
      have hp := List.isPerm_iff.mp (List.all_eq_true.mp perm_prods m (List.mem_range.mpr (by omega)))
      have e := sorted_uniq (pm.trans (hp.map SX.S)) st (prodsU_sorted m)
      subst e
      have np0 : H p = none := by
        cases z : H p with
        | none => rfl
        | some o => rw [s1 _ _ z] at np; cases np
      exact q p _ np0 (s1.trans (same_upd np)) (by rw [upd_same, pVs_S])

end
end Gk

--@NEST
set_option Elab.async false
set_option linter.all false
set_option maxRecDepth 100000
set_option maxHeartbeats 1000000
set_option pp.maxSteps 1500
set_option pp.deepTerms false
namespace Gk
open PySem PySem.Spec PyProof.Rows L2
/-! ### l != [] of any list -/
namespace NeL
section
open PySem.W PySem.Calls HT
variable {X : Cx}
def rNeN (K : PySem.W.Frag) : R2 := fun x y H Q => ∃ a b xs, x = .ref a ∧ y = .ref b ∧ SqL K H a xs ∧ SqL K H b [] ∧ Q (.bl (!xs.isEmpty)) H
theorem op_neN (hu : X.A.units + 64 < cLine) : OpR X (compareOp .NotEq) (rNeN X.K) := by
  intro pins s σ H x y v u Q I rx ry h
  obtain ⟨a, b, xs, rfl, rfl, ha, hb, q⟩ := h
  cases rx
  cases ry
  obtain ⟨us, r1, t1, _⟩ := I.list ha
  obtain ⟨ws, r2, t2, _⟩ := I.list hb
  cases r2
  cases r1 with
  | nil => exact SeqAt.RcNeAt.lists (e := fun _ => true) t1.isList t2.isList rfl (by omega) (fun j h1 _ => absurd h1 (Nat.not_lt_zero _)) _ _ _ _ ⟨.bl false, H, I, rfl, q⟩
  | cons _ _ => exact SeqAt.RcNeAt.lists_lengths t1.isList t2.isList (by simp) (by omega) _ _ _ _ ⟨.bl true, H, I, rfl, q⟩
def rEqN (K : PySem.W.Frag) : R2 := fun x y H Q => ∃ a b xs, x = .ref a ∧ y = .ref b ∧ SqL K H a xs ∧ SqL K H b [] ∧ Q (.bl xs.isEmpty) H
theorem op_eqN (hu : X.A.units + 64 < cLine) : OpR X (compareOp .Eq) (rEqN X.K) := by
  intro pins s σ H x y v u Q I rx ry h
  obtain ⟨a, b, xs, rfl, rfl, ha, hb, q⟩ := h
  cases rx
  cases ry
  obtain ⟨us, r1, t1, _⟩ := I.list ha
  obtain ⟨ws, r2, t2, _⟩ := I.list hb
  cases r2
  cases r1 with
  | nil => exact SeqAt.RcAt.lists (e := fun _ => true) t1.isList t2.isList rfl (by omega) (fun j h1 _ => absurd h1 (Nat.not_lt_zero _)) _ _ _ _ ⟨.bl true, H, I, rfl, q⟩
  | cons _ _ => exact SeqAt.RcAt.lists_lengths t1.isList t2.isList (by simp) (by omega) _ _ _ _ ⟨.bl false, H, I, rfl, q⟩
end
end NeL

section
variable {P : Program} {w : World} {K : PySem.W.Frag} {mg : Str → Option Value} {base : Heap}
/-! ### what is allowed: the law's own -/
theorem wish_row {H : Hp} {p : Addr} {r : List Int} (h : H p = some (.tup (r.map V.int))) : Tk H (.ref p) (rowD r) := .tup h (TkAll.ints r)
def sp_fits (K : PySem.W.Frag) : Sp := fun vs H Q _ => ∃ (wa c : Addr) (m : Nat) (bs : List Bool) (x : V) (p : List Nat) (a b : List Int), vs = [.ref wa, .str (SX.S p), .ref c] ∧ H wa = some (.tup [.int m, .str (tabOf bs), x]) ∧ bs.length = 2 ^ m ∧ ProdOk m p ∧ ChAt H c a b ∧ ChOk m a b ∧ ∀ H', Same H H' → Q (.bl (atM bs p a b)) H'
theorem ok_fits (T : Tx K mg) : FnOk P w K mg base CX0 2 T.f_fits T.fd_fits ["_law_wish_here", "_law_product_here", "_law_change_here"] (sp_fits K) := by
  refine T.F_fits.ok sc_fits (fun vs H Q E h => ?_) (fun cdv A outer s H vs Q E hr h => ?_)
  · obtain ⟨wa, c, m, bs, x, p, a, b, rfl, _⟩ := h
    rfl
  · obtain ⟨wa, c, m, bs, x, p, a, b, rfl, hw, lb, okp, ⟨ra, rb, hc, ha, hb⟩, ok, q⟩ := h
    refine ⟨_, (pss_cons (ps_if (pt_not (pt_val (pe_call (ok_meets T) (hr.mono (by decide)) (by rfl) T.g_meets T.F_meets.kp T.b_meets .nil pass0 (pa_cons (pv 1) (pa_cons (pe_call (ok_cube T) (hr.mono (by decide)) (by rfl) T.g_cube T.F_cube.kp T.b_cube .nil pass0 (pa_cons (pe_ix ix_tup (pv 2) pe_int (fun _ _ => rfl)) (pa_cons (pe_ix ix_tup (pv 2) pe_int (fun _ _ => rfl)) pa_nil))) pa_nil))))) (pss_one (ps_ret pe_bl)) pss_nil) (pss_cons (ps_setLc (i := 3) (own := [("_law_row", 4)]) (by rfl) sc_fits.nd rfl rfl (sw_true rfl rfl rfl (by decide +kernel)) (pi_tup (pv 2)) (blkOk_by (own := [("_law_row", 4)]) (N := ["_law_wish_here", "_law_product_here", "_law_change_here", "_law_bright", "_law_row"]) (sc := defScope s_fits) (by decide +kernel)) (fun _ _ _ _ _ => (pg_name (i := 4) sc_fits.nd rfl (by first | exact .inl rfl | exact .inr rfl))) (fun _ _ _ _ _ => (pts_one (pt_cmpR op_eq (pe_call (ok_worth T) (hr.mono (by decide)) (by rfl) T.g_worth T.F_worth.kp T.b_worth .nil pass0 (pa_cons (pv 0) (pa_cons (pv 4) pa_nil))) pe_int (nomark _)))) (fun _ _ _ _ _ => (pv 4))) (pss_cons (ps_if (pt_cmpR op_eq (pe_callB call_len_seq (by rfl) T.m_len PySem.boot_len (pa_cons (pv 3) pa_nil)) pe_int (nomark _)) (pss_one (ps_ret pe_bl)) pss_nil) (pss_one (ps_ret (pe_and (pe_cmpR (NeL.op_neN hr.units) (pv 3) (pe_lst pa_nil) (nomark _)) (pe_one (pe_call (ok_holds T) (hr.mono (by decide)) (by rfl) T.g_holds T.F_holds.kp T.b_holds .nil pass0 (pa_cons (pv 1) (pa_cons (pe_ix ix_list (pv 3) pe_int (fun _ _ => rfl)) pa_nil)))))))))), ?_⟩
    have m6 := ok.m6
    refine ⟨.str (SX.S p), rfl, .ref c, rfl, c, _, _, .ref ra, rfl, rfl, SqT.of hc, rfl, .ref c, rfl, c, _, _, .ref rb, rfl, rfl, SqT.of hc, rfl, m, ra, rb, a, b, rfl, ha, hb, ok.oa, ok.la, ok.lb, m6, fun H1 s1 => ?_⟩
    refine ⟨m, p, cubeM a b, rfl, okp.1, cube_len ok, m6, fun H2 s2 => ⟨_, rfl, ite2 (fun e => ?_) (fun e => ?_)⟩⟩
    · have z := q H2 (s1.trans s2)
      unfold atM at z
      rw [show (!meetM p (cubeM a b)) = true from e, Bool.or_true] at z
      exact z
    have em : (!meetM p (cubeM a b)) = false := Bool.eq_false_iff.mpr e
    have s12 := s1.trans s2
    have hc2 := s12 _ _ hc
    refine ⟨.ref c, rfl, c, rfl, ⟨_, SqT.of hc2⟩, fun L nL => ?_⟩
    have tx : TkAll H2 [V.ref ra, .ref rb] (([a, b]).map rowD) := .cons (wish_row (s12 _ _ ha)) (.cons (wish_row (s12 _ _ hb)) .nil)
    refine lc_tup (K := K) (a := c) (xs := [V.ref ra, .ref rb]) (fun j H' => Same H2 (hd1 L H') ∧ ∃ ys, H' L = some (.lst ys) ∧ TkAll (hd1 L H') ys ((([a, b].take j).filter (oneB bs)).map rowD)) ⟨hd1_of (same_upd nL) nL, [], upd_same, .nil⟩ (fun j H' _ z => SqT.of (hd1_le _ _ (z.1 _ _ hc2))) ?_ ?_
    · rintro j v H3 hv ⟨s3, ys, hL, ty⟩
      obtain ⟨r, hr', tr⟩ := tx.at hv
      obtain ⟨t, rfl, ht⟩ := tr.row_inv
      obtain ⟨lr, or⟩ := ch_rows ok r (List.mem_of_getElem? hr')
      refine ⟨rfl, .ref wa, rfl, .ref t, rfl, wa, t, m, bs, x, r, rfl, hd1_le _ _ (s3 _ _ (s12 _ _ hw)), hd1_le _ _ (s3 _ _ ht), or, lr, m6, lb, rfl, _, rfl, ?_⟩
      have et : ([a, b].take (j + 1)).filter (oneB bs) = ([a, b].take j).filter (oneB bs) ++ (if oneB bs r = true then [r] else []) := by
        rw [List.take_add_one, hr', List.filter_append]
        congr 1
        show List.filter _ [r] = _
        rw [List.filter_cons, List.filter_nil]
      have ly := ty.length
      rw [List.length_map] at ly
      have l2 := List.length_filter_le (oneB bs) ([a, b].take j)
      have l3 : ([a, b].take j).length ≤ 2 := by rw [List.length_take]; exact Nat.min_le_right _ _
      have eo : decide (V.int (gateM bs r) = V.int 1) = oneB bs r := int_dec _ _
      refine ite2 (fun e => ?_) (fun e => ?_)
      · have e1 := eo.symm.trans e
        refine ⟨.ref t, rfl, ys, hL, Nat.lt_of_lt_of_le (show _ < 128 by omega) (by decide), s3.trans hd1_upd, ys ++ [V.ref t], upd_same, ?_⟩
        rw [et, if_pos e1, List.map_append]
        exact (ty.same hd1_upd).append (.cons ((tr.same s3).same hd1_upd) .nil)
      · have e1 : ¬ oneB bs r = true := fun z => e (eo.trans z)
        refine ⟨s3, ys, hL, ?_⟩
        rw [et, if_neg e1, List.append_nil]
        exact ty
    rintro H3 ⟨s3, ys, hL, ty⟩
    have s13 : Same H H3 := s12.trans fun b o e => hd1_le _ _ (s3 _ _ e)
    replace ty : TkAll H3 ys (([a, b].filter (oneB bs)).map rowD) := ty.same hd1_le
    have lx := ty.length
    rw [List.length_map] at lx
    have okf : ∀ r ∈ [a, b].filter (oneB bs), r.length = m ∧ Row01' r := fun r hr => ch_rows ok r (List.mem_filter.mp hr).1
    have e2 := ones_two bs a b
    have ea := ones_any bs p a b
    have el : ([a, b].filter (oneB bs)).length ≤ 2 := List.length_filter_le _ _
    revert lx ty okf e2 ea el
    generalize [a, b].filter (oneB bs) = fs
    intro ty lx okf e2 ea el
    refine ⟨.ref L, rfl, L, ys, rfl, .inl (SqL.of hL), rfl, _, rfl, ite2 (fun e => ?_) (fun e => ?_)⟩
    · have e' : (oneB bs a && oneB bs b) = true := by
        rw [← e2, ← lx]
        have z : (ys.length : Int) = 2 := V.int.inj (of_decide_eq_true e)
        exact decide_eq_true (by omega)
      have z := q H3 s13
      unfold atM at z
      rw [e', Bool.true_or, Bool.true_or, Bool.true_or] at z
      exact z
    have e' : (oneB bs a && oneB bs b) = false := by
      rw [← e2, ← lx]
      refine decide_eq_false fun z => e (decide_eq_true ?_)
      show V.int (ys.length : Int) = V.int 2
      rw [z]
      rfl
    have ez : atM bs p a b = fs.any (fun r => hrow p r) := by
      unfold atM
      rw [e', Bool.false_or, em, Bool.or_false, ea]
    have n2 : fs.length ≠ 2 := fun z => by rw [decide_eq_true z] at e2; rw [e'] at e2; cases e2
    refine ⟨.ref L, rfl, Nat.zero_le _, fun e0 ne0 => ?_⟩
    have s4 := same_upd (o := HO.lst []) ne0
    refine ⟨L, e0, ys, rfl, rfl, SqL.of (s4 _ _ hL), SqL.of upd_same, ?_⟩
    cases ys with
    | nil =>
      refine ⟨_, rfl, iteF ?_⟩
      have z := q _ (s13.trans s4)
      rw [ez] at z
      cases fs with
      | nil => exact z
      | cons _ _ => cases lx
    | cons v rest =>
      refine ⟨_, rfl, iteT ?_⟩
      match fs, lx, n2, el with
      | [r], lx, _, _ =>
        obtain ⟨t, r', rfl, hr', ht⟩ := Tk.row_at (ty.same s4) (j := 0) (v := v) rfl
        cases Option.some.inj hr'
        obtain ⟨lr, or⟩ := okf r (List.mem_singleton.mpr rfl)
        have hL4 := s4 _ _ hL
        refine ⟨.str (SX.S p), rfl, .ref L, rfl, L, _, 0, .ref t, rfl, rfl, SqL.of hL4, atI_nat (j := 0) rfl, m, p, t, r, rfl, okp.1, ht, or, lr, m6, fun H5 s5 => ?_⟩
        have z := q H5 ((s13.trans s4).trans s5)
        rw [ez] at z
        simpa using z
      | _ :: _ :: _, _, n2, el =>
        exfalso
        simp only [List.length_cons] at n2 el
        omega
theorem rows_UI : ((List.range 7).all fun m => decide (rowsU m = rowsI m)) = true := by decide +kernel
theorem rowsUI {m : Nat} (h : m ≤ 6) : rowsU m = rowsI m := of_decide_eq_true (List.all_eq_true.mp rows_UI m (List.mem_range.mpr (by omega)))
theorem idx_none {α : Type} {l : List α} {f : α → Bool} : (l.findIdx? fun c => !f c).isNone = l.all f := by
  cases h : l.findIdx? fun c => !f c with
  | none =>
    have := List.findIdx?_eq_none_iff.mp h
    refine (List.all_eq_true.mpr fun x hx => ?_).symm
    simpa using this x hx
  | some i =>
    obtain ⟨hi, e, _⟩ := List.findIdx?_eq_some_iff_getElem.mp h
    refine (Bool.eq_false_iff.mpr fun z => ?_).symm
    have := List.all_eq_true.mp z _ (List.getElem_mem hi)
    rw [this] at e
    cases e
theorem why_isNone (m : Nat) (bs : List Bool) (cs : List Ch) (p : List Nat) : (whyM m bs cs p).isNone = ((((rowsI m).zip bs).find? (hit p)).isNone && cs.all fun c => atM bs p c.1 c.2) := by
  rw [← idx_none]
  unfold whyM hit
  cases ((rowsI m).zip bs).find? fun z => !z.2 && hrow p z.1 with
  | some z => rfl
  | none =>
    rw [Option.isNone_map]
    rfl
def sp_allowed (K : PySem.W.Frag) : Sp := fun vs H Q _ => ∃ (wa : Addr) (m : Nat) (bs : List Bool) (cs : List Ch) (p : List Nat), vs = [.ref wa, .str (SX.S p)] ∧ Tk H (.ref wa) (wishD m bs cs) ∧ WishOk m bs cs ∧ ProdOk m p ∧ ∀ H', Same H H' → Q (.bl (whyM m bs cs p).isNone) H'
theorem ok_allowed (T : Tx K mg) : FnOk P w K mg base CX0 3 T.f_allowed T.fd_allowed ["_law_wish_here", "_law_product_here"] (sp_allowed K) := by
  refine T.F_allowed.ok sc_allowed (fun vs H Q E h => ?_) (fun cdv A outer s H vs Q E hr h => ?_)
  · obtain ⟨wa, m, bs, cs, p, rfl, _⟩ := h
    rfl
  · obtain ⟨wa, m, bs, cs, p, rfl, tw, ok, okp, q⟩ := h
    obtain ⟨_, t, xs, e, hw, ht, tx⟩ := tw.wish_inv
    cases e
    have m1 := ok.m1
    have m4 := ok.m4
    have lb := ok.lb
    rw [why_isNone] at q
    refine ⟨_, (pss_cons (ps_for PassesOwn.never rfl (pi_enum (by rfl) T.m_enumerate (pa_cons (pe_call (ok_rows T) (hr.mono (by decide)) (by rfl) T.g_rows T.F_rows.kp T.b_rows .nil pass0 (pa_cons (pe_ix ix_tup (pv 0) pe_int (fun _ _ => rfl)) pa_nil)) pa_nil)) (pg_tup rfl (pgs_cons (pg_name (i := 2) sc_allowed.nd rfl (by first | exact .inl rfl | exact .inr rfl)) (pgs_cons (pg_name (i := 3) sc_allowed.nd rfl (by first | exact .inl rfl | exact .inr rfl)) pgs_nil))) (pss_one (ps_if (pw_and (pt_cmpR op_eq (pe_item_str (pe_ix ix_tup (pv 0) pe_int (fun _ _ => rfl)) (pv 2) (fun _ _ => rfl)) pe_str (nomark _)) (pw_and1 (pt_val (pe_call (ok_holds T) (hr.mono (by decide)) (by rfl) T.g_holds T.F_holds.kp T.b_holds .nil pass0 (pa_cons (pv 1) (pa_cons (pv 3) pa_nil)))))).pt (pss_one (ps_ret pe_bl)) pss_nil))) (pss_one (ps_ret (pe_cmpR (NeL.op_eqN hr.units) (pe_lc (own := [("_law_change_here", 4)]) (by rfl) sc_allowed.nd (pi_tup (pe_ix ix_tup (pv 0) pe_int (fun _ _ => rfl))) (blkOk_by (own := [("_law_change_here", 4)]) (N := ["_law_wish_here", "_law_product_here", "_law_k", "_law_row", "_law_change_here"]) (sc := defScope s_allowed) (by decide +kernel)) (fun _ _ _ _ _ => (pg_name (i := 4) sc_allowed.nd rfl (by first | exact .inl rfl | exact .inr rfl))) (fun _ _ _ _ _ => (pts_one (pt_not (pt_val (pe_call (ok_fits T) (hr.mono (by decide)) (by rfl) T.g_fits T.F_fits.kp T.b_fits .nil pass0 (pa_cons (pv 0) (pa_cons (pv 1) (pa_cons (pv 4) pa_nil)))))))) (fun _ _ _ _ _ => (pv 4))) (pe_lst pa_nil) (nomark _))))), ?_⟩
    refine ⟨.ref wa, rfl, wa, _, _, .int m, rfl, rfl, SqT.of hw, rfl, m, rfl, m1, by omega, fun r H1 nr s1 tr => ?_⟩
    obtain ⟨_, rs, e, hr1, trs⟩ := tr.lst_inv
    cases e
    rw [rowsUI (by omega)] at trs
    have lrs : rs.length = 2 ^ m := by
      have := trs.length
      rw [List.length_map] at this
      rw [this, rowsI_len (by omega)]
    refine ⟨r, rs, rfl, SqL.of hr1, ?_⟩
    refine for_enumL (K := K) (a := r) (xs := rs) (fun j σ H' => ∃ y2 y3, σ = [some (.ref wa), some (.str (SX.S p)), y2, y3, none] ∧ Same H1 H' ∧ (((rowsI m).zip bs).take j).find? (hit p) = none) ⟨_, _, rfl, Same.refl _, rfl⟩ (fun j σ H' _ ⟨_, _, _, g, _⟩ => SqL.of (g _ _ hr1)) ?_ ?_
    · rintro j x Tq σ H2 hx nT ⟨y2, y3, rfl, g, ih⟩
      obtain ⟨ra, rw', rfl, hrw, hra⟩ := Tk.row_at trs hx
      have hj := (List.getElem?_eq_some_iff.mp hx).1
      have l64 : 2 ^ m ≤ 64 := Nat.pow_le_pow_right (by decide) (show m ≤ 6 by omega)
      have hb : bs[j]? = some (bs[j]'(by omega)) := List.getElem?_eq_getElem _
      obtain ⟨lr, or⟩ := rowsI_ok (by omega) rw' (List.mem_of_getElem? hrw)
      have ez := zip_take_succ hrw hb
      have sT := same_upd (o := HO.tup [.int (j : Nat), .ref ra]) nT
      have gT := g.trans sT
      have hw2 := gT _ _ (s1 _ _ hw)
      refine ⟨Tq, _, rfl, SqT.of upd_same, rfl, _, _, rfl, _, _, rfl, rfl, ?_⟩
      have tc : (tabOf bs).cps[(((j : Nat) : Int)).toNat]? = some (bitS bs[j]) := tab_cps (by omega)
      refine ⟨.ref wa, rfl, wa, _, _, .str (tabOf bs), rfl, rfl, SqT.of hw2, rfl, .int (j : Nat), rfl, tabOf bs, ((j : Nat) : Int), _, rfl, rfl, by omega, by omega, by rw [tab_len]; omega, tc, rfl, _, rfl, ite2 (fun e => ?_) (fun e => ?_)⟩
      · have e1 := (bit48 bs[j]).symm.trans e
        refine ⟨.str (SX.S p), rfl, .ref ra, rfl, m, p, ra, rw', rfl, okp.1, gT _ _ hra, or, lr, by omega, fun H3 s3 => ⟨_, rfl, ite2 (fun e2 => ?_) (fun e2 => ?_)⟩⟩
        · have z := q H3 ((s1.trans gT).trans s3)
          rw [find_stop (f := hit p) ez ih (show (!bs[j] && hrow p rw') = true by rw [e1, e2]; rfl)] at z
          exact z
        · refine ⟨_, _, rfl, gT.trans s3, find_more ez ih ?_⟩
          show (!bs[j] && hrow p rw') = false
          rw [Bool.eq_false_iff.mpr e2, Bool.and_false]
      · refine iteF ⟨_, _, rfl, gT, find_more ez ih ?_⟩
        show (!bs[j] && hrow p rw') = false
        have : (!bs[j]) = false := Bool.eq_false_iff.mpr fun z => e ((bit48 _).trans z)
        rw [this, Bool.false_and]
    · rintro σ H2 ⟨y2, y3, rfl, g, ih⟩
      have ez : ((rowsI m).zip bs).length ≤ rs.length := by rw [List.length_zip]; omega
      rw [List.take_of_length_le ez] at ih
      rw [ih] at q
      have gg := s1.trans g
      have ht2 := gg _ _ ht
      have lx := tx.length
      rw [List.length_map] at lx
      have lc := ok.lc
      refine ⟨.ref wa, rfl, wa, _, _, .ref t, rfl, rfl, SqT.of (gg _ _ hw), rfl, t, rfl, ⟨_, SqT.of ht2⟩, fun L nL => ?_⟩
      refine lc_tup (K := K) (a := t) (xs := xs) (fun j H' => Same H2 (hd1 L H') ∧ ∃ ys, H' L = some (.lst ys) ∧ ys.length ≤ j ∧ ys.isEmpty = (cs.take j).all fun c => atM bs p c.1 c.2) ⟨hd1_of (same_upd nL) nL, [], upd_same, Nat.zero_le _, rfl⟩ (fun j H' _ z => SqT.of (hd1_le _ _ (z.1 _ _ ht2))) ?_ ?_
      · rintro j x H3 hx ⟨s3, ys, hL, ly, ey⟩
        obtain ⟨c, hc, tc⟩ := tx.at hx
        have hj := (List.getElem?_eq_some_iff.mp hx).1
        have s3' : Same H H3 := gg.trans fun b o e => hd1_le _ _ (s3 _ _ e)
        obtain ⟨ca, rfl, hca⟩ := ChAt.of_tk (tc.same s3')
        have okc := ok.oc c (List.mem_of_getElem? hc)
        have ec : (cs.take (j + 1)).all (fun c => atM bs p c.1 c.2) = (ys.isEmpty && atM bs p c.1 c.2) := by
          rw [List.take_add_one, hc, List.all_append, ey]
          simp
        refine ⟨rfl, .ref wa, rfl, .str (SX.S p), rfl, .ref ca, rfl, wa, ca, m, bs, _, p, c.1, c.2, rfl, s3' _ _ hw, lb, okp, hca, okc, fun H4 s4 => ⟨_, rfl, ite2 (fun e => ?_) (fun e => ?_)⟩⟩
        · have e1 : atM bs p c.1 c.2 = false := by simpa using e
          refine ⟨.ref ca, rfl, ys, s4 _ _ hL, Nat.lt_of_lt_of_le (show _ < 128 by omega) (by decide), (s3.trans (hd1_same s4)).trans hd1_upd, ys ++ [V.ref ca], upd_same, by rw [List.length_append]; exact Nat.succ_le_succ ly, ?_⟩
          rw [ec, e1, Bool.and_false]
          cases ys <;> rfl
        · have e1 : atM bs p c.1 c.2 = true := by simpa using e
          refine ⟨s3.trans (hd1_same s4), ys, s4 _ _ hL, by omega, ?_⟩
          rw [ec, e1, Bool.and_true]
      · rintro H3 ⟨s3, ys, hL, ly, ey⟩
        rw [lx, List.take_length] at ey
        refine ⟨Nat.zero_le _, fun e0 ne0 => ?_⟩
        have s4 := same_upd (o := HO.lst []) ne0
        refine ⟨L, e0, ys, rfl, rfl, SqL.of (s4 _ _ hL), SqL.of upd_same, ?_⟩
        rw [ey]
        exact q _ ((gg.trans fun b o e => hd1_le _ _ (s3 _ _ e)).trans s4)

end
end Gk

--@NEST
set_option Elab.async false
set_option linter.all false
set_option maxRecDepth 100000
set_option maxHeartbeats 1000000
set_option pp.maxSteps 1500
set_option pp.deepTerms false
namespace Gk
open PySem PySem.Spec PyProof.Rows L2
section
variable {P : Program} {w : World} {K : PySem.W.Frag} {mg : Str → Option Value} {base : Heap}
/-! ### all products that are allowed, the greatest of them: the program's own -/
def allowedM (m : Nat) (bs : List Bool) (cs : List Ch) : List (List Nat) := (prodsU m).filter fun p => (whyM m bs cs p).isNone
def greatM (m : Nat) (bs : List Bool) (cs : List Ch) : List (List Nat) := (allowedM m bs cs).filter fun p => !((allowedM m bs cs).any fun o => !decide (o = p) && hall o p)
theorem prodsU_len (m : Nat) : (prodsU m).length ≤ 3 ^ m := by
  have := chs_len 3 (by decide) m (List.replicate m [45, 48, 49]) (by rw [List.length_replicate]) fun l hl => by rw [(List.mem_replicate.mp hl).2]; exact Nat.le_refl _
  exact this
theorem prodsU_81 {m : Nat} (h : m ≤ 4) : (prodsU m).length ≤ 81 := Nat.le_trans (prodsU_len m) (Nat.pow_le_pow_right (by decide) h)
theorem prods_data (m : Nat) : chs (List.replicate m ([45, 48, 49].map fun c => PyData.str (SX.S [c]))) = (prodsU m).map (List.map fun c => PyData.str (SX.S [c])) := by
  rw [show List.replicate m ([45, 48, 49].map fun c => PyData.str (SX.S [c])) = (List.replicate m [45, 48, 49]).map (List.map fun c => PyData.str (SX.S [c])) from by rw [List.map_replicate], chs_map _ _ _ rfl]
  rfl
theorem tk_strs {H : Hp} : ∀ {vs : List V} {cs : List Nat}, TkAll H vs (cs.map fun c => PyData.str (SX.S [c])) → vs = (cs.map one).map V.str
  | _, [], .nil => rfl
  | _, c :: r, .cons h t => by
    cases h
    rw [tk_strs t]
    rfl
theorem m01_S : Str.ofString "-01" = SX.S [45, 48, 49] := by decide +kernel
theorem filter_snoc {α : Type} {f : α → Bool} {l : List α} {j : Nat} {x : α} (h : l[j]? = some x) : (l.take (j + 1)).filter f = (l.take j).filter f ++ (if f x = true then [x] else []) := by
  rw [List.take_add_one, h, List.filter_append]
  congr 1
  show List.filter _ [x] = _
  rw [List.filter_cons, List.filter_nil]
def sp_allowed_of (T : Tx K mg) : Sp := fun vs H Q _ => ∃ (wa : Addr) (m : Nat) (bs : List Bool) (cs : List Ch), vs = [.ref wa] ∧ Tk H (.ref wa) (wishD m bs cs) ∧ WishOk m bs cs ∧ Tabs H T.tabs ∧ ∀ r H', Gr H H' → H' r = some (.tup (pVs (allowedM m bs cs))) → Q (.ref r) H'
theorem ok_allowed_of (T : Tx K mg) (B : Tb base T) : FnOk P w K mg base CX0 9 T.f_allowed_of T.fd_allowed_of ["wish"] (sp_allowed_of T) := by
  refine okC T.F_allowed_of sc_allowed_of (fun vs H Q E h => ?_) (fun A outer s H vs Q E hr h => ?_)
  · obtain ⟨wa, m, bs, cs, rfl, _⟩ := h
    rfl
  · obtain ⟨wa, m, bs, cs, rfl, tw, ok, tabs, q⟩ := h
    obtain ⟨_, t, xs, e, hw, ht, tx⟩ := tw.wish_inv
    cases e
    have m1 := ok.m1
    have m4 := ok.m4
    have p81 := prodsU_81 m4
    refine ⟨_, (pss_cons (ps_setLc (i := 1) (own := [("signs", 2)]) (by rfl) sc_allowed_of.nd rfl rfl (sw_true rfl rfl rfl (by decide +kernel)) (pi_tup (pe_call (ok_choices_of T) (hr.mono (by decide)) (by rfl) T.g_choices_of T.F_choices_of.kp T.b_choices_of .nil pass0 (pa_cons (pe_op op_rep (pe_lst (pa_cons pe_str pa_nil)) (pe_ix ix_tup (pv 0) pe_int (fun _ _ => rfl))) pa_nil))) (blkOk_by (own := [("signs", 2)]) (N := ["wish", "products", "signs", "product"]) (sc := defScope s_allowed_of) (by decide +kernel)) (fun _ _ _ _ _ => (pg_name (i := 2) sc_allowed_of.nd rfl (by first | exact .inl rfl | exact .inr rfl))) (fun _ _ _ _ _ => pts_nil) (fun _ _ _ _ _ => (show PE _ _ (tM1 (rJoinK K) _ _) from (pe_join pe_str (pv 2))))) (pss_one (ps_ret (pe_tupX (own := [("product", 3)]) (k := 7) (hr.mono (by decide)) rfl sc_allowed_of.nd (by rfl) T.m_tuple (by decide +kernel) B.TB_allowed_of T.cd_allowed_of rfl rfl (blkOk_by (own := [("product", 3)]) (N := ["wish", "products", "signs", "product"]) (sc := defScope s_allowed_of) (by decide +kernel)) (pi_list (pv 1)) (fun _ _ _ _ _ c1 P1 _ hr gd => (pg_name (i := 3) sc_allowed_of.nd rfl (by first | exact .inl rfl | exact .inr rfl))) (fun _ _ _ _ _ c1 P1 _ hr gd => (pts_one (pt_val (pe_call (ok_is_allowed T B) (hr.mono (by decide)) (by rfl) T.g_is_allowed T.F_is_allowed.kp T.b_is_allowed .nil pass0 (pa_cons (pv 0) (pa_cons (pv 3) pa_nil)))))) (fun _ _ _ _ _ c1 P1 _ hr gd => (pv 3)) (fun _ => rfl))))), ?_⟩
    have tab : GzN.TabG H T.P_allowed_of := tabs _ (by simp [Tx.tabs])
    refine ⟨sl1, fun p np => ?_⟩
    have s1 := same_upd (o := (HO.lst [V.str (Str.ofString "-01")])) np
    have h1 : upd H p (HO.lst [V.str (Str.ofString "-01")]) p = some (HO.lst [V.str (Str.ofString "-01")]) := upd_same
    generalize upd H p (HO.lst [V.str (Str.ofString "-01")]) = H1 at s1 h1 ⊢
    refine ⟨.ref wa, rfl, wa, _, _, .int m, rfl, rfl, SqT.of (s1 _ _ hw), rfl, p, m, _, rfl, rfl, h1, by omega, by omega, ?_, fun l nl => ?_⟩
    · show 1 * (m : Int).toNat ≤ sizeLine
      exact Nat.le_trans (show _ ≤ 8 by omega) (by decide)
    rw [rep_ref, show (m : Int).toNat = m by omega]
    have s2 := same_upd (o := (HO.lst (List.replicate m (V.str (Str.ofString "-01"))))) nl
    have h2 : upd H1 l (HO.lst (List.replicate m (V.str (Str.ofString "-01")))) l = some (HO.lst (List.replicate m (V.str (Str.ofString "-01")))) := upd_same
    generalize upd H1 l (HO.lst (List.replicate m (V.str (Str.ofString "-01")))) = H2 at s2 h2 ⊢
    refine ⟨l, _, List.replicate m ([45, 48, 49].map fun c => PyData.str (SX.S [c])), rfl, h2, ⟨by rw [List.length_replicate, List.length_replicate], fun i v o hv ho => ?_⟩, by rw [List.length_replicate]; omega, fun i hi => ?_, fun o ho => ?_, fun r H3 s3 tr => ?_⟩
    · rw [(List.mem_replicate.mp (List.mem_of_getElem? hv)).2, (List.mem_replicate.mp (List.mem_of_getElem? ho)).2, m01_S]
      exact .inr ⟨_, rfl, rfl⟩
    · rw [List.length_replicate] at hi
      have h1 := chs_len 3 (by decide) i ((List.replicate m ([45, 48, 49].map fun c => PyData.str (SX.S [c]))).take i) (by rw [List.length_take, List.length_replicate]; omega) fun l hl => by rw [(List.mem_replicate.mp (List.mem_of_mem_take hl)).2]; exact Nat.le_refl _
      have h2 : 3 ^ i ≤ 3 ^ 4 := Nat.pow_le_pow_right (by decide) (by omega)
      omega
    · rw [(List.mem_replicate.mp ho).2]
      decide
    rw [prods_data, List.map_map] at tr
    obtain ⟨_, zs, e, hr3, tz⟩ := tr.tup_inv
    cases e
    have s03 := (s1.trans s2).trans s3
    refine ⟨r, rfl, ⟨_, SqT.of hr3⟩, fun D nD => ?_⟩
    have lz := tz.length
    rw [List.length_map] at lz
    refine lc_tup (K := K) (a := r) (xs := zs) (fun j H' => Same H3 (hd1 D H') ∧ H' D = some (.lst (pVs ((prodsU m).take j)))) ⟨hd1_of (same_upd nD) nD, upd_same⟩ (fun j H' _ z => SqT.of (hd1_le _ _ (z.1 _ _ hr3))) ?_ ?_
    · rintro j v H4 hv ⟨s4, hD⟩
      obtain ⟨q', hq', tv⟩ := tz.at hv
      obtain ⟨va, ys, rfl, hva, ty⟩ := Tk.tup_inv tv
      have okq := prodsU_ok q' (List.mem_of_getElem? hq')
      have ey := tk_strs ty
      subst ey
      refine ⟨rfl, ⟨_, rfl⟩, .ref va, rfl, Str.ofString "", va, q'.map one, rfl, rfl, .inr (SqT.of (hd1_le _ _ (s4 _ _ hva))), join_fit (by have := okq.1; omega), ?_⟩
      rw [join_one]
      refine ⟨_, hD, ?_, s4.trans hd1_upd, ?_⟩
      · unfold pVs
        rw [List.length_map, List.length_take]
        exact Nat.lt_of_lt_of_le (show _ < 128 by omega) (by decide)
      · rw [upd_same, List.take_add_one, hq']
        unfold pVs
        rw [List.map_append]
        rfl
    rintro H4 ⟨s4, hD⟩
    rw [lz, List.take_length] at hD
    have s04 := s03.trans fun b o e => hd1_le _ _ (s4 _ _ e)
    have g4 : Gr H H4 := Gr.of s04
    refine ⟨.ref D, rfl, D, rfl, ⟨_, SqL.of hD⟩, g4.2 _ tab, fun H5 tb5 => ?_⟩
    have g5 := Gr.tab (g4.2 _ tab) tb5
    refine gx_list (K := K) (a := D) (xs := pVs (prodsU m)) (fun j ys H' => Gr H4 H' ∧ ys = pVs (((prodsU m).take j).filter fun p => (whyM m bs cs p).isNone)) ⟨g5, rfl⟩ (fun j _ H' _ z => SqL.of (z.1.lst hD)) ?_ ?_
    · rintro j v ys H6 hv ⟨g, rfl⟩
      obtain ⟨p, hp, rfl⟩ := pV_at hv
      have okp := prodsU_ok p (List.mem_of_getElem? hp)
      have g6 := g4.trans g
      refine ⟨rfl, .ref wa, rfl, .str (SX.S p), rfl, wa, m, bs, cs, .str (SX.S p), some p, rfl, tw.gr g6, ok, .str p (by have := okp.1; omega), g6.tabs tabs, fun H7 g7 => ⟨_, rfl, ?_⟩⟩
      rw [alM_ok okp]
      have eq := filter_snoc (f := fun p => (whyM m bs cs p).isNone) hp
      refine ite2 (fun e => ?_) (fun e => ?_)
      · refine ⟨.str (SX.S p), rfl, ?_, g.trans g7, ?_⟩
        · unfold pVs
          rw [List.length_map]
          have := List.length_filter_le (fun p => (whyM m bs cs p).isNone) ((prodsU m).take j)
          rw [List.length_take] at this
          exact Nat.lt_of_lt_of_le (show _ < 128 by omega) (by decide)
        · rw [eq, if_pos e]
          unfold pVs
          rw [List.map_append]
          rfl
      · refine ⟨g.trans g7, ?_⟩
        rw [eq, if_neg e, List.append_nil]
    · rintro ys H6 ⟨g, rfl⟩
      have lp : (pVs (prodsU m)).length = (prodsU m).length := by unfold pVs; rw [List.length_map]
      rw [lp, List.take_length]
      refine ⟨?_, fun p np => q p _ ((g4.trans g).trans (Gr.none np)) upd_same⟩
      unfold pVs
      rw [List.length_map]
      have := List.length_filter_le (fun p => (whyM m bs cs p).isNone) (prodsU m)
      exact Nat.le_trans (show _ ≤ 128 by omega) (by decide)
theorem str_ne (p q : List Nat) : (!decide (V.str (SX.S p) = V.str (SX.S q))) = !decide (p = q) := by
  rw [str_dec]
  congr 1
  exact decide_eq_decide.mpr ⟨fun h => SX.S_inj h, fun h => by rw [h]⟩
def sp_greatest_allowed (T : Tx K mg) : Sp := fun vs H Q _ => ∃ (wa : Addr) (m : Nat) (bs : List Bool) (cs : List Ch), vs = [.ref wa] ∧ Tk H (.ref wa) (wishD m bs cs) ∧ WishOk m bs cs ∧ Tabs H T.tabs ∧ ∀ r H', Gr H H' → H' r = some (.tup (pVs (greatM m bs cs))) → Q (.ref r) H'
theorem ok_greatest_allowed (T : Tx K mg) (B : Tb base T) : FnOk P w K mg base CX0 10 T.f_greatest_allowed T.fd_greatest_allowed ["wish"] (sp_greatest_allowed T) := by
  refine okC T.F_greatest_allowed sc_greatest_allowed (fun vs H Q E h => ?_) (fun A outer s H vs Q E hr h => ?_)
  · obtain ⟨wa, m, bs, cs, rfl, _⟩ := h
    rfl
  · obtain ⟨wa, m, bs, cs, rfl, tw, ok, tabs, q⟩ := h
    refine ⟨_, (pss_cons (ps_set (i := 1) sc_greatest_allowed.nd rfl (by first | exact .inl rfl | exact .inr rfl) (pe_call (ok_allowed_of T B) (hr.mono (by decide)) (by rfl) T.g_allowed_of T.F_allowed_of.kp T.b_allowed_of .nil pass0 (pa_cons (pv 0) pa_nil))) (pss_one (ps_ret (pe_tupZ (own := [("product", 2)]) (k := 3) (hr.mono (by decide)) rfl sc_greatest_allowed.nd (by rfl) T.m_tuple (by decide +kernel) B.TB_greatest_allowed T.cd_greatest_allowed rfl rfl (blkOk_by (own := [("product", 2)]) (N := ["wish", "allowed", "product", "other"]) (sc := defScope s_greatest_allowed) (by decide +kernel)) (pi_tup (pv 1)) (fun _ _ _ _ _ c1 P1 _ hr gd => (pg_name (i := 2) sc_greatest_allowed.nd rfl (by first | exact .inl rfl | exact .inr rfl))) (fun _ _ _ _ _ c1 P1 _ hr gd => (pts_one (pt_not (pt_val (pe_anyD (c := c1) (P := P1) (own := [("other", 3)]) (k := 2) (hr.mono (by decide)) rfl sc_greatest_allowed.nd (by rfl) T.m_any (by decide +kernel) B.TB_greatest_allowed rfl rfl (by decide +kernel) (blkOk_by (own := [("other", 3)]) (N := ["wish", "allowed", "product", "other"]) (sc := { kind := PySem.ScopeKind.function, names := [ (PySem.Str.ofString ".0", PySem.NameKind.local), (PySem.Str.ofString "product", PySem.NameKind.cell), (PySem.Str.ofString "allowed", PySem.NameKind.free), (PySem.Str.ofString "any", PySem.NameKind.globalImplicit)], isGenerator := true, isCoroutine := false, more := [] : PySem.Scope }) (by decide +kernel)) (show PI _ _ _ (iTup K _) from pi_tup (pv 1)) (fun _ _ _ _ _ _ _ hr gd => (pg_name (i := 3) sc_greatest_allowed.nd rfl (by first | exact .inl rfl | exact .inr rfl))) (fun _ _ _ _ _ _ _ hr gd => pts_nil) (fun _ _ _ _ _ _ _ hr gd => (pe_and (pe_cmpR op_ne (pv 3) (pv 2) (nomark _)) (pe_one (pe_call (ok_holds_all T B) (hr.mono (by decide)) (by rfl) T.g_holds_all T.F_holds_all.kp T.b_holds_all .nil pass0 (pa_cons (pv 3) (pa_cons (pv 2) pa_nil)))))) (fun _ => rfl)))))) (fun _ _ _ _ _ c1 P1 _ hr gd => (pv 2)) (fun _ => rfl))))), ?_⟩
    refine ⟨.ref wa, rfl, wa, m, bs, cs, rfl, tw, ok, tabs, fun t H1 g1 ht => ?_⟩
    have tab : GzN.TabG H1 T.P_greatest_allowed := g1.tabs tabs _ (by simp [Tx.tabs])
    have eg : greatM m bs cs = (allowedM m bs cs).filter fun p => !((allowedM m bs cs).any fun o => !decide (o = p) && hall o p) := rfl
    have m4 := ok.m4
    have al : (allowedM m bs cs).length ≤ 81 := Nat.le_trans (List.length_filter_le _ _) (prodsU_81 m4)
    have oka : ∀ p ∈ allowedM m bs cs, ProdOk m p := fun p hp => prodsU_ok p (List.mem_filter.mp hp).1
    rw [eg] at q
    revert ht al oka q
    generalize allowedM m bs cs = al
    intro q ht l81 oka
    have lp : (pVs al).length = al.length := by unfold pVs; rw [List.length_map]
    refine ⟨.ref t, rfl, t, rfl, ⟨_, SqT.of ht⟩, tab, fun H2 c1 P1 tb2 kc kP => ?_⟩
    have g2 := Gr.tab tab tb2
    refine gx_tup (K := K) (a := t) (xs := pVs al) (fun j ys H' => (Gr H1 H' ∧ Gr H2 H') ∧ ys = pVs ((al.take j).filter fun p => !(al.any fun o => !decide (o = p) && hall o p))) ⟨⟨g2, Gr.refl⟩, rfl⟩ (fun j _ H' _ z => SqT.of (z.1.1.tup ht)) ?_ ?_
    · rintro j v ys H3 hv ⟨⟨g3, g23⟩, rfl⟩
      obtain ⟨p, hp, rfl⟩ := pV_at hv
      have okp := oka p (List.mem_of_getElem? hp)
      have eq := filter_snoc (f := fun p => !(al.any fun o => !decide (o = p) && hall o p)) hp
      have tabP := g23.3 _ kP
      have codeP := g23.code kc
      have fin : ∀ (b : Bool) (H' : Hp), Gr H3 H' → b = (al.any fun o => !decide (o = p) && hall o p) → (if (!b) = true then ∃ v, (([none, some (V.ref t), some (V.str (SX.S p)), none] : List (Option V))[2]? = some (some v)) ∧ YdL (pVs ((al.take j).filter fun p => !(al.any fun o => !decide (o = p) && hall o p))) v H' (fun ys H' => (Gr H1 H' ∧ Gr H2 H') ∧ ys = pVs ((al.take (j + 1)).filter fun p => !(al.any fun o => !decide (o = p) && hall o p))) else (Gr H1 H' ∧ Gr H2 H') ∧ pVs ((al.take j).filter fun p => !(al.any fun o => !decide (o = p) && hall o p)) = pVs ((al.take (j + 1)).filter fun p => !(al.any fun o => !decide (o = p) && hall o p))) := fun b H' g' eb => by
        rw [eb, eq]
        refine ite2 (fun e => ?_) (fun e => ?_)
        · refine ⟨.str (SX.S p), rfl, ?_, ⟨g3.trans g', g23.trans g'⟩, ?_⟩
          · unfold pVs
            rw [List.length_map]
            have := List.length_filter_le (fun p => !(al.any fun o => !decide (o = p) && hall o p)) (al.take j)
            rw [List.length_take] at this
            exact Nat.lt_of_lt_of_le (show _ < 128 by omega) (by decide)
          · rw [if_pos e]
            unfold pVs
            rw [List.map_append]
            rfl
        · refine ⟨⟨g3.trans g', g23.trans g'⟩, ?_⟩
          rw [if_neg e, List.append_nil]
      refine ⟨rfl, .ref t, rfl, t, rfl, ⟨_, SqT.of (g3.tup ht)⟩, ⟨codeP, tabP⟩, fun H4 tb4 => ?_⟩
      have g4 := Gr.tabD tabP tb4
      refine gx_tup (K := K) (a := t) (xs := pVs al) (fun k _ H' => Gr H3 H' ∧ (al.take k).any (fun o => !decide (o = p) && hall o p) = false) ⟨g4, rfl⟩ (fun k _ H' _ z => SqT.of ((g3.trans z.1).tup ht)) ?_ ?_
      · rintro k v _ H5 hv5 ⟨g5, ih⟩
        obtain ⟨o, ho, rfl⟩ := pV_at hv5
        have oko := oka o (List.mem_of_getElem? ho)
        have more : (!decide (o = p) && hall o p) = false → (al.take (k + 1)).any (fun o => !decide (o = p) && hall o p) = false := fun e => by
          rw [List.take_add_one, ho, List.any_append, ih]
          simpa using e
        refine ⟨rfl, .str (SX.S o), rfl, .str (SX.S p), rfl, rfl, _, rfl, ?_⟩
        rw [str_ne]
        refine ite2 (fun e => ?_) (fun e => ?_)
        · refine ⟨.str (SX.S o), rfl, .str (SX.S p), rfl, o, p, rfl, by rw [oko.1, okp.1], (g1.trans (g3.trans g5)).tabs tabs, fun H6 g6 => ⟨_, rfl, ite2 (fun e2 => ?_) (fun e2 => ?_)⟩⟩
          · exact ⟨true, rfl, fin true H6 (g5.trans g6) (List.any_eq_true.mpr ⟨o, List.mem_of_getElem? ho, by rw [e, e2]; rfl⟩).symm⟩
          · exact ⟨g5.trans g6, more (by rw [Bool.eq_false_iff.mpr e2, Bool.and_false])⟩
        · exact ⟨false, rfl, iteF ⟨g5, more (by rw [Bool.eq_false_iff.mpr e, Bool.false_and])⟩⟩
      · rintro _ H5 ⟨g5, ih⟩
        rw [lp, List.take_length] at ih
        exact ⟨false, rfl, fin false H5 g5 ih.symm⟩
    · rintro ys H3 ⟨⟨g3, _⟩, rfl⟩
      rw [lp, List.take_length]
      refine ⟨?_, fun p np => q p _ ((g1.trans g3).trans (Gr.none np)) upd_same⟩
      unfold pVs
      rw [List.length_map]
      have := List.length_filter_le (fun p => !(al.any fun o => !decide (o = p) && hall o p)) al
      exact Nat.le_trans (show _ ≤ 128 by omega) (by decide)

end
end Gk

--@NEST
set_option Elab.async false
set_option linter.all false
set_option maxRecDepth 100000
set_option maxHeartbeats 1000000
set_option pp.maxSteps 1500
set_option pp.deepTerms false
namespace Gk
open PySem PySem.Spec PyProof.Rows L2
section
variable {P : Program} {w : World} {K : PySem.W.Frag} {mg : Str → Option Value} {base : Heap}
/-! ### the greatest of those allowed: the law's own -/
def sp_inside (K : PySem.W.Frag) : Sp := fun vs H Q _ => ∃ (m : Nat) (p q' : List Nat), vs = [.str (SX.S p), .str (SX.S q')] ∧ p.length = m ∧ q'.length = m ∧ m ≤ 6 ∧ ∀ H', Same H H' → Q (.bl (hall p q')) H'
theorem ok_inside (T : Tx K mg) : FnOk P w K mg base CX0 1 T.f_inside T.fd_inside ["_law_product_here", "_law_other"] (sp_inside K) := by
  refine T.F_inside.ok sc_inside (fun vs H Q E h => ?_) (fun cdv A outer s H vs Q E hr h => ?_)
  · obtain ⟨m, p, q', rfl, _⟩ := h
    rfl
  · obtain ⟨m, p, q', rfl, lp, lq, m6, q⟩ := h
    refine ⟨_, (pss_one (ps_ret (pe_cmpR (op_eqD hr.units) (pe_lc (own := [("_law_k", 2)]) (by rfl) sc_inside.nd (pi_range1 (by rfl) T.m_range (pa_cons (pe_callB call_len_str (by rfl) T.m_len PySem.boot_len (pa_cons (pv 1) pa_nil)) pa_nil)) (blkOk_by (own := [("_law_k", 2)]) (N := ["_law_product_here", "_law_other", "_law_k"]) (sc := defScope s_inside) (by decide +kernel)) (fun _ _ _ _ _ => (pg_name (i := 2) sc_inside.nd rfl (by first | exact .inl rfl | exact .inr rfl))) (fun _ _ _ _ _ => (pts_one (pt_cmpR (show OpR _ _ (rIn K true) from op_notIn_seq) (pe_item_str (pv 0) (pv 2) (fun _ _ => rfl)) (pe_tup (pa_cons pe_str (pa_cons (pe_item_str (pv 1) (pv 2) (fun _ _ => rfl)) pa_nil))) rfl))) (fun _ _ _ _ _ => (pv 2))) (pe_lst pa_nil) (nomark _)))), ?_⟩
    refine ⟨.str (SX.S q'), rfl, _, rfl, ?_, ?_⟩
    · rw [SX.S_len, lq]
      exact Nat.le_trans (show m ≤ 64 by omega) (by decide)
    rw [SX.S_len, lq]
    refine ⟨(m : Int), rfl, by omega, by omega, fun L nL => ?_⟩
    refine lc_range (lo := 0) (n := (m : Int).toNat) (fun j H' => Same H (hd1 L H') ∧ ∃ bad : List Int, H' L = some (.lst (bad.map V.int)) ∧ bad.length ≤ j ∧ bad.isEmpty = ((p.zip q').take j).all fun z => decide (z.1 = 45) || decide (z.1 = z.2)) ⟨hd1_of (same_upd nL) nL, [], upd_same, Nat.le_refl _, rfl⟩ ?_ ?_
    · rintro j H1 hj ⟨s1, bad, hL, lb, ih⟩
      have hj' : j < m := by simpa using hj
      have hc : p[j]? = some (p[j]'(by omega)) := List.getElem?_eq_getElem _
      have hx : q'[j]? = some (q'[j]'(by omega)) := List.getElem?_eq_getElem _
      revert hc hx
      generalize p[j]'(by omega) = c
      generalize q'[j]'(by omega) = x
      intro hc hx
      have ez := zip_take_succ hc hx
      have at_ : ∀ {l : List Nat} {y : Nat}, l[j]? = some y → (SX.S l).cps[(0 + (j : Int)).toNat]? = some y := fun {l y} h => by
        rw [show (0 + (j : Int)).toNat = j by omega]
        show l.toArray[j]? = some y
        rw [List.getElem?_toArray]
        exact h
      have h0 : (0 : Int) ≤ 0 + (j : Int) := by omega
      have h63 : 0 + (j : Int) < 2 ^ 63 := by omega
      have hp : 0 + (j : Int) < (SX.S p).length := by rw [SX.S_len]; omega
      have hq : 0 + (j : Int) < (SX.S q').length := by rw [SX.S_len]; omega
      refine ⟨rfl, .str (SX.S p), rfl, .int (0 + (j : Int)), rfl, SX.S p, 0 + (j : Int), c, rfl, rfl, h0, h63, hp, at_ hc, .str (SX.S q'), rfl, .int (0 + (j : Int)), rfl, SX.S q', 0 + (j : Int), x, rfl, rfl, h0, h63, hq, at_ hx, sl2, fun t nt => ?_⟩
      have st := same_upd (o := HO.tup [V.str (Str.ofString "-"), V.str (one x)]) nt
      refine ⟨t, _, rfl, .inr (SqT.of upd_same), rfl, rfl, _, rfl, ?_⟩
      have sL := s1.trans (hd1_same (p := L) st)
      have nin := not_in_two c x
      refine ite2 (fun e => ?_) (fun e => ?_)
      · have e' : (decide (c = 45) || decide (c = x)) = false := by
          have := nin.symm.trans e
          simpa using this
        refine ⟨.int (0 + (j : Int)), rfl, _, st _ _ hL, ?_, sL.trans hd1_upd, bad ++ [0 + (j : Int)], by rw [upd_same, List.map_append]; rfl, by rw [List.length_append]; exact Nat.succ_le_succ lb, ?_⟩
        · rw [List.length_map]
          exact Nat.lt_of_lt_of_le (show _ < 64 by omega) (by decide)
        · rw [ez, List.all_append]
          show _ = (_ && ((decide (c = 45) || decide (c = x)) && true))
          rw [e', Bool.false_and, Bool.and_false]
          cases bad <;> rfl
      · have e' : (decide (c = 45) || decide (c = x)) = true := by
          cases hh : (decide (c = 45) || decide (c = x)) with
          | true => rfl
          | false => exact absurd (nin.trans (by rw [hh]; rfl)) e
        refine ⟨sL, bad, st _ _ hL, by omega, ?_⟩
        rw [ez, List.all_append, ih]
        show _ = (_ && ((decide (c = 45) || decide (c = x)) && true))
        rw [e']
        simp
    · rintro H1 ⟨s1, bad, hL, lb, ih⟩
      have s1' : Same H H1 := fun b o e => hd1_le _ _ (s1 _ _ e)
      refine ⟨Nat.zero_le _, fun e ne => ?_⟩
      have s2 := same_upd (o := HO.lst []) ne
      refine ⟨.list (bad.map .int), .list [], .lst (SqL.of (s2 _ _ hL)) (dpInts bad), .lst (SqL.of upd_same) .nil, shInts bad, rfl, ?_⟩
      rw [eq_nilI, ih]
      have : (p.zip q').length ≤ (m : Int).toNat := by rw [List.length_zip]; omega
      rw [List.take_of_length_le this]
      exact q _ (s1'.trans s2)
def sp_greatest (K : PySem.W.Frag) : Sp := fun vs H Q _ => ∃ (wa : Addr) (m : Nat) (bs : List Bool) (cs : List Ch), vs = [.ref wa] ∧ Tk H (.ref wa) (wishD m bs cs) ∧ WishOk m bs cs ∧ ∀ r H', H r = none → Same H H' → H' r = some (.lst (pVs (greatM m bs cs))) → Q (.ref r) H'
theorem ok_greatest (T : Tx K mg) : FnOk P w K mg base CX0 4 T.f_greatest T.fd_greatest ["_law_wish_here"] (sp_greatest K) := by
  refine T.F_greatest.ok sc_greatest (fun vs H Q E h => ?_) (fun cdv A outer s H vs Q E hr h => ?_)
  · obtain ⟨wa, m, bs, cs, rfl, _⟩ := h
    rfl
  · obtain ⟨wa, m, bs, cs, rfl, tw, ok, q⟩ := h
    obtain ⟨_, t, xs, e, hw, ht, tx⟩ := tw.wish_inv
    cases e
    have m1 := ok.m1
    have m4 := ok.m4
    have p81 := prodsU_81 m4
    refine ⟨_, (pss_cons (ps_setLc (i := 1) (own := [("_law_one", 3)]) (by rfl) sc_greatest.nd rfl rfl (sw_true rfl rfl rfl (by decide +kernel)) (pi_list (pe_call (ok_all_products T) (hr.mono (by decide)) (by rfl) T.g_all_products T.F_all_products.kp T.b_all_products .nil pass0 (pa_cons (pe_ix ix_tup (pv 0) pe_int (fun _ _ => rfl)) pa_nil))) (blkOk_by (own := [("_law_one", 3)]) (N := ["_law_wish_here", "_law_some", "_law_found", "_law_one", "_law_other"]) (sc := defScope s_greatest) (by decide +kernel)) (fun _ _ _ _ _ => (pg_name (i := 3) sc_greatest.nd rfl (by first | exact .inl rfl | exact .inr rfl))) (fun _ _ _ _ _ => (pts_one (pt_val (pe_call (ok_allowed T) (hr.mono (by decide)) (by rfl) T.g_allowed T.F_allowed.kp T.b_allowed .nil pass0 (pa_cons (pv 0) (pa_cons (pv 3) pa_nil)))))) (fun _ _ _ _ _ => (pv 3))) (pss_cons (ps_set (i := 2) sc_greatest.nd rfl (by first | exact .inl rfl | exact .inr rfl) (pe_lst pa_nil)) (pss_cons (ps_for PassesOwn.never rfl (pi_list (pv 1)) (pg_name (i := 3) sc_greatest.nd rfl (by first | exact .inl rfl | exact .inr rfl)) (pss_one (ps_if (pt_cmpR (NeL.op_eqN hr.units) (pe_lc (own := [("_law_other", 4)]) (by rfl) sc_greatest.nd (pi_list (pv 1)) (blkOk_by (own := [("_law_other", 4)]) (N := ["_law_wish_here", "_law_some", "_law_found", "_law_one", "_law_other"]) (sc := defScope s_greatest) (by decide +kernel)) (fun _ _ _ _ _ => (pg_name (i := 4) sc_greatest.nd rfl (by first | exact .inl rfl | exact .inr rfl))) (fun _ _ _ _ _ => (pts_one (PW.pt (pw_and (pt_cmpR op_ne (pv 4) (pv 3) (nomark _)) (pw_and1 (pt_val (pe_call (ok_inside T) (hr.mono (by decide)) (by rfl) T.g_inside T.F_inside.kp T.b_inside .nil pass0 (pa_cons (pv 4) (pa_cons (pv 3) pa_nil))))))))) (fun _ _ _ _ _ => (pv 4))) (pe_lst pa_nil) (nomark _)) (pss_one (ps_expr (pe_bm PySem.F.plainAttrs_list PySem.F.slot_list_append PySem.F.type_list_append mt_append (pv 2) (pa_cons (pv 3) pa_nil)))) pss_nil))) (pss_one (ps_ret (pv 2)))))), ?_⟩
    refine ⟨.ref wa, rfl, wa, _, _, .int m, rfl, rfl, SqT.of hw, rfl, m, rfl, m1, m4, fun r H1 nr s1 hr1 => ?_⟩
    refine ⟨r, rfl, ⟨_, SqL.of hr1⟩, fun L nL => ?_⟩
    have lpu : (pVs (prodsU m)).length = (prodsU m).length := by unfold pVs; rw [List.length_map]
    refine lc_list (K := K) (a := r) (xs := pVs (prodsU m)) (fun j H' => Same H1 (hd1 L H') ∧ H' L = some (.lst (pVs (((prodsU m).take j).filter fun p => (whyM m bs cs p).isNone)))) ⟨hd1_of (same_upd nL) nL, upd_same⟩ (fun j H' _ z => SqL.of (hd1_le _ _ (z.1 _ _ hr1))) ?_ ?_
    · rintro j v H2 hv ⟨s2, hL⟩
      obtain ⟨p, hp, rfl⟩ := pV_at hv
      have okp := prodsU_ok p (List.mem_of_getElem? hp)
      have s02 := s1.trans fun b o e => hd1_le _ _ (s2 _ _ e)
      have eq := filter_snoc (f := fun p => (whyM m bs cs p).isNone) hp
      refine ⟨rfl, .ref wa, rfl, .str (SX.S p), rfl, wa, m, bs, cs, p, rfl, tw.same s02, ok, okp, fun H3 s3 => ⟨_, rfl, ?_⟩⟩
      refine ite2 (fun e => ?_) (fun e => ?_)
      · refine ⟨.str (SX.S p), rfl, _, s3 _ _ hL, ?_, (s2.trans (hd1_same s3)).trans hd1_upd, ?_⟩
        · unfold pVs
          rw [List.length_map]
          have := List.length_filter_le (fun p => (whyM m bs cs p).isNone) ((prodsU m).take j)
          rw [List.length_take] at this
          exact Nat.lt_of_lt_of_le (show _ < 128 by omega) (by decide)
        · rw [upd_same, eq, if_pos e]
          unfold pVs
          rw [List.map_append]
          rfl
      · refine ⟨s2.trans (hd1_same s3), ?_⟩
        rw [s3 _ _ hL, eq, if_neg e, List.append_nil]
    rintro H2 ⟨s2, hL⟩
    rw [lpu, List.take_length] at hL
    have s02 : Same H H2 := s1.trans fun b o e => hd1_le _ _ (s2 _ _ e)
    have eg : greatM m bs cs = (allowedM m bs cs).filter fun p => !((allowedM m bs cs).any fun o => !decide (o = p) && hall o p) := rfl
    have al : (allowedM m bs cs).length ≤ 81 := Nat.le_trans (List.length_filter_le _ _) p81
    have oka : ∀ p ∈ allowedM m bs cs, ProdOk m p := fun p hp => prodsU_ok p (List.mem_filter.mp hp).1
    rw [eg] at q
    replace hL : H2 L = some (.lst (pVs (allowedM m bs cs))) := hL
    revert hL al oka q
    generalize allowedM m bs cs = al
    intro q l81 oka hL
    have lp : (pVs al).length = al.length := by unfold pVs; rw [List.length_map]
    have nL' : H L = none := by
      cases z : H L with
      | none => rfl
      | some o => rw [s1 _ _ z] at nL; cases nL
    refine ⟨Nat.zero_le _, fun F nF => ?_⟩
    have nF' : H F = none := by
      cases z : H F with
      | none => rfl
      | some o => rw [s02 _ _ z] at nF; cases nF
    have s3 := same_upd (o := (HO.lst [])) nF
    have h3 : upd H2 F (HO.lst []) F = some (HO.lst []) := upd_same
    generalize upd H2 F (HO.lst []) = H3 at s3 h3 ⊢
    have FL : F ≠ L := fun z => by rw [z, hL] at nF; cases nF
    refine ⟨.ref L, rfl, L, rfl, ⟨_, SqL.of (s3 _ _ hL)⟩, for_list (K := K) (a := L) (xs := pVs al) (fun j σ H' => ∃ y3, σ = [some (.ref wa), some (.ref L), some (.ref F), y3, none] ∧ Same H2 (hd1 F H') ∧ H' F = some (.lst (pVs ((al.take j).filter fun p => !(al.any fun o => !decide (o = p) && hall o p)))))
      ⟨_, rfl, hd1_of s3 nF, h3⟩ (fun j σ H' _ ⟨_, _, z, _⟩ => SqL.of (hd1_le _ _ (z _ _ hL))) ?_ ?_⟩
    · rintro j v σ H4 hv ⟨y3, rfl, s4, hF⟩
      obtain ⟨p, hp, rfl⟩ := pV_at hv
      have okp := oka p (List.mem_of_getElem? hp)
      have eq := filter_snoc (f := fun p => !(al.any fun o => !decide (o = p) && hall o p)) hp
      have hL4 : H4 L = some (.lst (pVs al)) := hd1_le _ _ (s4 _ _ hL)
      refine ⟨.ref L, rfl, L, rfl, ⟨_, SqL.of hL4⟩, fun D nD => ?_⟩
      refine lc_list (K := K) (a := L) (xs := pVs al) (fun k H' => Same H4 (hd1 D H') ∧ ∃ ys, H' D = some (.lst ys) ∧ ys.length ≤ k ∧ ys.isEmpty = !((al.take k).any fun o => !decide (o = p) && hall o p)) ⟨hd1_of (same_upd nD) nD, [], upd_same, Nat.zero_le _, rfl⟩ (fun k H' _ z => SqL.of (hd1_le _ _ (z.1 _ _ hL4))) ?_ ?_
      · rintro k v H5 hv5 ⟨s5, ys, hD, ly, ih⟩
        obtain ⟨o, ho, rfl⟩ := pV_at hv5
        have oko := oka o (List.mem_of_getElem? ho)
        have lk : k < al.length := (List.getElem?_eq_some_iff.mp ho).1
        have ea : (al.take (k + 1)).any (fun o => !decide (o = p) && hall o p) = ((al.take k).any (fun o => !decide (o = p) && hall o p) || (!decide (o = p) && hall o p)) := by
          rw [List.take_add_one, ho, List.any_append]
          simp
        have skip : ∀ H6, Same H5 H6 → (!decide (o = p) && hall o p) = false → (Same H4 (hd1 D H6) ∧ ∃ ys, H6 D = some (.lst ys) ∧ ys.length ≤ k + 1 ∧ ys.isEmpty = !((al.take (k + 1)).any fun o => !decide (o = p) && hall o p)) := fun H6 s6 e => ⟨s5.trans (hd1_same s6), ys, s6 _ _ hD, by omega, by rw [ea, e, Bool.or_false, ih]⟩
        refine ⟨rfl, .str (SX.S o), rfl, .str (SX.S p), rfl, rfl, _, rfl, ?_⟩
        rw [str_ne]
        refine ite2 (fun e => ?_) (fun e => skip _ (Same.refl _) (by rw [Bool.eq_false_iff.mpr e, Bool.false_and]))
        refine ⟨.str (SX.S o), rfl, .str (SX.S p), rfl, m, o, p, rfl, oko.1, okp.1, by omega, fun H6 s6 => ⟨_, rfl, ite2 (fun e2 => ?_) (fun e2 => skip _ s6 (by rw [Bool.eq_false_iff.mpr e2, Bool.and_false]))⟩⟩
        refine ⟨.str (SX.S o), rfl, ys, s6 _ _ hD, Nat.lt_of_lt_of_le (show _ < 128 by omega) (by decide), (s5.trans (hd1_same s6)).trans hd1_upd, ys ++ [V.str (SX.S o)], upd_same, by rw [List.length_append]; exact Nat.succ_le_succ ly, ?_⟩
        rw [ea, e, e2, Bool.and_true, Bool.or_true]
        cases ys <;> rfl
      rintro H5 ⟨s5, ys, hD, ly, ih⟩
      rw [lp, List.take_length] at ih
      refine ⟨Nat.zero_le _, fun e0 ne0 => ?_⟩
      have s6 := same_upd (o := HO.lst []) ne0
      have s45 : Same H4 H5 := fun b o e => hd1_le _ _ (s5 _ _ e)
      refine ⟨D, e0, ys, rfl, rfl, SqL.of (s6 _ _ hD), SqL.of upd_same, _, rfl, ?_⟩
      rw [ih]
      have hF6 := s6 _ _ (s45 _ _ hF)
      refine ite2 (fun e => ?_) (fun e => ?_)
      · have hF7 := hF6
        refine ⟨.ref F, rfl, .inl ⟨rfl, _, SqL.of hF6⟩, .str (SX.S p), rfl, F, _, _, rfl, rfl, hF6, ?_, ?_⟩
        · unfold pVs
          rw [List.length_map]
          have := List.length_filter_le (fun p => !(al.any fun o => !decide (o = p) && hall o p)) (al.take j)
          rw [List.length_take] at this
          exact Nat.lt_of_lt_of_le (show _ < 128 by omega) (by decide)
        · refine ⟨_, rfl, (s4.trans (hd1_same (s45.trans s6))).trans hd1_upd, ?_⟩
          rw [upd_same, eq, if_pos e]
          unfold pVs
          rw [List.map_append]
          rfl
      · refine ⟨_, rfl, s4.trans (hd1_same (s45.trans s6)), ?_⟩
        rw [hF6, eq, if_neg e, List.append_nil]
    · rintro σ H4 ⟨y3, rfl, s4, hF⟩
      rw [lp, List.take_length] at hF
      exact ⟨.ref F, rfl, q F H4 nF' (s02.trans fun b o e => hd1_le _ _ (s4 _ _ e)) hF⟩

end
end Gk

--@NEST
set_option Elab.async false
set_option linter.all false
set_option maxRecDepth 100000
set_option maxHeartbeats 1000000
set_option pp.maxSteps 1500
set_option pp.deepTerms false
namespace Gk
open PySem PySem.Spec PyProof.Rows L2
section
variable {P : Program} {w : World} {K : PySem.W.Frag} {mg : Str → Option Value} {base : Heap}
/-! ### what is asked: rows of 1, cubes of the changes between two of them -/
def bothB (bs : List Bool) (c : Ch) : Bool := oneB bs c.1 && oneB bs c.2
def cubeC (c : Ch) : List Nat := cubeM c.1 c.2
def askedL (m : Nat) (bs : List Bool) (cs : List Ch) : List (List Nat) := ((rowsI m).filter (oneB bs)).map rowS ++ (cs.filter (bothB bs)).map cubeC
def askedM (m : Nat) (bs : List Bool) (cs : List Ch) : List (List Nat) := (prodsU m).filter fun p => decide (p ∈ askedL m bs cs)
theorem prodsU_mem {m : Nat} {p : List Nat} (ok : ProdOk m p) : p ∈ prodsU m := by
  have : ∀ (m : Nat) (p : List Nat), p.length = m → (∀ c ∈ p, SgOk c) → p ∈ chs (List.replicate m [45, 48, 49]) := fun m => by
    induction m with
    | zero =>
      intro p lp _
      rw [List.length_eq_zero_iff.mp lp]
      exact List.mem_singleton.mpr rfl
    | succ k ih =>
      intro p lp hc
      have hne : p ≠ [] := fun z => by rw [z] at lp; cases lp
      obtain ⟨r, x, rfl⟩ : ∃ r x, p = r ++ [x] := ⟨p.dropLast, p.getLast hne, (List.dropLast_concat_getLast hne).symm⟩
      rw [List.replicate_succ', chs_snoc]
      refine List.mem_flatMap.mpr ⟨r, ih r (by rw [List.length_append] at lp; simpa using lp) fun c h => hc c (List.mem_append_left _ h), List.mem_map.mpr ⟨x, ?_, rfl⟩⟩
      have := hc x (by simp)
      unfold SgOk at this
      rcases this with z | z | z <;> rw [z] <;> decide
  exact this m p ok.1 ok.2
theorem prodsU_nodup {m : Nat} (h : m ≤ 4) : (prodsU m).Nodup := by
  have : ((List.range 5).all fun m => decide (prodsU m).Nodup) = true := by decide +kernel
  exact of_decide_eq_true (List.all_eq_true.mp this m (List.mem_range.mpr (by omega)))
theorem rowS_ok {m : Nat} {r : List Int} (l : r.length = m) (o : Row01' r) : ProdOk m (rowS r) := by
  refine ⟨by unfold rowS; rw [List.length_map, l], fun c hc => ?_⟩
  unfold rowS at hc
  obtain ⟨x, _, rfl⟩ := List.mem_map.mp hc
  unfold wS SgOk
  split <;> decide
theorem cubeC_ok {m : Nat} {c : Ch} (ok : ChOk m c.1 c.2) : ProdOk m (cubeC c) := by
  refine ⟨cube_len ok, fun z hz => ?_⟩
  unfold cubeC cubeM at hz
  obtain ⟨x, _, rfl⟩ := List.mem_map.mp hz
  unfold wS SgOk
  split
  · split <;> decide
  · decide
theorem askedL_ok {m : Nat} {bs : List Bool} {cs : List Ch} (h : m ≤ 6) (oc : ∀ c ∈ cs, ChOk m c.1 c.2) : ∀ p ∈ askedL m bs cs, ProdOk m p := fun p hp => by
  rcases List.mem_append.mp hp with h' | h'
  · obtain ⟨r, hr, rfl⟩ := List.mem_map.mp h'
    obtain ⟨lr, or⟩ := rowsI_ok h r (List.mem_filter.mp hr).1
    exact rowS_ok lr or
  · obtain ⟨c, hc, rfl⟩ := List.mem_map.mp h'
    exact cubeC_ok (oc c (List.mem_filter.mp hc).1)
theorem sorted_sub {m : Nat} {f : List Nat → Bool} : (((prodsU m).filter f).map SX.S).Pairwise (fun x y => SrtS.ltC y x = false) := (prodsU_sorted m).sublist ((List.filter_sublist).map _)
theorem nodup_S {ps : List (List Nat)} (h : ps.Nodup) : (ps.map SX.S).Nodup := List.Pairwise.map _ (fun a b h e => h (SX.S_inj e)) h
/-- sorted texts, each once, of products: just those of prodsU -/
theorem asked_uniq {m : Nat} (h : m ≤ 4) {l : List (List Nat)} (okl : ∀ p ∈ l, ProdOk m p) {ys : List Str} (st : ys.Pairwise (fun x y => SrtS.ltC y x = false)) (nd : ys.Nodup) (mem : ∀ x, x ∈ ys ↔ x ∈ l.map SX.S) : ys = ((prodsU m).filter fun p => decide (p ∈ l)).map SX.S := by
  refine sorted_uniq ((List.perm_ext_iff_of_nodup nd (nodup_S ((prodsU_nodup h).sublist List.filter_sublist))).mpr fun x => ?_) st sorted_sub
  rw [mem, List.mem_map, List.mem_map]
  constructor
  · rintro ⟨p, hp, rfl⟩
    exact ⟨p, List.mem_filter.mpr ⟨prodsU_mem (okl p hp), decide_eq_true hp⟩, rfl⟩
  · rintro ⟨p, hp, rfl⟩
    exact ⟨p, of_decide_eq_true (List.mem_filter.mp hp).2, rfl⟩
/-! ### what is asked: the law's own -/
theorem hdK {H : Hp} {D b : Addr} {o : HO} {kvs : List (Key × V)} (e : H D = some (.dK kvs)) (h : H b = some o) (n : ∀ kvs, o ≠ .dK kvs) : hd1 D H b = some o := by
  have ne : b ≠ D := fun z => by
    rw [z, e] at h
    exact n kvs (Option.some.inj h).symm
  unfold hd1
  rw [if_neg ne]
  exact h
mutual
theorem Tk.hdK {H : Hp} {D : Addr} {kvs : List (Key × V)} (e : H D = some (.dK kvs)) : ∀ {v : V} {d : PyData}, Tk H v d → Tk (hd1 D H) v d
  | _, _, .bl b => .bl b
  | _, _, .int i => .int i
  | _, _, .str x => .str x
  | _, _, .lst h t => .lst (Gk.hdK e h fun _ z => by cases z) (t.hdK e)
  | _, _, .tup h t => .tup (Gk.hdK e h fun _ z => by cases z) (t.hdK e)
theorem TkAll.hdK {H : Hp} {D : Addr} {kvs : List (Key × V)} (e : H D = some (.dK kvs)) : ∀ {vs : List V} {ds : List PyData}, TkAll H vs ds → TkAll (hd1 D H) vs ds
  | _, _, .nil => .nil
  | _, _, .cons h t => .cons (h.hdK e) (t.hdK e)
end
theorem any_key {kvs : List (Key × V)} {k : Key} : (kvs.any fun kv => decide (kv.1 = k)) = true ↔ k ∈ kvs.map (·.1) := by
  rw [List.any_eq_true, List.mem_map]
  exact ⟨fun ⟨x, h, y⟩ => ⟨x, h, of_decide_eq_true y⟩, fun ⟨x, h, y⟩ => ⟨x, h, decide_eq_true y⟩⟩
theorem putK_old {kvs : List (Key × V)} {k : Key} {v : V} (h : k ∈ kvs.map (·.1)) : (putK kvs k v).map (·.1) = kvs.map (·.1) := by
  unfold putK
  rw [if_pos (any_key.mpr h), List.map_map]
  refine List.map_congr_left fun x _ => ?_
  show (if x.1 = k then (x.1, v) else x).1 = x.1
  split <;> rfl
theorem putK_more {kvs : List (Key × V)} {k : Key} {v : V} (h : ¬ k ∈ kvs.map (·.1)) : (putK kvs k v).map (·.1) = kvs.map (·.1) ++ [k] := by
  unfold putK
  rw [if_neg (fun z => h (any_key.mp z)), List.map_append]
  rfl
theorem kTT' : kitB "tuple" "tuple" = some true := by decide +kernel
theorem kSS' : kitB "str" "str" = some true := by decide +kernel
/-- a dict whose keys are just the texts of l, each once -/
def Askd (l : List (List Nat)) (kvs : List (Key × V)) : Prop := ∃ ks : List Str, kvs.map (·.1) = ks.map Sum.inr ∧ ks.Nodup ∧ (∀ x, x ∈ ks ↔ x ∈ l.map SX.S) ∧ ks.length ≤ l.length
theorem Askd.few {l : List (List Nat)} {kvs : List (Key × V)} (h : Askd l kvs) : kvs.length ≤ l.length := by
  obtain ⟨ks, e, _, _, f⟩ := h
  have := congrArg List.length e
  rw [List.length_map, List.length_map] at this
  omega
theorem Askd.put {l : List (List Nat)} {kvs : List (Key × V)} (h : Askd l kvs) (p : List Nat) (v : V) : Askd (l ++ [p]) (putK kvs (.inr (SX.S p)) v) := by
  obtain ⟨ks, e, nd, mem, few⟩ := h
  unfold Askd
  have e2 : (Sum.inr (SX.S p) : Key) ∈ ks.map Sum.inr ↔ SX.S p ∈ ks := by
    rw [List.mem_map]
    exact ⟨fun ⟨x, h, y⟩ => by rw [← Sum.inr.inj y]; exact h, fun h => ⟨_, h, rfl⟩⟩
  by_cases z : SX.S p ∈ ks
  · refine ⟨ks, by rw [putK_old (by rw [e]; exact e2.mpr z), e], nd, fun x => ?_, by rw [List.length_append]; omega⟩
    rw [List.map_append, List.mem_append, ← mem x]
    exact ⟨.inl, fun h => h.elim id fun y => by rw [List.mem_singleton.mp y]; exact z⟩
  · refine ⟨ks ++ [SX.S p], by rw [putK_more (by rw [e]; exact fun y => z (e2.mp y)), e, List.map_append]; rfl, ?_, fun x => ?_, by rw [List.length_append, List.length_append]; exact Nat.add_le_add_right few 1⟩
    · rw [List.nodup_append]
      exact ⟨nd, List.nodup_cons.mpr ⟨by simp, List.nodup_nil⟩, fun y hy w hw e => z (by rw [List.mem_singleton.mp hw] at e; exact e ▸ hy)⟩
    · rw [List.map_append, List.mem_append, List.mem_append, ← mem x]
      rfl
theorem cube_self : ∀ {r : List Int}, cubeM r r = rowS r := by
  intro r
  unfold cubeM rowS
  induction r with
  | nil => rfl
  | cons x t ih =>
    rw [List.zip_cons_cons, List.map_cons, List.map_cons, ih]
    simp
theorem askd_snoc {f : List Int → Bool} {l : List (List Int)} {j : Nat} {x : List Int} (h : l[j]? = some x) : ((l.take (j + 1)).filter f).map rowS = ((l.take j).filter f).map rowS ++ (if f x = true then [rowS x] else []) := by
  rw [filter_snoc h, List.map_append]
  split <;> rfl
def sp_asked (K : PySem.W.Frag) : Sp := fun vs H Q _ => ∃ (wa : Addr) (m : Nat) (bs : List Bool) (cs : List Ch), vs = [.ref wa] ∧ Tk H (.ref wa) (wishD m bs cs) ∧ WishOk m bs cs ∧ ∀ r H', H r = none → Same H H' → H' r = some (.lst (pVs (askedM m bs cs))) → Q (.ref r) H'
theorem ok_asked (T : Tx K mg) : FnOk P w K mg base CX0 2 T.f_asked T.fd_asked ["_law_wish_here"] (sp_asked K) := by
  refine T.F_asked.ok sc_asked (fun vs H Q E h => ?_) (fun cdv A outer s H vs Q E hr h => ?_)
  · obtain ⟨wa, m, bs, cs, rfl, _⟩ := h
    rfl
  · obtain ⟨wa, m, bs, cs, rfl, tw, ok, q⟩ := h
    obtain ⟨_, t, xs, e, hw, ht, tx⟩ := tw.wish_inv
    cases e
    have m1 := ok.m1
    have m4 := ok.m4
    have lb := ok.lb
    have lc := ok.lc
    refine ⟨_, (pss_cons (ps_set (i := 1) sc_asked.nd rfl (by first | exact .inl rfl | exact .inr rfl) pe_dnewK) (pss_cons (ps_for PassesOwn.never rfl (pi_list (pe_call (ok_rows T) (hr.mono (by decide)) (by rfl) T.g_rows T.F_rows.kp T.b_rows .nil pass0 (pa_cons (pe_ix ix_tup (pv 0) pe_int (fun _ _ => rfl)) pa_nil))) (pg_name (i := 2) sc_asked.nd rfl (by first | exact .inl rfl | exact .inr rfl)) (pss_one (ps_if (pt_cmpR op_eq (pe_call (ok_worth T) (hr.mono (by decide)) (by rfl) T.g_worth T.F_worth.kp T.b_worth .nil pass0 (pa_cons (pv 0) (pa_cons (pv 2) pa_nil))) pe_int (nomark _)) (pss_one (ps_dput (hu_of hr) (pv 1) (pe_call (ok_cube T) (hr.mono (by decide)) (by rfl) T.g_cube T.F_cube.kp T.b_cube .nil pass0 (pa_cons (pv 2) (pa_cons (pv 2) pa_nil))) pe_bl rfl)) pss_nil))) (pss_cons (ps_for PassesOwn.never rfl (pi_tup (pe_ix ix_tup (pv 0) pe_int (fun _ _ => rfl))) (pg_tup rfl (pgs_cons (pg_name (i := 3) sc_asked.nd rfl (by first | exact .inl rfl | exact .inr rfl)) (pgs_cons (pg_name (i := 4) sc_asked.nd rfl (by first | exact .inl rfl | exact .inr rfl)) pgs_nil))) (pss_one (ps_if (pw_and (pt_cmpR op_eq (pe_call (ok_worth T) (hr.mono (by decide)) (by rfl) T.g_worth T.F_worth.kp T.b_worth .nil pass0 (pa_cons (pv 0) (pa_cons (pv 3) pa_nil))) pe_int (nomark _)) (pw_and1 (pt_cmpR op_eq (pe_call (ok_worth T) (hr.mono (by decide)) (by rfl) T.g_worth T.F_worth.kp T.b_worth .nil pass0 (pa_cons (pv 0) (pa_cons (pv 4) pa_nil))) pe_int (nomark _)))).pt (pss_one (ps_dput (hu_of hr) (pv 1) (pe_call (ok_cube T) (hr.mono (by decide)) (by rfl) T.g_cube T.F_cube.kp T.b_cube .nil pass0 (pa_cons (pv 3) (pa_cons (pv 4) pa_nil))) pe_bl rfl)) pss_nil))) (pss_one (ps_ret (pe_callB (SrtDx.cr_sortedDx rfl) (by rfl) T.m_sorted (by decide +kernel) (pa_cons (pv 1) pa_nil))))))), ?_⟩
    intro D nD
    have s0 := same_upd (o := (HO.dK [])) nD
    have h0 : upd H D (HO.dK []) D = some (HO.dK []) := upd_same
    generalize upd H D (HO.dK []) = H0 at s0 h0 ⊢
    refine ⟨.ref wa, rfl, wa, _, _, .int m, rfl, rfl, SqT.of (s0 _ _ hw), rfl, m, rfl, m1, by omega, fun r H1 nr s1 tr => ?_⟩
    obtain ⟨_, rs, e, hr1, trs⟩ := tr.lst_inv
    cases e
    rw [rowsUI (by omega)] at trs
    have lrs : rs.length = (rowsI m).length := by
      have := trs.length
      rw [List.length_map] at this
      exact this
    have l16 : (rowsI m).length ≤ 16 := by rw [rowsI_len (by omega)]; exact Nat.pow_le_pow_right (by decide) m4
    have s01 : Same H (hd1 D H1) := (hd1_of s0 nD).trans (hd1_same s1)
    have h1 := s1 _ _ h0
    have hr1' := hdK h1 hr1 fun _ z => by cases z
    replace trs := trs.hdK h1
    have okI := rowsI_ok (show m ≤ 6 by omega)
    have okl := askedL_ok (bs := bs) (show m ≤ 6 by omega) ok.oc
    unfold askedM askedL at q
    unfold askedL at okl
    revert trs lrs l16 okI q okl
    generalize rowsI m = R
    intro q lrs l16 trs okI okl
    refine ⟨r, rfl, ⟨_, SqL.of hr1⟩, for_list (K := K) (a := r) (xs := rs) (fun j σ H' => ∃ y2 kvs, σ = [some (.ref wa), some (.ref D), y2, none, none] ∧ Same H (hd1 D H') ∧ Same (hd1 D H1) (hd1 D H') ∧ H' D = some (.dK kvs) ∧ Askd (((R.take j).filter (oneB bs)).map rowS) kvs)
      ⟨_, [], rfl, s01, Same.refl _, h1, [], rfl, List.nodup_nil, fun x => Iff.rfl, Nat.le_refl _⟩ (fun j σ H' _ ⟨_, _, _, _, z, _⟩ => SqL.of (hd1_le _ _ (z _ _ hr1'))) ?_ ?_⟩
    · rintro j v σ H2 hv ⟨y2, kvs, rfl, s2, s12, hD, hk⟩
      obtain ⟨ra, r', rfl, hr', hra⟩ := Tk.row_at trs hv
      obtain ⟨lr, or⟩ := okI r' (List.mem_of_getElem? hr')
      have hra2 := hd1_le _ _ (s12 _ _ hra)
      have eq := askd_snoc (f := oneB bs) hr'
      refine ⟨.ref wa, rfl, .ref ra, rfl, wa, ra, m, bs, _, r', rfl, hd1_le _ _ (s2 _ _ hw), hra2, or, lr, by omega, lb, rfl, _, rfl, ?_⟩
      have eo : decide (V.int (gateM bs r') = V.int 1) = oneB bs r' := int_dec _ _
      refine ite2 (fun e => ?_) (fun e => ?_)
      · have e1 := eo.symm.trans e
        refine ⟨.ref D, rfl, .ref ra, rfl, .ref ra, rfl, m, ra, ra, r', r', rfl, hra2, hra2, or, lr, lr, by omega, fun H3 s3 => ?_⟩
        rw [cube_self]
        have hD3 := s3 _ _ hD
        have fw := hk.few
        rw [List.length_map] at fw
        have l2 := List.length_filter_le (oneB bs) (R.take j)
        rw [List.length_take] at l2
        refine ⟨D, _, rfl, DPut.k (k := .inr (SX.S (rowS r'))) hD3 (Nat.lt_of_lt_of_le (show _ < 64 by omega) (by decide)), _, _, rfl, (s2.trans (hd1_same s3)).trans hd1_upd, (s12.trans (hd1_same s3)).trans hd1_upd, upd_same, ?_⟩
        rw [eq, if_pos e1]
        exact hk.put _ _
      · have e1 : ¬ oneB bs r' = true := fun z => e (eo.trans z)
        refine ⟨_, kvs, rfl, s2, s12, hD, ?_⟩
        rw [eq, if_neg e1, List.append_nil]
        exact hk
    · rintro σ H2 ⟨y2, kvs, rfl, s2, s12, hD, hk⟩
      rw [lrs, List.take_length] at hk
      have lx := tx.length
      rw [List.length_map] at lx
      have lf := List.length_filter_le (oneB bs) R
      refine ⟨.ref wa, rfl, wa, _, _, .ref t, rfl, rfl, SqT.of (hd1_le _ _ (s2 _ _ hw)), rfl, t, rfl, ⟨_, SqT.of (hd1_le _ _ (s2 _ _ ht))⟩, for_tup (K := K) (a := t) (xs := xs) (fun j σ H' => ∃ y2 y3 y4 kvs, σ = [some (.ref wa), some (.ref D), y2, y3, y4] ∧ Same H (hd1 D H') ∧ H' D = some (.dK kvs) ∧ Askd ((R.filter (oneB bs)).map rowS ++ ((cs.take j).filter (bothB bs)).map cubeC) kvs)
        ⟨_, _, _, kvs, rfl, s2, hD, by simpa using hk⟩ (fun j σ H' _ ⟨_, _, _, _, _, z, _⟩ => SqT.of (hd1_le _ _ (z _ _ ht))) ?_ ?_⟩
      · rintro j v σ H3 hv ⟨y2, y3, y4, kvs, rfl, s3, hD, hk⟩
        obtain ⟨c, hc, tc⟩ := tx.at hv
        have s3' : Same H H3 := fun b o e => hd1_le _ _ (s3 _ _ e)
        obtain ⟨ca, rfl, hca⟩ := ChAt.of_tk (tc.same s3')
        obtain ⟨ra, rb, hc3, ha, hb⟩ := id hca
        have okc := ok.oc c (List.mem_of_getElem? hc)
        have m6 := okc.m6
        have eq := filter_snoc (f := bothB bs) hc
        have ea : decide (V.int (gateM bs c.1) = V.int 1) = oneB bs c.1 := int_dec _ _
        have eb : decide (V.int (gateM bs c.2) = V.int 1) = oneB bs c.2 := int_dec _ _
        refine ⟨ca, _, rfl, SqT.of hc3, rfl, _, _, rfl, _, _, rfl, rfl, ?_⟩
        have skip : bothB bs c = false → ∃ z2 y3 y4 kvs, ([some (V.ref wa), some (V.ref D), y2, some (V.ref ra), some (V.ref rb)] : List (Option V)) = [some (V.ref wa), some (V.ref D), z2, y3, y4] ∧ Same H (hd1 D H3) ∧ H3 D = some (.dK kvs) ∧ Askd ((R.filter (oneB bs)).map rowS ++ ((cs.take (j + 1)).filter (bothB bs)).map cubeC) kvs := fun e => by
          refine ⟨_, _, _, kvs, rfl, s3, hD, ?_⟩
          rw [eq, if_neg (by rw [e]; decide), List.append_nil]
          exact hk
        refine ⟨.ref wa, rfl, .ref ra, rfl, wa, ra, m, bs, _, c.1, rfl, s3' _ _ hw, ha, okc.oa, okc.la, m6, lb, rfl, _, rfl, ite2 (fun e => ?_) (fun e => skip ?_)⟩
        · refine ⟨.ref wa, rfl, .ref rb, rfl, wa, rb, m, bs, _, c.2, rfl, s3' _ _ hw, hb, okc.ob, okc.lb, m6, lb, rfl, _, rfl, ite2 (fun e2 => ?_) (fun e2 => skip ?_)⟩
          · refine ⟨.ref D, rfl, .ref ra, rfl, .ref rb, rfl, m, ra, rb, c.1, c.2, rfl, ha, hb, okc.oa, okc.la, okc.lb, m6, fun H4 s4 => ?_⟩
            have hD4 := s4 _ _ hD
            have fw := hk.few
            rw [List.length_append, List.length_map, List.length_map] at fw
            have l2 := List.length_filter_le (bothB bs) (cs.take j)
            rw [List.length_take] at l2
            refine ⟨D, _, rfl, DPut.k (k := .inr (SX.S (cubeM c.1 c.2))) hD4 (Nat.lt_of_lt_of_le (show _ < 128 by omega) (by decide)), _, _, _, _, rfl, (s3.trans (hd1_same s4)).trans hd1_upd, upd_same, ?_⟩
            rw [eq, if_pos (show bothB bs c = true by show (oneB bs c.1 && oneB bs c.2) = true; rw [← ea, ← eb, e, e2]; rfl), List.map_append, ← List.append_assoc]
            exact hk.put _ _
          · show (oneB bs c.1 && oneB bs c.2) = false
            rw [← eb, Bool.eq_false_iff.mpr e2, Bool.and_false]
        · show (oneB bs c.1 && oneB bs c.2) = false
          rw [← ea, Bool.eq_false_iff.mpr e, Bool.false_and]
      · rintro σ H3 ⟨y2, y3, y4, kvs, rfl, s3, hD, hk⟩
        rw [lx, List.take_length] at hk
        obtain ⟨ks, ek, nd, mem, few⟩ := hk
        refine ⟨.ref D, rfl, D, kvs, ks, rfl, hD, ek, fun ys p pm st np => ?_⟩
        have s3' : Same H H3 := fun b o e => hd1_le _ _ (s3 _ _ e)
        have np0 : H p = none := by
          cases z : H p with
          | none => rfl
          | some o => rw [s3' _ _ z] at np; cases np
        refine q p _ np0 (s3'.trans (same_upd np)) ?_
        rw [upd_same, asked_uniq m4 okl st (pm.nodup_iff.mpr nd) (fun x => by rw [pm.mem_iff]; exact mem x), pVs_S]
theorem sh_strsT {m : Nat} {ps : List (List Nat)} (h : CovOk m ps) : SeqAt.shaped (.tuple (ps.map fun p => PyData.str (SX.S p))) = true := by
  unfold SeqAt.shaped
  rw [Bool.and_eq_true]
  refine ⟨?_, decide_eq_true ?_⟩
  · simp only [PyData.canLay0, lay_strs ps h]
  · have := depth_strs ps
    simp only [PyData.depth]
    omega
end
end Gk

--@NEST
set_option Elab.async false
set_option linter.all false
set_option maxRecDepth 100000
set_option maxHeartbeats 1000000
set_option pp.maxSteps 1500
set_option pp.deepTerms false
namespace Gk
open PySem PySem.Spec PyProof.Rows L2
section
variable {P : Program} {w : World} {K : PySem.W.Frag} {mg : Str → Option Value} {base : Heap}
/-! ### defs called where nothing is being shown (so that repr tells what stands there) -/
structure FnG (P : Program) (w : World) (K : PySem.W.Frag) (mg : Str → Option Value) (bs : Heap) (CX : CXT) (k : Nat) (f : Addr) (fd : FuncData) (ps : List Str) (sp : Sp) : Prop where
  many : ∀ vs H Q E, sp vs H Q E → vs.length = ps.length
  go : ∀ A : Around, A.guards = some [] → Room k A → ∀ (fr : List Env) (s : Shared) (H : Hp) (ar : Args) (us : List Value) (vs : List V) (Q : VK) (E : XK), Env0 P w K mg bs A fr s H → BindsTo s fd ar (ps.zip us) → Vals vs us → sp vs H Q E → codeAny (model P w) A (.call (.ref f) ar) (CR CX fr P w H s Q E) s
theorem FnG.of {P : Program} {w : World} {K : PySem.W.Frag} {mg : Str → Option Value} {bs : Heap} {CX : CXT} {k : Nat} {f : Addr} {fd : FuncData} {ps : List Str} {sp : Sp} (F : FnOk P w K mg bs CX k f fd ps sp) : FnG P w K mg bs CX k f fd ps sp :=
  ⟨F.len, fun A _ room fr s H ar us vs Q E e0 b r h => F.run A fr s H ar us vs Q E room e0 b r h⟩
theorem okG {CX : CXT} {P : Program} {w : World} {K : PySem.W.Frag} {mg : Str → Option Value} {bs : Heap} {x qual : Str} {st : Stmt} {f : Addr} {fd : FuncData} {N ps : List Str} {k : Nat} {sp : Sp} (F : Fun K x qual st f fd) (S : FnScope N ps (defScope st))
    (many : ∀ vs H Q E, sp vs H Q E → vs.length = ps.length)
    (body : ∀ (cdv : Value) (A : Around) (fr : List Env) (s : Shared) (H : Hp) (vs : List V) (Q : VK) (E : XK), A.guards = some [] → Room k (A.deeper (envOfC qual (defScope st) s.heap.objs.size f cdv)) → sp vs H Q E →
      ∃ t, PSs (cxOf CX P w K mg bs N qual (defScope st) f cdv A fr s H E) (defBody st) t ∧ t ⟨fun _ H' => Q .non H', Q, fun _ _ => False, fun _ _ => False⟩ (start N vs) H) : FnG P w K mg bs CX (k + 1) f fd ps sp := by
  obtain ⟨oc, od, kV, doc, pm, an, cdv, ct, osl, rfl, lk, code⟩ := F.ex
  refine ⟨many, fun A nothing room fr s H ar us vs Q E e0 bound rel told => ?_⟩
  have stays : ∀ b o, bs.get? b = some o → s.heap.get? b = some o := fun b o z => (e0.bs b o z).1
  have inK : K.In s.heap := e0.mod.kin.keeps stays
  have places : ∀ y ∈ ps.zip us, (defScope st).names.lookup y.1 = some .local ∨ ((defScope st).names.lookup y.1 = some .cell ∧ ((cellsFrom (s.heap.objs.size + 1) (defScope st).names []).lookup y.1).isSome = true) := by
    rintro ⟨n, v⟩ hy
    exact (S.par n (List.of_mem_zip hy).1).imp id fun c => ⟨c, PySem.W.cellsFrom_some _ _ _ (Or.inl c)⟩
  refine codeAny_call_function room.depth (inK _ _ lk) rfl S.co S.gen rfl (PySem.W.codeRec_of inK code) (bound _ _ _ _
    (wpAny_newFunctionEnv_cells S.kind places fun env he s1 made => ?_))
  subst he
  obtain ⟨t, runs, holds⟩ := body cdv A fr s H vs Q E nothing (room.deeper _) told
  refine ⟨(e0.mod.nolimit.keeps stays).keeps made.toInCall.keep, codeAny_func (wpAny_mono (runs.run [] s1 (start N vs) H _ (inv_start S room.hd e0 (many _ _ _ _ told) rel made) holds) (fun fl s2 z => ?_) fun _ _ z => z)⟩
  match fl, z with
  | .ret _, ⟨v, _, H', J, rv, q⟩ => exact ⟨v, H', J.os, J.bare, J.base, J.hok, rv, q⟩
  | .next, ⟨_, H', J, q⟩ => exact ⟨V.non, H', J.os, J.bare, J.base, J.hok, rfl, q⟩
  | .brk, ⟨_, _, _, q⟩ => exact q.elim
  | .cont, ⟨_, _, _, q⟩ => exact q.elim
theorem okG0 {P : Program} {w : World} {K : PySem.W.Frag} {mg : Str → Option Value} {bs : Heap} {x qual : Str} {st : Stmt} {f : Addr} {fd : FuncData} {N ps : List Str} {k : Nat} {sp : Sp} (F : Fun K x qual st f fd) (S : FnScope N ps (defScope st))
    (many : ∀ vs H Q E, sp vs H Q E → vs.length = ps.length)
    (body : ∀ (cdv : Value) (A : Around) (fr : List Env) (s : Shared) (H : Hp) (vs : List V) (Q : VK) (E : XK), A.guards = some [] → Room k (A.deeper (envOfC qual (defScope st) s.heap.objs.size f cdv)) → sp vs H Q E →
      ∃ t, PSs (cxOf CX0 P w K mg bs N qual (defScope st) f cdv A fr s H E).nox (defBody st) t ∧ t ⟨fun _ H' => Q .non H', Q, fun _ _ => False, fun _ _ => False⟩ (start N vs) H) : FnG P w K mg bs CX0 (k + 1) f fd ps sp :=
  okG F S many fun cdv A fr s H vs Q E g r h => by
    obtain ⟨t, p, q⟩ := body cdv A fr s H vs Q E g r h
    exact ⟨t, p.nox, q⟩
section
variable {X : Cx} {CX : CXT} {k : Nat} {f : Addr} {fd : FuncData} {ps : List Str} {sp : Sp} {ds : List Value} {dvs : List V} {E : XK}
theorem runG {pins : List (Addr × Obj)} {σ : L2.St} {H : Hp} {s : Shared} {Q : VK} {us : List Value} {vs : List V} (F : FnG X.prog X.w X.K X.mg X.base CX k f fd ps sp) (nothing : X.A.guards = some []) (room : Room k X.A) (hb : Binds X.K fd ps ds)
    (hd : Vals dvs ds) (out : Passes CX X E) (I : Inv X pins σ H s) (r : Vals vs us) (told : sp (vs ++ dvs) H Q E) : wpAny (model X.prog X.w) X.A (call (.ref f) us) (EP X pins σ Q) X.xe s := by
  have rel : Vals (vs ++ dvs) (us ++ ds) := r.append hd
  have size : (us ++ ds).length = ps.length := rel.length ▸ F.many _ _ _ _ told
  refine wpAny_call (codeAny_mono (F.go X.A nothing room X.stack s H _ _ _ Q E I.env0 (hb s us I.kIn size) rel told) fun res s2 z => ?_)
  match res, z with
  | .error e, z => exact out pins σ H s e s2 I z
  | .ok (.ret u), z => exact I.after z
  | .ok .next, z => exact z.elim
  | .ok .brk, z => exact z.elim
  | .ok .cont, z => exact z.elim
theorem pe_callG {x : Str} {p pos : Pos} {e : Expr} {es : List Expr} {t : TA} (F : FnG X.prog X.w X.K X.mg X.base CX k f fd ps sp) (nothing : X.A.guards = some []) (room : Room k X.A) (hg : Gl X x) (hm : X.mg x = some (.ref f)) (kp : PySem.W.keepIn X.K (.ref f) = true)
    (hb : Binds X.K fd ps ds) (hd : Vals dvs ds) (out : Passes CX X E) (ha : PA X (e :: es) t) (nd : (x == ("__debug__" : Str)) = false := by decide) (he : starEach (e :: es) X.env = (false, eval e X.env) :: starEach es X.env := by rfl)
    (hpl : (backTo pos (starEach es X.env)).any (·.1) = false := by rfl) : PE X (.Call (.Name x p) (e :: es) [] pos) (tCall sp dvs E t) := by
  refine ⟨fun pins s σ H Q I told => wpAny_Call_Name_kw (ld_glob I hg hm ?_ nd)⟩
  refine PySem.W.callWith_K (h₀ := X.base) I.ok.mod.kin kp (thn (ha.run pos pins s σ H _ I told) ?_) he hpl
  rintro us s1 ⟨vs, H1, J, r, q⟩
  exact ⟨J.kIn, runG F nothing room hb hd out J r q⟩
end
/-! ### what is shown by repr: plain data, whose lists and dicts were made by the law -/
def kD : Key → PyData
  | .inl i => .int i
  | .inr x => .str x
mutual
inductive Sh (H : Hp) : V → PyData → Prop
  | non : Sh H .non .none
  | bl (b : Bool) : Sh H (.bl b) (.bool b)
  | int (i : Int) : Sh H (.int i) (.int i)
  | str (x : Str) : Sh H (.str x) (.str x)
  | lst {a : Addr} {xs : List V} {ds : List PyData} : H a = some (.lst xs) → a ≠ sysModules → ShAll H xs ds → Sh H (.ref a) (.list ds)
  | tup {a : Addr} {xs : List V} {ds : List PyData} : H a = some (.tup xs) → ShAll H xs ds → Sh H (.ref a) (.tuple ds)
  | dic {a : Addr} {kvs : List (Key × V)} {ds : List PyData} : H a = some (.dK kvs) → ShAll H (kvs.map (·.2)) ds → Sh H (.ref a) (.dict ((kvs.map fun kv => kD kv.1).zip ds))
inductive ShAll (H : Hp) : List V → List PyData → Prop
  | nil : ShAll H [] []
  | cons {v : V} {vs : List V} {d : PyData} {ds : List PyData} : Sh H v d → ShAll H vs ds → ShAll H (v :: vs) (d :: ds)
end
theorem ShAll.length {H : Hp} : ∀ {vs : List V} {ds : List PyData}, ShAll H vs ds → vs.length = ds.length
  | _, _, .nil => rfl
  | _, _, .cons _ t => by rw [List.length_cons, List.length_cons, t.length]
mutual
theorem Sh.same {H H' : Hp} (s : Same H H') : ∀ {v : V} {d : PyData}, Sh H v d → Sh H' v d
  | _, _, .non => .non
  | _, _, .bl b => .bl b
  | _, _, .int i => .int i
  | _, _, .str x => .str x
  | _, _, .lst h n t => .lst (s _ _ h) n (t.same s)
  | _, _, .tup h t => .tup (s _ _ h) (t.same s)
  | _, _, .dic h t => .dic (s _ _ h) (t.same s)
theorem ShAll.same {H H' : Hp} (s : Same H H') : ∀ {vs : List V} {ds : List PyData}, ShAll H vs ds → ShAll H' vs ds
  | _, _, .nil => .nil
  | _, _, .cons h t => .cons (h.same s) (t.same s)
end
/-- the name of the class of such data -/
def tyD : PyData → String
  | .none => "NoneType"
  | .bool _ => "bool"
  | .int _ => "int"
  | .str _ => "str"
  | .list _ => "list"
  | .tuple _ => "tuple"
  | .dict _ => "dict"
theorem Sh.ty {K : PySem.W.Frag} {H : Hp} {v : V} {d : PyData} (h : Sh H v d) : TyX K H v (.type (tyD d)) := by
  cases h with
  | non => exact .base .non
  | bl b => exact .base (.bl b)
  | int i => exact .base (.int i)
  | str x => exact .base (.str x)
  | lst h _ _ => exact .base (.lst h)
  | tup h _ => exact .base (.tup h)
  | dic h _ => exact .base (.dK h)
section
variable {X : Cx} {pins : List (Addr × Obj)} {σ : L2.St} {H : Hp} {s : Shared}
theorem pairs_keys {P : Program} {w : World} {h : Heap} : ∀ {es : List DictEntry} {kvs : List (Key × Value)}, Pairs (mixKind P w) es kvs → ReadsAll h (es.map (·.key)) (kvs.map fun kv => kD kv.1) []
  | _, _, .nil => .nil
  | _, _, .cons (kv := kv) hk _ t => by
    have r := pairs_keys (h := h) t
    rcases keyIs_shape (k := kv.1) hk with ⟨i, u, e1, e2⟩ | ⟨x, u, e1, e2⟩
    · rw [List.map_cons, List.map_cons, e1, e2]
      exact ReadsAll.cons (as := []) (.int i u) r
    · rw [List.map_cons, List.map_cons, e1, e2]
      exact ReadsAll.cons (as := []) (.str x u) r
theorem pairs_vals {P : Program} {w : World} : ∀ {es : List DictEntry} {kvs : List (Key × Value)}, Pairs (mixKind P w) es kvs → es.map (·.val) = kvs.map (·.2)
  | _, _, .nil => rfl
  | _, _, .cons _ hv t => by rw [List.map_cons, List.map_cons, hv, pairs_vals t]
theorem kv_rel : ∀ {kvs : List (Key × V)} {vs : List (Key × Value)}, KV kvs vs → kvs.map (·.1) = vs.map (·.1) ∧ Vals (kvs.map (·.2)) (vs.map (·.2))
  | _, _, .nil => ⟨rfl, .nil⟩
  | _, _, .cons h t => by
    obtain ⟨a, b⟩ := kv_rel t
    exact ⟨by rw [List.map_cons, List.map_cons, a, h.1], .cons h.2 b⟩
mutual
theorem Sh.reads (I : Inv X pins σ H s) : ∀ (v : V) (d : PyData) (u : Value), Sh H v d → RelV v u → ∃ as, Reads s.heap u d as ∧ sysModules ∉ as
  | _, _, _, .non, r => by cases r; exact ⟨_, .none, List.not_mem_nil⟩
  | _, _, _, .bl b, r => by cases r; exact ⟨_, .bool b, List.not_mem_nil⟩
  | _, _, _, .int i, r => by obtain ⟨t, rfl⟩ := r; exact ⟨_, .int i t, List.not_mem_nil⟩
  | _, _, _, .str x, r => by obtain ⟨t, rfl⟩ := r; exact ⟨_, .str x t, List.not_mem_nil⟩
  | _, _, _, .lst (a := a) (xs := xs) h n t, r => by
    cases r
    obtain ⟨_, its, c, rv, ho⟩ := (show ObjOk X.prog X.w H s.heap a (.lst xs) from I.hok a _ h)
    obtain ⟨as, q, m⟩ := ShAll.reads I _ _ its t rv
    exact ⟨_, .list ho rfl rfl (by simpa using q), fun z => (List.mem_cons.mp z).elim (fun e => n e.symm) m⟩
  | _, _, _, .tup (a := a) (xs := xs) h t, r => by
    cases r
    obtain ⟨_, its, rv, o, ho, hc, c, hd⟩ := (show ObjOk X.prog X.w H s.heap a (.tup xs) from I.hok a _ h)
    obtain ⟨as, q, m⟩ := ShAll.reads I _ _ its t rv
    exact ⟨_, .tuple ho hc hd (by simpa using q), m⟩
  | _, _, _, .dic (a := a) (kvs := kvs) (ds := ds) h t, r => by
    cases r
    obtain ⟨_, low, vs, rel, o, es, ep, ho, hx, hd, _, hp, _⟩ := (show ObjOk X.prog X.w H s.heap a (.dK kvs) from I.hok a _ h)
    obtain ⟨rk, rv⟩ := kv_rel rel
    obtain ⟨as, q, m⟩ := ShAll.reads I _ _ (vs.map (·.2)) t rv
    have k1 : (kvs.map fun kv => kD kv.1) = vs.map fun kv => kD kv.1 := by
      have := congrArg (List.map kD) rk
      rw [List.map_map, List.map_map] at this
      exact this
    have ln : (kvs.map fun kv => kD kv.1).length = ds.length := by
      have := t.length
      rw [List.length_map] at this
      rw [List.length_map, this]
    refine ⟨_, .dict (as := []) (bs := as) ho hx.1 hd ?_ ?_, ?_⟩
    · rw [List.map_fst_zip (Nat.le_of_eq ln), k1]
      exact pairs_keys hp
    · rw [List.map_snd_zip (Nat.le_of_eq ln.symm), pairs_vals hp]
      exact q
    · intro z
      rcases List.mem_cons.mp z with e | e
      · exact absurd low (by rw [← e]; simp)
      · exact m e
theorem ShAll.reads (I : Inv X pins σ H s) : ∀ (vs : List V) (ds : List PyData) (us : List Value), ShAll H vs ds → Vals vs us → ∃ as, ReadsAll s.heap us ds as ∧ sysModules ∉ as
  | _, _, _, .nil, r => by cases r; exact ⟨_, .nil, List.not_mem_nil⟩
  | _, _, _, .cons h t, r => by
    cases r with
    | cons r1 r2 =>
      obtain ⟨as, q1, m1⟩ := Sh.reads I _ _ _ h r1
      obtain ⟨bs, q2, m2⟩ := ShAll.reads I _ _ _ t r2
      exact ⟨_, .cons q1 q2, fun z => (List.mem_append.mp z).elim m1 m2⟩
end
end
def rRepr : List V → Hp → VK → Prop := fun xs H Q => ∃ x d, xs = [x] ∧ Sh H x d ∧ d.showable = true ∧ d.shown.length ≤ sizeLine ∧ d.depth ≤ 50 ∧ Q (.str d.shown) H
theorem call_repr {X : Cx} (nothing : X.A.guards = some []) (hu : X.A.units + 64 < cLine) : CallR X (.builtin "repr") rRepr := by
  intro pins s σ H xs us Q I r h
  obtain ⟨x, d, rfl, sh, able, fits, deep, q⟩ := h
  cases r with
  | @cons _ u _ _ r1 r2 =>
    cases r2
    obtain ⟨as, rd, low⟩ := Sh.reads I _ _ _ sh r1
    have fin : ∀ h' t tk, (∀ b o, s.heap.get? b = some o → h'.get? b = some o) → EP X pins σ Q (.str d.shown t) { s with heap := h', toks := tk } := fun h' t tk kept => ⟨.str d.shown, H, I.kept kept, ⟨t, rfl⟩, q⟩
    cases sh with
    | non => cases r1; exact PySem.P.repr_of_none (fin _ _ _ fun _ _ z => z)
    | bl b => cases r1; exact PySem.P.repr_of_bool (fin _ _ _ fun _ _ z => z)
    | int i => obtain ⟨t, rfl⟩ := r1; exact PySem.P.repr_of_int (of_decide_eq_true able) (fin _ _ _ fun _ _ z => z)
    | str x => obtain ⟨t, rfl⟩ := r1; exact PySem.P.repr_of_str (fin _ _ _ fun _ _ z => z) fits
    | lst _ _ _ => cases r1; exact repr_of_reads' rd able (fun _ => low) nothing (by omega) (fun _ _ z => z) fin fits
    | tup _ _ => cases r1; exact repr_of_reads' rd able (fun _ => low) nothing (by omega) (fun _ _ z => z) fin fits
    | dic _ _ => cases r1; exact repr_of_reads' rd able (fun _ => low) nothing (by omega) (fun _ _ z => z) fin fits
/-- a display's list is none of the interpreter's own -/
def tLstN (t : TA) : TE := fun σ H Q => t σ H fun xs H1 => xs.length ≤ sizeLine ∧ ∀ p, H1 p = none → p ≠ sysModules → Q (.ref p) (upd H1 p (.lst xs))
theorem pe_lstN {X : Cx} {es : List Expr} {t : TA} {pos : Pos} (h : PA X es t) : PE X (.List es pos) (tLstN t) := by
  refine ⟨fun pins s σ H Q I told => wpAny_List_spliced (thn (h.run pos pins s σ H _ I told) ?_)⟩
  rintro us s1 ⟨xs, H1, J, r, small, q⟩
  have free : H1 s1.heap.objs.size = none := J.hok.fresh (Nat.le_refl _)
  refine ⟨by rw [← r.length]; exact small, .ref s1.heap.objs.size, upd H1 s1.heap.objs.size (.lst xs), J.laid (t' := s1.toks) (fun b u z => Heap.get?_push_of_some _ z) (Nat.le_refl _) ⟨small, us, 0, r, Heap.get?_push_size _ rfl⟩, rfl, q _ free (Nat.ne_of_gt J.big)⟩
/-! ### the end of a law whose defs are called where nothing is being shown -/
theorem law_G {P : Program} {w : World} {K : PySem.W.Frag} {mg mb : Str → Option Value} {CX : CXT} {k : Nat} {fa a : Addr} {fd : FuncData} {x : Str} {sp : Sp} {s : Shared} {vs : List Value} {ns : List Int}
    (inK : K.In s.heap) (gl : s.heap.Ns mainGlobals mg) (bl : s.heap.Ns builtinsNs mb) (boot : ∀ y : Str, y ≠ "__name__" → mb y = bootBuiltins y) (lim : s.heap.NoLimit) (ng : s.gens = #[])
    (at_ : s.heap.get? a = some { cls := .type "list", data := .seq vs.toArray }) (are : IntsAre vs ns) (small : ns.length ≤ sizeLine) (room : Room k callerA)
    (F : ∀ bs : Heap, K.In bs → bs.Ns mainGlobals mg → FnG P w K mg bs CX k fa fd [x] sp) (bound : ∀ (s : Shared) (u : Value), BindsTo s fd ⟨[u], []⟩ [(x, u)])
    (told : ∀ H : Hp, Only H → SqL K H a (ns.map V.int) → sp [.ref a] H (fun v _ => v = .bl true) fun _ _ _ => False)
    (noX : ∀ H e s', CX [] H s (fun _ _ _ => False) e s' → False) :
    codeAny (model P w) callerA (.call (.ref fa) ⟨[.ref a], []⟩) (fun r s' => r = .ok (.ret (.bool true)) ∧ OldK s.heap s'.heap ∧ s'.os = s.os ∧ AllBare s'.gens) s := by
  have main : ∀ H : Hp, Only H → SqL K H a (ns.map V.int) → HOk P w H s.heap → (∀ b, H b ≠ none → b = a) → (H a ≠ none → K.lookup a = none) →
      codeAny (model P w) callerA (.call (.ref fa) ⟨[.ref a], []⟩) (fun r s' => r = .ok (.ret (.bool true)) ∧ OldK s.heap s'.heap ∧ s'.os = s.os ∧ AllBare s'.gens) s := by
    intro H only list ok alone out
    have seen : ∀ {b : Addr} {o : Obj}, s.heap.get? b = some o → H b = none → (hidT s.heap H).get? b = some o := fun z n => hidT_get z n
    have dict : ∀ {b : Addr} {o : Obj} {es : Array DictEntry} {ep : Nat}, s.heap.get? b = some o → o.data = .dict es ep → H b = none := by
      intro b o es ep z dz
      refine Classical.byContradiction fun some_ => ?_
      have eb := alone b some_
      rw [eb, at_] at z
      cases z
      cases (show Data.seq vs.toArray _ = Data.dict es ep from dz)
    have names : ∀ {b : Addr} {m : Str → Option Value}, s.heap.Ns b m → (hidT s.heap H).Ns b m := by
      rintro b m ⟨o, es, ep, z, dz, rest⟩
      exact ⟨o, es, ep, seen z (dict z dz), dz, rest⟩
    have inB : K.In (hidT s.heap H) := by
      intro b o z
      refine seen (inK b o z) (Classical.byContradiction fun some_ => ?_)
      have eb := alone b some_
      subst eb
      rw [out some_] at z
      cases z
    obtain ⟨ml, l1, l2⟩ := lim
    have mod : Mod K mg (hidT s.heap H) := ⟨inB, names gl, ⟨mb, names bl, boot⟩, ⟨ml, names l1, l2⟩⟩
    have env : Env0 P w K mg (hidT s.heap H) callerA [] s H := { frames := rfl, mod := mod, bs := fun b o z => of_hidT z, bsz := Nat.le_of_eq (hidT_size _ _), funs := trivial, frf := (fun b hb => by cases (show b ∈ ([] : List Addr) from hb)), hok := ok, bare := .of_eq ng }
    refine codeAny_mono ((F _ inB (names gl)).go callerA rfl room [] s H _ [.ref a] [.ref a] _ _ env (bound s (.ref a)) (.cons rfl .nil) (told H only list)) fun r s2 z => ?_
    match r, z with
    | .error e, z => exact (noX H e s2 z).elim
    | .ok .next, z => exact z.elim
    | .ok .brk, z => exact z.elim
    | .ok .cont, z => exact z.elim
    | .ok (.ret u), ⟨v, H2, os, bare, un, ok2, rel, q⟩ =>
      cases (show v = V.bl true from q)
      cases (show u = Value.bool true from rel)
      refine ⟨rfl, OldK.of_keep fun b o z => ?_, os, bare⟩
      by_cases hb : H b = none
      · exact un.keep b o z hb (fun m => by cases (show b ∈ ([] : List Addr) from m)) (fun m => by cases m)
      · rcases only b with n | ⟨ob, xs, f⟩
        · exact absurd n hb
        · have o1 := (ok b _ f).1
          have o2 := (ok2 b _ (un.frzs b ob _ f)).1
          rw [z] at o1
          rw [Option.some.inj o1]
          exact o2
  have rel := vals_ints are
  cases hk : K.lookup a with
  | some o =>
    have z := inK a o hk
    rw [at_] at z
    cases z
    exact main (fun _ => none) (fun _ => .inl rfl) (.inr ⟨_, vs.toArray, _, hk, rfl, rfl, rfl, by rw [List.size_toArray, are.length]; exact small, by simpa using rel⟩) (fun b u z => by cases z) (fun b z => absurd rfl z) fun z => absurd rfl z
  | none =>
    have on : ∀ b : Addr, b = a → (if b = a then some (HO.frz { cls := .type "list", data := .seq vs.toArray } (.lst (ns.map V.int))) else none) = some (HO.frz { cls := .type "list", data := .seq vs.toArray } (.lst (ns.map V.int))) := fun b e => if_pos e
    refine main (fun b => if b = a then some (.frz { cls := .type "list", data := .seq vs.toArray } (.lst (ns.map V.int))) else none) (fun b => ?_) (.inl (.inr ⟨_, on a rfl⟩)) (fun b u z => ?_) (fun b z => ?_) fun _ => hk
    · rcases Classical.em (b = a) with e | e
      · exact .inr ⟨_, _, on b e⟩
      · exact .inl (if_neg e)
    · rcases Classical.em (b = a) with e | e
      · have := (on b e).symm.trans z
        cases this
        subst e
        exact ⟨at_, by rw [List.length_map]; exact small, vs, _, rel, at_⟩
      · have := (if_neg e).symm.trans z
        cases this
    · exact Classical.byContradiction fun e => z (if_neg e)
theorem walk_G {l : PySem.W.OpenLaw} {n k : Nat} {q : Program} {loose : List Str} {XP : (Str → Option Value) → Heap → Prop} {YP : World → Heap → Prop} {d : DefRec} {K : Params → PySem.W.Frag} {CX : World → CXT} {sp : World → Sp} {x : Str}
    (most : l.most = some n) (small : n ≤ sizeLine) (nodef : d.params.defaults = []) (room : Room k callerA) (inK : ∀ (w : World) (h : Heap), YP w h → (K w.params).In h)
    (F : ∀ (w : World) (mg : Str → Option Value) (fa : Addr) (h : Heap), (K w.params).In h → h.Ns mainGlobals mg → mg d.name = some (.ref fa) →
      ∃ fd : FuncData, (∀ (s : Shared) (u : Value), BindsTo s fd ⟨[u], []⟩ [(x, u)]) ∧ ∀ bs : Heap, (K w.params).In bs → bs.Ns mainGlobals mg → FnG l.prog w (K w.params) mg bs (CX w) k fa fd [x] (sp w))
    (told : ∀ (w : World) (H : Hp) (a : Addr) (ns : List Int), ns.length ≤ n → Only H → SqL (K w.params) H a (ns.map V.int) → sp w [.ref a] H (fun v _ => v = .bl true) fun _ _ _ => False)
    (noX : ∀ (w : World) (H : Hp) (s : Shared) (e : Value) (s' : Shared), CX w [] H s (fun _ _ _ => False) e s' → False) :
    PySem.W.WalkO q loose XP YP l.row.toRowW d [] (fun f vs => PySem.call f vs) := by
  refine Att.attach_call most nodef fun w s₀ s₁ mg mb fa o pm cd doc a vs ns G Y ho hd hcd hmg hobj hints hlen hg => ?_
  obtain ⟨fd, bound, FG⟩ := F w mg fa _ (inK w _ Y) G.T.g hmg
  exact law_G (inK w _ Y) G.T.g G.T.b G.T.builtins G.T.nolimit hg hobj hints (Nat.le_trans hlen small) room FG bound (fun H only list => told w H a ns hlen only list) fun H e s2 => noX w H s₁ e s2

mutual
theorem Sh.gr {H H' : Hp} (s : Gr H H') : ∀ {v : V} {d : PyData}, Sh H v d → Sh H' v d
  | _, _, .non => .non
  | _, _, .bl b => .bl b
  | _, _, .int i => .int i
  | _, _, .str x => .str x
  | _, _, .lst h n t => .lst (s.lst h) n (t.gr s)
  | _, _, .tup h t => .tup (s.tup h) (t.gr s)
  | _, _, .dic h t => .dic (s.1 _ _ (fun _ z => by cases z) h) (t.gr s)
theorem ShAll.gr {H H' : Hp} (s : Gr H H') : ∀ {vs : List V} {ds : List PyData}, ShAll H vs ds → ShAll H' vs ds
  | _, _, .nil => .nil
  | _, _, .cons h t => .cons (h.gr s) (t.gr s)
end
theorem ShAll.get {H : Hp} : ∀ {xs : List V} {ds : List PyData} {j : Nat} {x : V}, ShAll H xs ds → xs[j]? = some x → ∃ d, ds[j]? = some d ∧ Sh H x d
  | _, _, _, _, .nil, h => by simp at h
  | _, _, 0, _, .cons (d := d) a _, h => by
    cases (Option.some.inj h)
    exact ⟨d, rfl, a⟩
  | _, _, j + 1, _, .cons _ t, h => t.get h
theorem ShAll.append {H : Hp} : ∀ {xs ys : List V} {ds es : List PyData}, ShAll H xs ds → ShAll H ys es → ShAll H (xs ++ ys) (ds ++ es)
  | _, _, _, _, .nil, t => t
  | _, _, _, _, .cons a r, t => .cons a (r.append t)
theorem ShAll.take {H : Hp} : ∀ {xs : List V} {ds : List PyData} (n : Nat), ShAll H xs ds → ShAll H (xs.take n) (ds.take n)
  | _, _, 0, _ => by rw [List.take_zero, List.take_zero]; exact .nil
  | _, _, n + 1, .nil => .nil
  | _, _, n + 1, .cons a r => .cons a (r.take n)
theorem ShAll.drop {H : Hp} : ∀ {xs : List V} {ds : List PyData} (n : Nat), ShAll H xs ds → ShAll H (xs.drop n) (ds.drop n)
  | _, _, 0, h => h
  | _, _, n + 1, .nil => .nil
  | _, _, n + 1, .cons _ r => r.drop n
theorem notT {b : Bool} (h : (!b) = true) : ¬ b = true := by cases b <;> simp_all
theorem notF {b : Bool} (h : ¬ (!b) = true) : b = true := by cases b <;> simp_all

/-! ### kinds of data -/
def isIntD : PyData → Bool
  | .int _ => true
  | .bool _ => true
  | _ => false
def isBoolD : PyData → Bool
  | .bool _ => true
  | _ => false
def isTupD : PyData → Bool
  | .tuple _ => true
  | _ => false
def isStrD : PyData → Bool
  | .str _ => true
  | _ => false
theorem kitInt : ∀ d : PyData, kitB (tyD d) "int" = some (isIntD d)
  | .none => (by decide +kernel : kitB "NoneType" "int" = some false)
  | .bool _ => (by decide +kernel : kitB "bool" "int" = some true)
  | .int _ => (by decide +kernel : kitB "int" "int" = some true)
  | .str _ => (by decide +kernel : kitB "str" "int" = some false)
  | .list _ => (by decide +kernel : kitB "list" "int" = some false)
  | .tuple _ => (by decide +kernel : kitB "tuple" "int" = some false)
  | .dict _ => (by decide +kernel : kitB "dict" "int" = some false)
theorem kitBool : ∀ d : PyData, kitB (tyD d) "bool" = some (isBoolD d)
  | .none => (by decide +kernel : kitB "NoneType" "bool" = some false)
  | .bool _ => (by decide +kernel : kitB "bool" "bool" = some true)
  | .int _ => (by decide +kernel : kitB "int" "bool" = some false)
  | .str _ => (by decide +kernel : kitB "str" "bool" = some false)
  | .list _ => (by decide +kernel : kitB "list" "bool" = some false)
  | .tuple _ => (by decide +kernel : kitB "tuple" "bool" = some false)
  | .dict _ => (by decide +kernel : kitB "dict" "bool" = some false)
theorem kitTup : ∀ d : PyData, kitB (tyD d) "tuple" = some (isTupD d)
  | .none => (by decide +kernel : kitB "NoneType" "tuple" = some false)
  | .bool _ => (by decide +kernel : kitB "bool" "tuple" = some false)
  | .int _ => (by decide +kernel : kitB "int" "tuple" = some false)
  | .str _ => (by decide +kernel : kitB "str" "tuple" = some false)
  | .list _ => (by decide +kernel : kitB "list" "tuple" = some false)
  | .tuple _ => (by decide +kernel : kitB "tuple" "tuple" = some true)
  | .dict _ => (by decide +kernel : kitB "dict" "tuple" = some false)
theorem kitStr : ∀ d : PyData, kitB (tyD d) "str" = some (isStrD d)
  | .none => (by decide +kernel : kitB "NoneType" "str" = some false)
  | .bool _ => (by decide +kernel : kitB "bool" "str" = some false)
  | .int _ => (by decide +kernel : kitB "int" "str" = some false)
  | .str _ => (by decide +kernel : kitB "str" "str" = some true)
  | .list _ => (by decide +kernel : kitB "list" "str" = some false)
  | .tuple _ => (by decide +kernel : kitB "tuple" "str" = some false)
  | .dict _ => (by decide +kernel : kitB "dict" "str" = some false)
def wholeD : PyData → Bool
  | .int _ => true
  | _ => false
def worthD : PyData → Bool
  | .int i => decide (0 ≤ i) && decide (i ≤ 1)
  | _ => false
theorem whole_of : ∀ {d : PyData}, isIntD d = true → wholeD d = !isBoolD d
  | .int _, _ => rfl
  | .bool _, _ => rfl
  | .none, h => by cases h
  | .str _, h => by cases h
  | .list _, h => by cases h
  | .tuple _, h => by cases h
  | .dict _, h => by cases h
theorem whole_not : ∀ {d : PyData}, ¬ isIntD d = true → wholeD d = false
  | .int _, h => absurd rfl h
  | .bool _, h => absurd rfl h
  | .none, _ => rfl
  | .str _, _ => rfl
  | .list _, _ => rfl
  | .tuple _, _ => rfl
  | .dict _, _ => rfl
theorem whole_int : ∀ {d : PyData}, wholeD d = true → ∃ i, d = .int i
  | .int i, _ => ⟨i, rfl⟩
  | .bool _, h => by cases h
  | .none, h => by cases h
  | .str _, h => by cases h
  | .list _, h => by cases h
  | .tuple _, h => by cases h
  | .dict _, h => by cases h
theorem worth_not : ∀ {d : PyData}, ¬ wholeD d = true → worthD d = false
  | .int _, h => absurd rfl h
  | .bool _, _ => rfl
  | .none, _ => rfl
  | .str _, _ => rfl
  | .list _, _ => rfl
  | .tuple _, _ => rfl
  | .dict _, _ => rfl
theorem tup_of : ∀ {d : PyData}, isTupD d = true → ∃ ds, d = .tuple ds
  | .tuple ds, _ => ⟨ds, rfl⟩
  | .bool _, h => by cases h
  | .none, h => by cases h
  | .str _, h => by cases h
  | .list _, h => by cases h
  | .int _, h => by cases h
  | .dict _, h => by cases h
/-! ### anything against a text: ==, in a tuple of texts -/
def sB (z : Str) : PyData → Bool
  | .str x => decide (x = z)
  | _ => false
namespace EqS
open PySem PySem.Spec PyProof.Rows L2 PySem.SeqAt
theorem dict_declines_str (l : Addr) (es : Array DictEntry) (n : Nat) (dd : Option Addr) (sl : Array (Option Value)) (b : PySem.Str) (u : Tok) :
    Meets (Builtin.«dict.__eq__» ⟨[.ref l, .str b u], []⟩) (fun _ R s => s.heap.get? l = some { cls := .type "dict", dict := dd, data := .dict es n, slots := sl } ∧ R (.ok (.ret .notImplemented)) s) :=
  .of_wp fun prog w A R s h => by obtain ⟨hp, g, d, tk, os⟩ := s; obtain ⟨hl, h⟩ := h; have f1 := F.sub_str_dict; wp_walk using wpAny_loadPart' hl; exact ⟨_, rfl, h⟩
theorem str_declines_dict (b : PySem.Str) (u : Tok) (l : Addr) (es : Array DictEntry) (n : Nat) (dd : Option Addr) (sl : Array (Option Value)) :
    Meets (Builtin.«str.__eq__» ⟨[.str b u, .ref l], []⟩) (fun _ R s => s.heap.get? l = some { cls := .type "dict", dict := dd, data := .dict es n, slots := sl } ∧ R (.ok (.ret .notImplemented)) s) :=
  .of_wp fun prog w A R s h => by obtain ⟨hp, g, d, tk, os⟩ := s; obtain ⟨hl, h⟩ := h; wp_walk using wpAny_loadPart' hl, wpAny_load hl; exact ⟨_, rfl, h⟩
section
variable {A : Around} {s : Shared}
theorem rc_dict_str {l : Addr} {o : Obj} {es : Array DictEntry} {n : Nat} (b : PySem.Str) (u : Tok) (ho : s.heap.get? l = some o) (hc : o.cls = .type "dict") (hd : o.data = .dict es n) (hu : A.units < cLine) : RcAt A s (.ref l) (.str b u) false := fun prog w E Q h => by
  obtain ⟨cls, dd, data, sl⟩ := o
  simp only at hc hd
  subst hc hd
  exact rc_eq_decline_or (k := false) ⟨_, ho, rfl⟩ (typeIs_str s b u) (by decide) F.sub_str_dict F.slot_dict_eq F.slot_str_eq_refl
    (fun _ hq => call_meets F.slot_dict_eq ⟨_, ho, rfl⟩ F.entry_dict_eq (F.args_dict_eq_2 _ _) (dict_declines_str l es n dd sl b u) ⟨ho, hq⟩)
    (fun _ hq => call_meets F.slot_str_eq_refl (typeIs_str s b u) F.entry_str_eq (F.args_str_eq_2 _ _) (str_declines_dict b u l es n dd sl) ⟨ho, hq⟩)
    (fun _ hq => wpAny_of_eq (rfl : isSame (.ref l) (.str b u) = pure false) hq) (.inr hu) h
theorem rc_str_dict {l : Addr} {o : Obj} {es : Array DictEntry} {n : Nat} (b : PySem.Str) (u : Tok) (ho : s.heap.get? l = some o) (hc : o.cls = .type "dict") (hd : o.data = .dict es n) (hu : A.units < cLine) : RcAt A s (.str b u) (.ref l) false := fun prog w E Q h => by
  obtain ⟨cls, dd, data, sl⟩ := o
  simp only at hc hd
  subst hc hd
  exact rc_eq_decline_or (k := false) (typeIs_str s b u) ⟨_, ho, rfl⟩ (by decide) F.sub_dict_str F.slot_str_eq F.slot_dict_eq_refl
    (fun _ hq => call_meets F.slot_str_eq (typeIs_str s b u) F.entry_str_eq (F.args_str_eq_2 _ _) (str_declines_dict b u l es n dd sl) ⟨ho, hq⟩)
    (fun _ hq => call_meets F.slot_dict_eq_refl ⟨_, ho, rfl⟩ F.entry_dict_eq (F.args_dict_eq_2 _ _) (dict_declines_str l es n dd sl b u) ⟨ho, hq⟩)
    (fun _ hq => wpAny_of_eq (rfl : isSame (.str b u) (.ref l) = pure false) hq) (.inr hu) h
theorem beq_sB (x z : PySem.Str) : (x == z) = decide (x = z) := by
  by_cases h : x = z
  · rw [decide_eq_true h, h, beq_self_eq_true]
  · rw [decide_eq_false h]
    exact beq_eq_false_iff_ne.mpr h
theorem rc_any {v : Value} {d : PyData} {as : List Addr} (r : Reads s.heap v d as) (z : PySem.Str) (t : Tok) (hu : A.units < cLine) : RcAt A s v (.str z t) (sB z d) := by
  cases r with
  | none => exact RcAt.none_str z t
  | bool b => exact RcAt.bool_str b z t
  | int i k => exact RcAt.int_str i k z t
  | str x k =>
    have := RcAt.str_str (A := A) (s := s) x k z t
    rw [beq_sB] at this
    exact this
  | list h1 h2 h3 _ => exact RcAt.list_str z t ⟨_, h1, h2, _, h3⟩ hu
  | tuple h1 h2 h3 _ => exact RcAt.tuple_str z t ⟨_, h1, h2, _, h3⟩ hu
  | dict h1 h2 h3 _ _ => exact rc_dict_str z t h1 h2 h3 hu
theorem eq_any {v : Value} {d : PyData} {as : List Addr} (r : Reads s.heap v d as) (z : PySem.Str) (t : Tok) (hu : A.units < cLine) : EqAt A s (.str z t) v (sB z d) := by
  cases r with
  | none => exact EqAt.str_none z t
  | bool b => exact EqAt.str_bool z t b
  | int i k => exact EqAt.str_int z t i k
  | str x k =>
    have := EqAt.str_str (A := A) (s := s) z t x k
    have e : (z == x) = sB z (.str x) := by
      rw [beq_sB]
      show decide (z = x) = decide (x = z)
      exact decide_eq_decide.mpr ⟨Eq.symm, Eq.symm⟩
    rw [e] at this
    exact this
  | list h1 h2 h3 _ => exact EqAt.str_list z t ⟨_, h1, h2, _, h3⟩ hu
  | tuple h1 h2 h3 _ => exact EqAt.str_tuple z t ⟨_, h1, h2, _, h3⟩ hu
  | dict h1 h2 h3 _ _ =>
    intro prog w E Q h
    unfold eqBool
    refine wpAny_holding ?_
    refine wpAny_ite_split (fun hab => absurd (eq_of_beq hab) nofun) (fun _ => ?_)
    exact wpAny_bind (rc_str_dict z t h1 h2 h3 hu prog w E _ (wpAny_truthy_bool h))
end
theorem u0 {n c : Nat} (h : n + 64 < c) : n < c := by omega
theorem u1 {n c : Nat} (h : n + 64 < c) : n + 1 < c := by omega
section
variable {X : Cx}
def rEqS : R2 := fun x y H Q => ∃ d z, Sh H x d ∧ y = .str z ∧ Q (.bl (sB z d)) H
theorem op_eqS (hu : X.A.units < cLine) : OpR X (compareOp .Eq) rEqS := by
  intro pins s σ H x y v u Q I rx ry h
  obtain ⟨d, z, sh, rfl, q⟩ := h
  obtain ⟨as, r, _⟩ := Sh.reads I x d v sh rx
  obtain ⟨t, rfl⟩ := ry
  exact rc_any r z t hu X.prog X.w X.xe _ ⟨.bl _, H, I, rfl, q⟩
def rInS : R2 := fun x y H Q => ∃ (d : PyData) (a : Addr) (zs : List PySem.Str), Sh H x d ∧ y = .ref a ∧ H a = some (.tup (zs.map V.str)) ∧ Q (.bl (zs.any fun z => sB z d)) H
theorem any_vals : ∀ {zs : List PySem.Str} {us : List Value} (d : PyData), Vals (zs.map V.str) us → (us.any fun u => match u with | .str z _ => sB z d | _ => false) = zs.any fun z => sB z d
  | [], _, _, .nil => rfl
  | z :: r, _, d, .cons h t => by
    obtain ⟨k, rfl⟩ := h
    rw [List.any_cons, List.any_cons, any_vals d t]
theorem mem_vals : ∀ {zs : List PySem.Str} {us : List Value}, Vals (zs.map V.str) us → ∀ u ∈ us, ∃ z t, u = Value.str z t
  | [], _, .nil, _, h => by cases h
  | z :: r, _, .cons h t, u, hu => by
    obtain ⟨k, rfl⟩ := h
    rcases List.mem_cons.mp hu with e | e
    · exact ⟨_, _, e⟩
    · exact mem_vals t u e
theorem op_inS (hu : X.A.units + 1 < cLine) : OpR X (compareOp .In) rInS := by
  intro pins s σ H x y v u Q I rx ry h
  obtain ⟨d, a, zs, sh, rfl, ha, q⟩ := h
  obtain ⟨as, r, _⟩ := Sh.reads I x d v sh rx
  cases ry
  obtain ⟨its, rv, ⟨⟨cls, dd, data, sl⟩, ho, hc, n, hd⟩, hs⟩ := I.tuple (SqT.of (K := X.K) ha)
  refine in_tupleAt (fun u => match u with | .str z _ => sB z d | _ => false) ⟨_, ho, hc, n, hd⟩ (fun u hu' => ?_) ⟨.bl _, H, I, rfl, ?_⟩
  · obtain ⟨z, t, rfl⟩ := mem_vals rv u (by simpa using hu')
    exact eq_any r z t (by show X.A.units + 1 < cLine; exact hu)
  · have e : (its.toArray.any fun u => match u with | .str z _ => sB z d | _ => false) = zs.any fun z => sB z d := by
      rw [← any_vals d rv]
      simp
    rw [e]
    exact q
end
end EqS

/-! ### anything not in a tuple of texts -/
namespace EqS
open PySem PySem.Spec PyProof.Rows L2 PySem.SeqAt
section
variable {X : Cx}
def rNotInS : R2 := fun x y H Q => ∃ (d : PyData) (a : Addr) (zs : List PySem.Str), Sh H x d ∧ y = .ref a ∧ H a = some (.tup (zs.map V.str)) ∧ Q (.bl (!(zs.any fun z => sB z d))) H
theorem op_notInS (hu : X.A.units + 1 < cLine) : OpR X (compareOp .NotIn) rNotInS := by
  intro pins s σ H x y v u Q I rx ry h
  obtain ⟨d, a, zs, sh, rfl, ha, q⟩ := h
  obtain ⟨as, r, _⟩ := Sh.reads I x d v sh rx
  cases ry
  obtain ⟨its, rv, ⟨⟨cls, dd, data, sl⟩, ho, hc, n, hd⟩, hs⟩ := I.tuple (SqT.of (K := X.K) ha)
  refine notIn_tupleAt (fun u => match u with | .str z _ => sB z d | _ => false) ⟨_, ho, hc, n, hd⟩ (fun u hu' => ?_) ⟨.bl _, H, I, rfl, ?_⟩
  · obtain ⟨z, t, rfl⟩ := mem_vals rv u (by simpa using hu')
    exact eq_any r z t (by show X.A.units + 1 < cLine; exact hu)
  · have e : (its.toArray.any fun u => match u with | .str z _ => sB z d | _ => false) = zs.any fun z => sB z d := by
      rw [← any_vals d rv]
      simp
    rw [e]
    exact q
end
end EqS

end
end Gk

--@NEST
set_option Elab.async false
set_option linter.all false
set_option maxRecDepth 100000
set_option maxHeartbeats 1000000
set_option pp.maxSteps 1500
set_option pp.deepTerms false
namespace Gk
open PySem PySem.Spec PyProof.Rows L2
section
variable {P : Program} {w : World} {K : PySem.W.Frag} {mg : Str → Option Value} {base : Heap}
/-! ### sum(elt for tg in iter ..), of ints -/
namespace GxS
open PySem PySem.Spec PyProof.Rows L2
section
variable {X : Cx} {A A' : Around} {s_0 : Shared} {H_0 : Hp} {cenv : Env} {fp : List Addr} {tn : Nat → Heap → Prop} {ga S : Addr} {gn n : Nat} {go : Obj}
def ACs (ga : Addr) (go : Obj) (S : Addr) (a : Int) (cp : List (Addr × Obj)) : Prop := ∃ (t : Tok) (c : Nat), cp = [(ga, go), (S, lstObj #[.int a t] c)]
def YdS (a : Int) (y : V) (H : Hp) (Nx : Int → Hp → Prop) : Prop := ∃ i : Int, y = .int i ∧ InLong i ∧ InLong (a + i) ∧ Nx (a + i) H
theorem lst_one {a a' : Int} {t t' : Tok} {c c' : Nat} (h : some (lstObj #[Value.int a t] c) = some (lstObj #[Value.int a' t'] c')) : a' = a := by
  have h1 := congrArg Obj.data (Option.some.inj h)
  have h2 : #[Value.int a t] = #[Value.int a' t'] := by
    have h1 : (lstObj #[Value.int a t] c).data = (lstObj #[Value.int a' t'] c').data := h1
    unfold lstObj at h1
    injection h1
  have h3 : [Value.int a t] = [Value.int a' t'] := congrArg Array.toList h2
  have h4 := (List.cons.inj h3).1
  injection h4 with h5 _
  exact h5.symm
theorem sum_gx {R : Result → Shared → Prop} {End : Int → Hp → Prop} (hh : A.handled = none) (hroom : A.depth < recursionLimit) (hG : GenObj go gn) (hSa : S ≠ ga) (far : (gblk X A' s_0 H_0 cenv fp).s_0.heap.objs.size ≤ S) (hSc : ∀ x c, cenv.cells.lookup x = some c → c ≠ S)
    (keep : ∀ i h h', tn i h → (∀ b ∈ fp, ∀ o, h.get? b = some o → h'.get? b = some o) → tn i h') (hSf : ∀ b ∈ fp, b ≠ S)
    (yes : ∀ (σ : L2.St) (H : Hp) (a : Int) (t : Tok) (cp : List (Addr × Obj)) (s1 : Shared), Inv (gblk X A' s_0 H_0 cenv fp) cp σ H s1 → End a H → R (.ok (.ret (.int a t))) s1) :
    ∀ (n : Nat) (s : Shared) (a : Int) (t : Tok) (c : Nat), s.heap.NoLimit → s.heap.get? ga = some go → s.heap.get? S = some (lstObj #[.int a t] c) → (∃ gs, s.gens[gn]? = some gs ∧ gs.Goes (model X.prog X.w) A.in1.in1 (RG (gblk X A' s_0 H_0 cenv fp) (ACs ga go S) End)
      (YG (gblk X A' s_0 H_0 cenv fp) fp tn (ACs ga go S) YdS) n (.send .none) (s.setGen gn .running)) →
      codeAny (model X.prog X.w) A (.builtin "sum.loop" ⟨[.ref ga, .ref S, rawInt 0, rawInt 0], []⟩) R s := by
  intro n
  induction n using Nat.strongRecOn with
  | ind n ih =>
    rintro s a t c hl e hS ⟨gs, hgs, hgo⟩
    refine codeAny_builtin F.entry_sum_loop ?_
    rw [Around.under_plainId F.plain_sum_loop _]
    show wpAny _ A.in1 (seqItems? (.ref S) >>= _) _ _ s
    refine wpAny_bind (wpAny_seqItems hS rfl ?_)
    show wpAny _ A.in1 (tryCatch (pyNext (.ref ga)) _ >>= _) _ _ s
    refine wpAny_bind (wpAny_tryCatch (next_gx2 (A := A.in1) hh hroom hl hG e hgs hgo (fun a' x σ H i cp Nx v s1 gs' r hac tie I st hy at_ kap => ?_) fun a' σ H cp s1 hac tie I q => ?_))
    · obtain ⟨t', c', rfl⟩ := hac
      have e1 := tie (S, lstObj #[.int a' t'] c') (List.mem_cons_of_mem _ List.mem_cons_self)
      rw [hS] at e1
      obtain rfl := lst_one e1
      obtain ⟨j, rfl, ⟨f1, f2⟩, ⟨f3, f4⟩, nx⟩ := hy
      obtain ⟨tk, rfl⟩ := (show ∃ t, v = Value.int j t from r)
      have pS := I.pin (S, lstObj #[.int a' t'] c') (List.mem_append_right _ (List.mem_cons_of_mem _ List.mem_cons_self))
      have I0 : Inv (gblk X A' s_0 H_0 cenv fp) [(ga, go)] σ H s1 := I.pins_of fun p hp => I.pin p (List.mem_append_right _ (by rw [List.mem_singleton.mp hp]; exact List.mem_cons_self))
      have I1 := I0.turned (t' := s1.toks + 1) (h' := s1.heap.update S (Obj.mapSeq (fun _ => #[Value.int (a' + j) s1.toks]))) (it := S) (fun b o hb q => (Heap.get?_update_other _ _ (Ne.symm hb)).trans q) pS.2.1 pS.2.2.1 (.inr far) hSc (fun p hp => by rw [List.mem_singleton.mp (show p ∈ [(ga, go)] by simpa using hp)]; exact Ne.symm hSa)
      have e2 := Heap.get?_update_self (Obj.mapSeq (fun _ => #[Value.int (a' + j) s1.toks])) pS.1 rfl
      have pG := I1.pin (ga, go) (List.mem_append_right _ List.mem_cons_self)
      have hc : ((decide (-(2 ^ 63) ≤ j) && decide (j < 2 ^ 63)) && (decide (-(2 ^ 63) ≤ a' + j) && decide (a' + j < 2 ^ 63))) = true := by
        simp only [Bool.and_eq_true, decide_eq_true_eq]
        exact ⟨⟨f1, f2⟩, f3, f4⟩
      show wpAny _ A.in1 (if (_ : Bool) = true then (mkInt (a' + j) >>= _) else _) _ _ _
      split
      · refine wpAny_bind (wpAny_mkInt ?_)
        show wpAny _ A.in1 (updateSeq S (fun _ => #[Value.int (a' + j) s1.toks]) >>= _) _ _ _
        refine wpAny_bind ?_
        obtain ⟨m, hm, z⟩ := kap (a' + j) [(ga, go), (S, _)] (({ s1 with toks := s1.toks + 1, heap := s1.heap.update S (Obj.mapSeq (fun _ => #[Value.int (a' + j) s1.toks])) } : Shared).setGen gn .running) nx ⟨_, _, rfl⟩ (inv_moved (I1.pins_of fun p hp => by
          rcases List.mem_cons.mp hp with z | z
          · rw [z]; exact pG
          · rw [List.mem_singleton.mp z]; exact ⟨e2, pS.2.1, pS.2.2.1, pS.2.2.2.1, fun v q => by cases q⟩) rfl (allBare_setGen (s := { s1 with toks := s1.toks + 1, heap := s1.heap.update S (Obj.mapSeq (fun _ => #[Value.int (a' + j) s1.toks])) }) I1.bare rfl) fun _ _ q => q) (keep _ _ _ st fun b hb o q => (Heap.get?_update_other _ _ (Ne.symm (hSf b hb))).trans q)
        refine wpAny_updateSeq pS.1 rfl (wpAny_pure ⟨plainId_quiet F.plain_sum_loop _, ih m (by omega) _ (a' + j) s1.toks _ I1.nolimit pG.1 e2 ⟨gs', at_, z⟩⟩)
      · rename_i hneg
        exact absurd hc hneg
    · obtain ⟨t', c', rfl⟩ := hac
      have e1 := tie (S, lstObj #[.int a' t'] c') (List.mem_cons_of_mem _ List.mem_cons_self)
      rw [hS] at e1
      obtain rfl := lst_one e1
      exact wpAny_pure (yes σ H a' t _ s1 I q)
end
section
variable {X : Cx}
def tSumX (P : Addr) (wi : TI) (g : TG) (tt : TT) (te : TE) (vs : List Nat) : TE := fun σ H Q => wi σ H fun J H1 => GzN.TabG H1 P ∧ ∀ H2, GzN.Tabbed P H1 H2 → ∃ W : Nat → Nat → Int → Hp → Prop, (∃ m, W 0 m 0 H2) ∧
  tGx J g tt te (wipe σ vs) vs (fun a H => Q (.int a) H) YdS W
theorem pe_sumX {c P : Addr} {elt tg iter : Expr} {ifs : List Expr} {p pos gpos : Pos} {scope : Scope} {own : List (Str × Nat)} {wi : TI} {g : TG} {tt : TT} {te : TE} {k : Nat}
    (hr : Room (k + 1) X.A) (hc : X.calm = true) (hN : X.N.Nodup) (hgl : Gl X "sum") (hm : X.mg "sum" = none) (hb : bootBuiltins "sum" = some (.builtin "sum")) (TB : GxR.TabB X.base X.mg c P) (hcode : X.env.code = .ref c)
    (hco : scope.isCoroutine = false) (hdot : scope.names.lookup (".0" : Str) = some NameKind.local) (ok : BlkOk X.N X.env.scope scope own) (hi : PI X tg iter wi)
    (hg : ∀ (A' : Around) (s : Shared) (H : Hp) (C : Addr) (cl : List (Str × Addr)) (c' P' : Addr) (fp : List Addr), Room k A' → A'.guards = X.A.guards → PG (gblk X A' s H (GzN.envN scope cl C (.ref c') builtinsNs X.env) fp) tg g)
    (ht : ∀ (A' : Around) (s : Shared) (H : Hp) (C : Addr) (cl : List (Str × Addr)) (c' P' : Addr) (fp : List Addr), Room k A' → A'.guards = X.A.guards → PTs (gblk X A' s H (GzN.envN scope cl C (.ref c') builtinsNs X.env) fp) ifs tt)
    (he : ∀ (A' : Around) (s : Shared) (H : Hp) (C : Addr) (cl : List (Str × Addr)) (c' P' : Addr) (fp : List Addr), Room k A' → A'.guards = X.A.guards → PE (gblk X A' s H (GzN.envN scope cl C (.ref c') builtinsNs X.env) fp) elt te)
    (hs : ∀ v, genFold iter X.env v = pure v)
    (hst : starEach [.GeneratorExp elt [⟨tg, iter, ifs, 0⟩] scope gpos] X.env = (false, eval (.GeneratorExp elt [⟨tg, iter, ifs, 0⟩] scope gpos) X.env) :: starEach [] X.env := by rfl) :
    PE X (.Call (.Name "sum" p) [.GeneratorExp elt [⟨tg, iter, ifs, 0⟩] scope gpos] [] pos) (tSumX P wi g tt te (own.map (·.2))) := by
  refine ⟨fun pins s σ H Q I h => ?_⟩
  refine wpAny_Call_Name_kw (ld_blt I hgl hm hb ?_)
  refine PyProof.Rows.callWith_builtin1 ?_ hst (by rfl)
  rw [hst]
  show wpAny _ _ (spliced ((false, eval (.GeneratorExp elt [⟨tg, iter, ifs, 0⟩] scope gpos) X.env) :: backTo pos (starEach [] X.env))) _ _ s
  refine Calls.spliced_cons (GzN.gx_makeN (tt := fun _ _ => tt) (te := fun _ _ => te) (A := X.A.in1.in1) hr ⟨rfl, rfl, rfl, rfl, (by show X.A.units + 1 + 1 ≤ _; omega)⟩ hc hN TB hcode hco hdot ok hi hg ht he hs I h fun J H1 H2 u s5 _ _ hR hT _ _ hG => ?_)
  obtain ⟨A', s_0, H_0, cenv, fp, ga, gn, go, tn, gs, rfl, hGO, hgs, hbare, I5, st5, nf, hlt, keep, back, goes⟩ := hG
  obtain ⟨W, ⟨m, w0⟩, turn⟩ := hR H2 hT
  refine Calls.spliced_nil ?_
  have pin5 := (I5.pin (ga, go) (List.mem_append_right _ List.mem_cons_self)).1
  have glt : ga < s5.heap.objs.size := Heap.lt_size pin5
  have hSI : s5.heap.objs.size ≠ ga := Nat.ne_of_gt glt
  refine call_function_tree F.kind_sum F.plain_sum F.entry_sum (F.args_sum1 _) ?_
  unfold Builtin.«sum»
  simp only [List.length_cons, List.length_nil]
  rw [if_neg (by decide)]
  refine wpAny_bind (wpAny_of_eq (show Builtin.Builtins.bindParams "sum" ["start"] 0 { } = pure [none] from rfl) ?_)
  refine wpAny_bind (wpAny_pyIter_gen (hGO.isGen pin5) ?_)
  refine wpAny_bind (wpAny_mkInt ?_)
  refine wpAny_bind (wpAny_pure ?_)
  simp only [List.forIn_cons, List.forIn_nil]
  refine wpAny_bind (wpAny_bind (wpAny_bind (wpAny_isInstance (T := "int") (b := false) (typeIs_int _ _ _) PySem.sub_int_str ?_)))
  simp only [Bool.false_eq_true, if_false]
  refine wpAny_pure (wpAny_bind (wpAny_bind (wpAny_isInstance (T := "int") (b := false) (typeIs_int _ _ _) PySem.sub_int_bytes ?_)))
  simp only [Bool.false_eq_true, if_false]
  refine wpAny_pure (wpAny_bind (wpAny_bind (wpAny_isInstance (T := "int") (b := false) (typeIs_int _ _ _) PySem.sub_int_bytearray ?_)))
  simp only [Bool.false_eq_true, if_false]
  refine wpAny_pure (wpAny_pure ?_)
  refine wpAny_bind (wpAny_newObj_type ?_)
  have k1 : ∀ b o, s5.heap.get? b = some o → (s5.heap.push { cls := .type "list", data := .seq [Value.int 0 s5.toks].toArray }).get? b = some o := fun b o e => Heap.get?_push_of_some _ e
  have hS₁ : (s5.heap.push { cls := .type "list", data := .seq [Value.int 0 s5.toks].toArray }).get? s5.heap.objs.size = some (lstObj #[.int 0 s5.toks] 0) := Heap.get?_push_size _ rfl
  have fS : FpOk (gblk X A' s_0 H_0 cenv fp) [(ga, go)] H2 s5.heap.objs.size := I5.fpOk (Nat.le_refl _) (I5.hok.fresh (Nat.le_refl _))
  have hfS : ∀ b ∈ fp, b ≠ s5.heap.objs.size := fun b hb => Nat.ne_of_lt (Nat.lt_trans (hlt b hb) glt)
  have I6 := inv_moved (s' := { s5 with toks := s5.toks + 1, heap := s5.heap.push { cls := .type "list", data := .seq [Value.int 0 s5.toks].toArray } }) I5 rfl I5.bare k1
  refine wpAny_pure ⟨plainId_quiet F.plain_sum_loop _, sum_gx (A' := A') (s_0 := s_0) (H_0 := H_0) (cenv := cenv) (fp := fp) (tn := tn) (go := go) (gn := gn) (End := fun a H => Q (.int a) H) hr.hd hr.depth hGO hSI (Nat.le_trans I5.sz (Nat.le_refl _)) fS.2.2.2.2.1 keep hfS
    (fun σ' H' a t cp s1 I1 q => ⟨.int a, H', back _ _ _ _ I1, ⟨t, rfl⟩, q⟩) (m + 1) _ 0 s5.toks 0 I6.nolimit (k1 _ _ pin5) hS₁ ⟨gs, hgs, ?_⟩⟩
  refine goes Int (ACs ga go s5.heap.objs.size) _ YdS W m (m + 1) 0 [(ga, go), (s5.heap.objs.size, lstObj #[.int 0 s5.toks] 0)] _ turn w0 (Nat.lt_succ_self _) (fun a cp hac p hp b hb z => ?_) ⟨_, _, rfl⟩
    (inv_moved (I6.pins_of fun p hp => ?_) rfl (allBare_setGen (s := { s5 with toks := s5.toks + 1, heap := _ }) I5.bare rfl) fun _ _ q => q) (keep _ _ _ st5 fun b hb o q => k1 b o q)
  · obtain ⟨t, c, rfl⟩ := hac
    rcases List.mem_cons.mp hp with e | e
    · rw [e] at z
      exact absurd (hlt b hb) (by rw [← z]; exact Nat.lt_irrefl _)
    · rw [List.mem_singleton.mp e] at z
      exact hfS b hb z.symm
  · rcases List.mem_cons.mp hp with e | e
    · rw [e]
      exact I6.pin (ga, go) (List.mem_append_right _ List.mem_cons_self)
    · rw [List.mem_singleton.mp e]
      exact ⟨hS₁, fS.1, fS.2.1, fS.2.2.1, fun v q => by cases q⟩
end
end GxS

section
variable {X : Cx}
/-- any(elt for tg in iter ..) -/
def tAnyZ (P : Addr) (wi : TI) (g : TG) (tt : Addr → Addr → TT) (te : Addr → Addr → TE) (vs : List Nat) : TE := fun σ H Q => wi σ H fun J H1 => GzN.TabG H1 P ∧ ∀ H2 c' P', GzN.Tabbed P H1 H2 → H2 c' = some (GzN.CodeK c' P') → «GxR».TabG H2 P' → ∃ W : Nat → Nat → Unit → Hp → Prop, (∃ m, W 0 m () H2) ∧
  tGx J g (tt c' P') (te c' P') (wipe σ vs) vs (fun _ H => Q (.bl false) H) (fun _ y H Nx => ∃ b : Bool, y = .bl b ∧ if b = true then Q (.bl true) H else Nx () H) W
theorem pe_anyZ {c P : Addr} {elt tg iter : Expr} {ifs : List Expr} {p pos gpos : Pos} {scope : Scope} {own : List (Str × Nat)} {wi : TI} {g : TG} {tt : Addr → Addr → TT} {te : Addr → Addr → TE} {k : Nat}
    (hr : Room (k + 1) X.A) (hc : X.calm = true) (hN : X.N.Nodup) (hgl : Gl X "any") (hm : X.mg "any" = none) (hb : bootBuiltins "any" = some (.builtin "any")) (TB : GxR.TabB X.base X.mg c P) (hcode : X.env.code = .ref c)
    (hco : scope.isCoroutine = false) (hdot : scope.names.lookup (".0" : Str) = some NameKind.local) (ok : BlkOk X.N X.env.scope scope own) (hi : PI X tg iter wi)
    (hg : ∀ (A' : Around) (s : Shared) (H : Hp) (C : Addr) (cl : List (Str × Addr)) (c' P' : Addr) (fp : List Addr), Room k A' → A'.guards = X.A.guards → PG (gblk X A' s H (GzN.envN scope cl C (.ref c') builtinsNs X.env) fp) tg g)
    (ht : ∀ (A' : Around) (s : Shared) (H : Hp) (C : Addr) (cl : List (Str × Addr)) (c' P' : Addr) (fp : List Addr), Room k A' → A'.guards = X.A.guards → PTs (gblk X A' s H (GzN.envN scope cl C (.ref c') builtinsNs X.env) fp) ifs (tt c' P'))
    (he : ∀ (A' : Around) (s : Shared) (H : Hp) (C : Addr) (cl : List (Str × Addr)) (c' P' : Addr) (fp : List Addr), Room k A' → A'.guards = X.A.guards → PE (gblk X A' s H (GzN.envN scope cl C (.ref c') builtinsNs X.env) fp) elt (te c' P'))
    (hs : ∀ v, genFold iter X.env v = pure v)
    (hst : starEach [.GeneratorExp elt [⟨tg, iter, ifs, 0⟩] scope gpos] X.env = (false, eval (.GeneratorExp elt [⟨tg, iter, ifs, 0⟩] scope gpos) X.env) :: starEach [] X.env := by rfl) :
    PE X (.Call (.Name "any" p) [.GeneratorExp elt [⟨tg, iter, ifs, 0⟩] scope gpos] [] pos) (tAnyZ P wi g tt te (own.map (·.2))) := by
  refine ⟨fun pins s σ H Q I h => ?_⟩
  refine wpAny_Call_Name_kw (ld_blt I hgl hm hb ?_)
  refine PyProof.Rows.callWith_builtin1 ?_ hst (by rfl)
  rw [hst]
  show wpAny _ _ (spliced ((false, eval (.GeneratorExp elt [⟨tg, iter, ifs, 0⟩] scope gpos) X.env) :: backTo pos (starEach [] X.env))) _ _ s
  refine Calls.spliced_cons (GzN.gx_makeN (tt := tt) (te := te) (A := X.A.in1.in1) hr ⟨rfl, rfl, rfl, rfl, (by show X.A.units + 1 + 1 ≤ _; omega)⟩ hc hN TB hcode hco hdot ok hi hg ht he hs I h fun J H1 H2 u s5 c' P' hR hT kc kP hG => ?_)
  obtain ⟨A', s_0, H_0, cenv, fp, ga, gn, go, tn, gs, rfl, hGO, hgs, hbare, I5, st5, nf, hlt, keep, back, goes⟩ := hG
  obtain ⟨W, ⟨m, w0⟩, turn⟩ := hR H2 c' P' hT kc kP
  refine Calls.spliced_nil ?_
  have pin5 := (I5.pin (ga, go) (List.mem_append_right _ List.mem_cons_self)).1
  refine call_function_tree F.kind_any F.plain_any F.entry_any (F.args_any1 _) ?_
  unfold Builtin.«any»
  refine wpAny_bind (m := oneArg "any" _) (wpAny_pure ?_)
  refine wpAny_bind (wpAny_pyIter_gen (hGO.isGen pin5) ?_)
  refine wpAny_pure ⟨plainId_quiet F.plain_any_loop _, any_gx (A' := A') (s_0 := s_0) (H_0 := H_0) (cenv := cenv) (fp := fp) (tn := tn) (go := go) (gn := gn) (Stop := fun H => Q (.bl true) H) (End := fun _ H => Q (.bl false) H) hr.hd hr.depth hGO
    (fun σ' H' cp s1 I1 q => ⟨.bl false, H', back _ _ _ _ I1, rfl, q⟩) (fun σ' H' cp s1 I1 q => ⟨.bl true, H', back _ _ _ _ I1, rfl, q⟩) (m + 1) s5 I5.nolimit pin5 ⟨gs, hgs, ?_⟩⟩
  refine goes Unit _ _ _ W m (m + 1) () [(ga, go)] _ turn w0 (Nat.lt_succ_self _) (fun a cp hac p hp b hb z => ?_) rfl (inv_moved I5 rfl (allBare_setGen I5.bare rfl) fun _ _ q => q) st5
  subst hac
  have e : p = (ga, go) := by simpa using hp
  subst e
  exact absurd (hlt b hb) (by rw [← z]; exact Nat.lt_irrefl _)
end

namespace GxS
open PySem PySem.Spec PyProof.Rows L2
section
variable {X : Cx}
def tSumD (c P : Addr) (wi : TI) (g : TG) (tt : TT) (te : TE) (vs : List Nat) : TE := fun σ H Q => wi σ H fun J H1 => (H1 c = some (GzN.CodeK c P) ∧ «GxR».TabG H1 P) ∧ ∀ H2, GzN.TabbedD P H1 H2 → ∃ W : Nat → Nat → Int → Hp → Prop, (∃ m, W 0 m 0 H2) ∧
  tGx J g tt te (wipe σ vs) vs (fun a H => Q (.int a) H) YdS W
theorem pe_sumD {c P c0 P0 : Addr} {elt tg iter : Expr} {ifs : List Expr} {p pos gpos : Pos} {scope : Scope} {own : List (Str × Nat)} {wi : TI} {g : TG} {tt : TT} {te : TE} {k : Nat}
    (hr : Room (k + 1) X.A) (hc : X.calm = true) (hN : X.N.Nodup) (hgl : Gl X "sum") (hm : X.mg "sum" = none) (hb : bootBuiltins "sum" = some (.builtin "sum")) (TB : GxR.TabB X.base X.mg c0 P0) (hcode : X.env.code = .ref c)
    (hco : scope.isCoroutine = false) (hdot : scope.names.lookup (".0" : Str) = some NameKind.local) (ok : BlkOk X.N X.env.scope scope own) (hi : PI X tg iter wi)
    (hg : ∀ (A' : Around) (s : Shared) (H : Hp) (C : Addr) (cl : List (Str × Addr)) (code : Value) (fp : List Addr), Room k A' → A'.guards = X.A.guards → PG (gblk X A' s H (GzN.envN scope cl C code builtinsNs X.env) fp) tg g)
    (ht : ∀ (A' : Around) (s : Shared) (H : Hp) (C : Addr) (cl : List (Str × Addr)) (code : Value) (fp : List Addr), Room k A' → A'.guards = X.A.guards → PTs (gblk X A' s H (GzN.envN scope cl C code builtinsNs X.env) fp) ifs tt)
    (he : ∀ (A' : Around) (s : Shared) (H : Hp) (C : Addr) (cl : List (Str × Addr)) (code : Value) (fp : List Addr), Room k A' → A'.guards = X.A.guards → PE (gblk X A' s H (GzN.envN scope cl C code builtinsNs X.env) fp) elt te)
    (hs : ∀ v, genFold iter X.env v = pure v)
    (hst : starEach [.GeneratorExp elt [⟨tg, iter, ifs, 0⟩] scope gpos] X.env = (false, eval (.GeneratorExp elt [⟨tg, iter, ifs, 0⟩] scope gpos) X.env) :: starEach [] X.env := by rfl) :
    PE X (.Call (.Name "sum" p) [.GeneratorExp elt [⟨tg, iter, ifs, 0⟩] scope gpos] [] pos) (tSumD c P wi g tt te (own.map (·.2))) := by
  refine ⟨fun pins s σ H Q I h => ?_⟩
  refine wpAny_Call_Name_kw (ld_blt I hgl hm hb ?_)
  refine PyProof.Rows.callWith_builtin1 ?_ hst (by rfl)
  rw [hst]
  show wpAny _ _ (spliced ((false, eval (.GeneratorExp elt [⟨tg, iter, ifs, 0⟩] scope gpos) X.env) :: backTo pos (starEach [] X.env))) _ _ s
  refine Calls.spliced_cons (GzN.gx_makeD (A := X.A.in1.in1) hr ⟨rfl, rfl, rfl, rfl, (by show X.A.units + 1 + 1 ≤ _; omega)⟩ hc hN TB hcode hco hdot ok hi hg ht he hs I h fun J H1 H2 u s5 hR hT hG => ?_)
  obtain ⟨A', s_0, H_0, cenv, fp, ga, gn, go, tn, gs, rfl, hGO, hgs, hbare, I5, st5, nf, hlt, keep, back, goes⟩ := hG
  obtain ⟨W, ⟨m, w0⟩, turn⟩ := hR H2 hT
  refine Calls.spliced_nil ?_
  have pin5 := (I5.pin (ga, go) (List.mem_append_right _ List.mem_cons_self)).1
  have glt : ga < s5.heap.objs.size := Heap.lt_size pin5
  have hSI : s5.heap.objs.size ≠ ga := Nat.ne_of_gt glt
  refine call_function_tree F.kind_sum F.plain_sum F.entry_sum (F.args_sum1 _) ?_
  unfold Builtin.«sum»
  simp only [List.length_cons, List.length_nil]
  rw [if_neg (by decide)]
  refine wpAny_bind (wpAny_of_eq (show Builtin.Builtins.bindParams "sum" ["start"] 0 { } = pure [none] from rfl) ?_)
  refine wpAny_bind (wpAny_pyIter_gen (hGO.isGen pin5) ?_)
  refine wpAny_bind (wpAny_mkInt ?_)
  refine wpAny_bind (wpAny_pure ?_)
  simp only [List.forIn_cons, List.forIn_nil]
  refine wpAny_bind (wpAny_bind (wpAny_bind (wpAny_isInstance (T := "int") (b := false) (typeIs_int _ _ _) PySem.sub_int_str ?_)))
  simp only [Bool.false_eq_true, if_false]
  refine wpAny_pure (wpAny_bind (wpAny_bind (wpAny_isInstance (T := "int") (b := false) (typeIs_int _ _ _) PySem.sub_int_bytes ?_)))
  simp only [Bool.false_eq_true, if_false]
  refine wpAny_pure (wpAny_bind (wpAny_bind (wpAny_isInstance (T := "int") (b := false) (typeIs_int _ _ _) PySem.sub_int_bytearray ?_)))
  simp only [Bool.false_eq_true, if_false]
  refine wpAny_pure (wpAny_pure ?_)
  refine wpAny_bind (wpAny_newObj_type ?_)
  have k1 : ∀ b o, s5.heap.get? b = some o → (s5.heap.push { cls := .type "list", data := .seq [Value.int 0 s5.toks].toArray }).get? b = some o := fun b o e => Heap.get?_push_of_some _ e
  have hS₁ : (s5.heap.push { cls := .type "list", data := .seq [Value.int 0 s5.toks].toArray }).get? s5.heap.objs.size = some (lstObj #[.int 0 s5.toks] 0) := Heap.get?_push_size _ rfl
  have fS : FpOk (gblk X A' s_0 H_0 cenv fp) [(ga, go)] H2 s5.heap.objs.size := I5.fpOk (Nat.le_refl _) (I5.hok.fresh (Nat.le_refl _))
  have hfS : ∀ b ∈ fp, b ≠ s5.heap.objs.size := fun b hb => Nat.ne_of_lt (Nat.lt_trans (hlt b hb) glt)
  have I6 := inv_moved (s' := { s5 with toks := s5.toks + 1, heap := s5.heap.push { cls := .type "list", data := .seq [Value.int 0 s5.toks].toArray } }) I5 rfl I5.bare k1
  refine wpAny_pure ⟨plainId_quiet F.plain_sum_loop _, sum_gx (A' := A') (s_0 := s_0) (H_0 := H_0) (cenv := cenv) (fp := fp) (tn := tn) (go := go) (gn := gn) (End := fun a H => Q (.int a) H) hr.hd hr.depth hGO hSI (Nat.le_trans I5.sz (Nat.le_refl _)) fS.2.2.2.2.1 keep hfS
    (fun σ' H' a t cp s1 I1 q => ⟨.int a, H', back _ _ _ _ I1, ⟨t, rfl⟩, q⟩) (m + 1) _ 0 s5.toks 0 I6.nolimit (k1 _ _ pin5) hS₁ ⟨gs, hgs, ?_⟩⟩
  refine goes Int (ACs ga go s5.heap.objs.size) _ YdS W m (m + 1) 0 [(ga, go), (s5.heap.objs.size, lstObj #[.int 0 s5.toks] 0)] _ turn w0 (Nat.lt_succ_self _) (fun a cp hac p hp b hb z => ?_) ⟨_, _, rfl⟩
    (inv_moved (I6.pins_of fun p hp => ?_) rfl (allBare_setGen (s := { s5 with toks := s5.toks + 1, heap := _ }) I5.bare rfl) fun _ _ q => q) (keep _ _ _ st5 fun b hb o q => k1 b o q)
  · obtain ⟨t, c, rfl⟩ := hac
    rcases List.mem_cons.mp hp with e | e
    · rw [e] at z
      exact absurd (hlt b hb) (by rw [← z]; exact Nat.lt_irrefl _)
    · rw [List.mem_singleton.mp e] at z
      exact hfS b hb z.symm
  · rcases List.mem_cons.mp hp with e | e
    · rw [e]
      exact I6.pin (ga, go) (List.mem_append_right _ List.mem_cons_self)
    · rw [List.mem_singleton.mp e]
      exact ⟨hS₁, fS.1, fS.2.1, fS.2.2.1, fun v q => by cases q⟩
end
end GxS

end
end Gk

--@NEST
set_option Elab.async false
set_option linter.all false
set_option maxRecDepth 100000
set_option maxHeartbeats 1000000
set_option pp.maxSteps 1500
set_option pp.deepTerms false
namespace Gk
open PySem PySem.Spec PyProof.Rows L2
section
variable {P : Program} {w : World} {K : PySem.W.Frag} {mg : Str → Option Value} {base : Heap}
theorem gx_zip2u {α : Type} {K : PySem.W.Frag} {z1 z2 : ZpG.ZS} {xs1 xs2 : List V} {n : Nat} {g : TG} {tt : TT} {te : TE} {vs : List Nat} {σ0 : L2.St} {End : α → Hp → Prop} {Yd : α → V → Hp → (α → Hp → Prop) → Prop} {a0 : α} {H0 : Hp} (n1 : n ≤ xs1.length) (n2 : n ≤ xs2.length) (nn : n = xs1.length ∨ n = xs2.length) (Pv : Nat → α → Hp → Prop) (h0 : Pv 0 a0 H0) (hl : ∀ i c H, i ≤ n → Pv i c H → z1.at K H xs1 ∧ z2.at K H xs2)
    (hs : ∀ (i : Nat) (x1 x2 : V) (T : Addr) (c : α) (H : Hp), xs1[i]? = some x1 → xs2[i]? = some x2 → H T = none → Pv i c H → g (.ref T) σ0 (upd H T (.tup [x1, x2])) fun σ2 H2 => wipe σ2 vs = σ0 ∧ tt σ2 H2 fun b H3 => if b = true then te σ2 H3 fun y H4 => Yd c y H4 (Pv (i + 1)) else Pv (i + 1) c H3) (hd : ∀ c H, Pv n c H → End c H) :
    ∃ W : Nat → Nat → α → Hp → Prop, (∃ m, W 0 m a0 H0) ∧ tGx (ZpG.Itz2 K z1 z2) g tt te σ0 vs End Yd W := by
  refine ⟨fun i m c H => m = n - i ∧ i ≤ n ∧ Pv i c H, ⟨n, rfl, Nat.zero_le _, h0⟩, ?_⟩
  rintro i m c H ⟨rfl, hi, p⟩
  obtain ⟨q1, q2⟩ := hl i c H hi p
  by_cases hlt : i < n
  · have e1 : xs1[i]? = some (xs1[i]'(by omega)) := List.getElem?_eq_getElem _
    have e2 : xs2[i]? = some (xs2[i]'(by omega)) := List.getElem?_eq_getElem _
    refine .inr ⟨⟨xs1, xs2, _, _, q1, q2, e1, e2⟩, Pv (i + 1), fun c' H' p' => ⟨n - (i + 1), by omega, rfl, hlt, p'⟩, fun v H' y => ?_⟩
    obtain ⟨T, y1, y2, rfl, hT, rfl, f1, f2⟩ := y
    exact hs i y1 y2 T c H (f1 xs1 q1) (f2 xs2 q2) hT p
  · have e : i = n := by omega
    subst e
    exact .inl ⟨⟨xs1, xs2, q1, q2, n1, n2, nn⟩, hd c H p⟩

/-! ### papers, of any kind: how many products they show to be asked at the least -/
def unheldM (gv ps : List (List Nat)) : List (List Nat) := gv.filter fun o => !(ps.any fun p => hall p o)
def txG (gv : List (List Nat)) (d : PyData) : Bool := (gv.map SX.S).any fun z => sB z d
theorem txG_some {gv : List (List Nat)} {d : PyData} (h : txG gv d = true) : ∃ o, o ∈ gv ∧ d = .str (SX.S o) := by
  obtain ⟨z, hz, e⟩ := List.any_eq_true.mp h
  obtain ⟨o, ho, rfl⟩ := List.mem_map.mp hz
  cases d with
  | str x => exact ⟨o, ho, by rw [of_decide_eq_true e]⟩
  | _ => cases e
theorem txG_in {gv : List (List Nat)} {o : List Nat} (h : o ∈ gv) : txG gv (.str (SX.S o)) = true :=
  List.any_eq_true.mpr ⟨SX.S o, List.mem_map.mpr ⟨o, h, rfl⟩, decide_eq_true rfl⟩
def ltT : PyData → PyData → Bool
  | .str x, .str y => decide (x.cps.toList < y.cps.toList)
  | _, _ => false
def risesT (ds : List PyData) : Bool := (ds.zip (ds.drop 1)).all fun z => ltT z.1 z.2
def holdsD (p : List Nat) : PyData → Bool
  | .str x => hall p x.cps.toList
  | _ => false
theorem holdsD_S (p o : List Nat) : holdsD p (.str (SX.S o)) = hall p o := by
  show hall p (SX.S o).cps.toList = _
  rfl
def apartF (al gv : List (List Nat)) : PyData → Option Nat
  | .tuple ds => if ds.all (txG gv) && (risesT ds && !(al.any fun p => decide (1 < (ds.filter (holdsD p)).length))) then some ds.length else none
  | _ => none
def minL : List Nat → Nat
  | [] => 0
  | [x] => x
  | x :: r => min x (minL r)
def minO (l : List (Option Nat)) : Option Nat := if l.any Option.isNone then none else some (1 + minL (l.filterMap id))
def caseF (al : List (List Nat)) (rec : List (List Nat) → PyData → Option Nat) (gv : List (List Nat)) (b : PyData) : PyData → Option Nat
  | .tuple ds => if txG gv b then (if (al.filter fun p => holdsD p b).isEmpty || decide (ds.length ≠ (al.filter fun p => holdsD p b).length) then none else minO (((al.filter fun p => holdsD p b).zip ds).map fun z => rec (unheldM gv [z.1]) z.2)) else none
  | _ => none
def apS : Str := Str.ofString "apart"
def caS : Str := Str.ofString "case"
def shownF (al : List (List Nat)) : Nat → List (List Nat) → PyData → Option Nat
  | 0, _, _ => none
  | e + 1, gv, d => match d with
    | .tuple [a, b] => if sB apS a then apartF al gv b else none
    | .tuple [a, b, c] => if sB caS a then caseF al (shownF al e) gv b c else none
    | _ => none
def optV : Option Nat → V
  | none => .non
  | some n => .int (n : Nat)
theorem texts_of_given {gv : List (List Nat)} : ∀ ds : List PyData, ds.all (txG gv) = true → ∃ os : List (List Nat), ds = os.map (fun o => PyData.str (SX.S o)) ∧ ∀ o ∈ os, o ∈ gv
  | [], _ => ⟨[], rfl, fun _ h => by cases h⟩
  | d :: r, h => by
    rw [List.all_cons, Bool.and_eq_true] at h
    obtain ⟨o, ho, rfl⟩ := txG_some h.1
    obtain ⟨os, rfl, ok⟩ := texts_of_given r h.2
    refine ⟨o :: os, rfl, fun x hx => ?_⟩
    rcases List.mem_cons.mp hx with rfl | hx
    · exact ho
    · exact ok x hx
theorem ShAll.texts {H : Hp} : ∀ {xs : List V} (os : List (List Nat)), ShAll H xs (os.map fun o => PyData.str (SX.S o)) → xs = pVs os
  | _, [], .nil => rfl
  | _, o :: os, .cons h t => by
    cases h
    rw [ShAll.texts os t]
    rfl
theorem all_stopA {α : Type} {f : α → Bool} {l : List α} {j : Nat} {x : α} (h : l[j]? = some x) (n : ¬ f x = true) : l.all f = false := by
  rw [Bool.eq_false_iff]
  exact fun z => n (List.all_eq_true.mp z x (List.mem_of_getElem? h))
theorem all_takeA {α : Type} {f : α → Bool} {l : List α} {j : Nat} {x : α} (h : l[j]? = some x) (p : (l.take j).all f = true) (hx : f x = true) : (l.take (j + 1)).all f = true := by
  rw [List.take_add_one, h, List.all_append, p]
  simpa using hx
theorem len_weight : ∀ ds : List PyData, ds.length ≤ PyData.weightAll ds
  | [] => Nat.le_refl _
  | x :: r => by
    show r.length + 1 ≤ x.weight + 1 + PyData.weightAll r
    have := len_weight r
    omega
def sp_unheld (T : Tx K mg) : Sp := fun vs H Q _ => ∃ (s t : Addr) (m : Nat) (gv ps : List (List Nat)), vs = [.ref s, .ref t] ∧ H s = some (.tup (pVs gv)) ∧ H t = some (.tup (pVs ps)) ∧ (∀ o ∈ gv, ProdOk m o) ∧ (∀ p ∈ ps, ProdOk m p) ∧ gv.length ≤ 128 ∧ ps.length ≤ 128 ∧ Tabs H T.tabs ∧ ∀ r H', Gr H H' → H' r = some (.tup (pVs (unheldM gv ps))) → Q (.ref r) H'
theorem ok_unheld (T : Tx K mg) (B : Tb base T) : FnOk P w K mg base CX0 6 T.f_unheld T.fd_unheld ["some", "products"] (sp_unheld T) := by
  refine okC T.F_unheld sc_unheld (fun vs H Q E h => ?_) (fun A outer s H vs Q E hr h => ?_)
  · obtain ⟨s, t, m, gv, ps, rfl, _⟩ := h
    rfl
  · obtain ⟨sa, ta, m, gv, ps, rfl, hs, ht, okg, okp, lg, lp, tabs, q⟩ := h
    refine ⟨_, (pss_one (ps_ret (pe_tupZ (own := [("one", 2)]) (k := 3) (hr.mono (by decide)) rfl sc_unheld.nd (by rfl) T.m_tuple (by decide +kernel) B.TB_unheld T.cd_unheld rfl rfl (blkOk_by (own := [("one", 2)]) (N := ["some", "products", "one", "product"]) (sc := defScope s_unheld) (by decide +kernel)) (pi_tup (pv 0)) (fun _ _ _ _ _ c1 P1 _ hr gd => (pg_name (i := 2) sc_unheld.nd rfl (by first | exact .inl rfl | exact .inr rfl))) (fun _ _ _ _ _ c1 P1 _ hr gd => (pts_one (pt_not (pt_val (pe_anyD (c := c1) (P := P1) (own := [("product", 3)]) (k := 2) (hr.mono (by decide)) rfl sc_unheld.nd (by rfl) T.m_any (by decide +kernel) B.TB_unheld rfl rfl (by decide +kernel) (blkOk_by (own := [("product", 3)]) (N := ["some", "products", "one", "product"]) (sc := { kind := PySem.ScopeKind.function, names := [ (PySem.Str.ofString ".0", PySem.NameKind.local), (PySem.Str.ofString "one", PySem.NameKind.cell), (PySem.Str.ofString "products", PySem.NameKind.free), (PySem.Str.ofString "any", PySem.NameKind.globalImplicit)], isGenerator := true, isCoroutine := false, more := [] : PySem.Scope }) (by decide +kernel)) (show PI _ _ _ (iTup K _) from pi_tup (pv 1)) (fun _ _ _ _ _ _ _ hr gd => (pg_name (i := 3) sc_unheld.nd rfl (by first | exact .inl rfl | exact .inr rfl))) (fun _ _ _ _ _ _ _ hr gd => pts_nil) (fun _ _ _ _ _ _ _ hr gd => (pe_call (ok_holds_all T B) (hr.mono (by decide)) (by rfl) T.g_holds_all T.F_holds_all.kp T.b_holds_all .nil pass0 (pa_cons (pv 3) (pa_cons (pv 2) pa_nil)))) (fun _ => rfl)))))) (fun _ _ _ _ _ c1 P1 _ hr gd => (pv 2)) (fun _ => rfl)))), ?_⟩
    have tab : GzN.TabG H T.P_unheld := tabs _ (by simp [Tx.tabs])
    have lgV : (pVs gv).length = gv.length := by unfold pVs; rw [List.length_map]
    have lpV : (pVs ps).length = ps.length := by unfold pVs; rw [List.length_map]
    refine ⟨.ref sa, rfl, sa, rfl, ⟨_, SqT.of hs⟩, tab, fun H2 c1 P1 tb2 kc kP => ?_⟩
    have g2 := Gr.tab tab tb2
    refine gx_tup (K := K) (a := sa) (xs := pVs gv) (fun j ys H' => (Gr H H' ∧ Gr H2 H') ∧ ys = pVs ((gv.take j).filter fun o => !(ps.any fun p => hall p o))) ⟨⟨g2, Gr.refl⟩, rfl⟩ (fun j _ H' _ z => SqT.of (z.1.1.tup hs)) ?_ ?_
    · rintro j v ys H3 hv ⟨⟨g3, g23⟩, rfl⟩
      obtain ⟨o, ho, rfl⟩ := pV_at hv
      have oko := okg o (List.mem_of_getElem? ho)
      have eq := filter_snoc (f := fun o => !(ps.any fun p => hall p o)) ho
      have tabP := g23.3 _ kP
      have codeP := g23.code kc
      have fin : ∀ (b : Bool) (H' : Hp), Gr H3 H' → b = (ps.any fun p => hall p o) → (if (!b) = true then ∃ v, (([some (V.ref sa), some (V.ref ta), some (V.str (SX.S o)), none] : List (Option V))[2]? = some (some v)) ∧ YdL (pVs ((gv.take j).filter fun o => !(ps.any fun p => hall p o))) v H' (fun ys H' => (Gr H H' ∧ Gr H2 H') ∧ ys = pVs ((gv.take (j + 1)).filter fun o => !(ps.any fun p => hall p o))) else (Gr H H' ∧ Gr H2 H') ∧ pVs ((gv.take j).filter fun o => !(ps.any fun p => hall p o)) = pVs ((gv.take (j + 1)).filter fun o => !(ps.any fun p => hall p o))) := fun b H' g' eb => by
        rw [eb, eq]
        refine ite2 (fun e => ?_) (fun e => ?_)
        · refine ⟨.str (SX.S o), rfl, ?_, ⟨g3.trans g', g23.trans g'⟩, ?_⟩
          · unfold pVs
            rw [List.length_map]
            have := List.length_filter_le (fun o => !(ps.any fun p => hall p o)) (gv.take j)
            rw [List.length_take] at this
            exact Nat.lt_of_lt_of_le (show _ < 256 by omega) (by decide)
          · rw [if_pos e]
            unfold pVs
            rw [List.map_append]
            rfl
        · refine ⟨⟨g3.trans g', g23.trans g'⟩, ?_⟩
          rw [if_neg e, List.append_nil]
      refine ⟨rfl, .ref ta, rfl, ta, rfl, ⟨_, SqT.of (g3.tup ht)⟩, ⟨codeP, tabP⟩, fun H4 tb4 => ?_⟩
      have g4 := Gr.tabD tabP tb4
      refine gx_tup (K := K) (a := ta) (xs := pVs ps) (fun k _ H' => Gr H3 H' ∧ (ps.take k).any (fun p => hall p o) = false) ⟨g4, rfl⟩ (fun k _ H' _ z => SqT.of ((g3.trans z.1).tup ht)) ?_ ?_
      · rintro k v _ H5 hv5 ⟨g5, ih⟩
        obtain ⟨p, hp, rfl⟩ := pV_at hv5
        have okpp := okp p (List.mem_of_getElem? hp)
        refine ⟨rfl, .str (SX.S p), rfl, .str (SX.S o), rfl, p, o, rfl, by rw [okpp.1, oko.1], (g3.trans g5).tabs tabs, fun H6 g6 => ⟨_, rfl, ite2 (fun e2 => ?_) (fun e2 => ?_)⟩⟩
        · exact ⟨true, rfl, fin true H6 (g5.trans g6) (List.any_eq_true.mpr ⟨p, List.mem_of_getElem? hp, e2⟩).symm⟩
        · refine ⟨g5.trans g6, ?_⟩
          rw [List.take_add_one, hp, List.any_append, ih]
          simpa using e2
      · rintro _ H5 ⟨g5, ih⟩
        rw [lpV, List.take_length] at ih
        exact ⟨false, rfl, fin false H5 g5 ih.symm⟩
    · rintro ys H3 ⟨⟨g3, _⟩, rfl⟩
      rw [lgV, List.take_length]
      refine ⟨?_, fun p np => q p _ (g3.trans (Gr.none np)) upd_same⟩
      unfold pVs
      rw [List.length_map]
      have := List.length_filter_le (fun o => !(ps.any fun p => hall p o)) gv
      exact Nat.le_trans (show _ ≤ 256 by omega) (by decide)
def sp_shown_apart (T : Tx K mg) : Sp := fun vs H Q _ => ∃ (pa ga : Addr) (v : V) (m : Nat) (al gv : List (List Nat)) (d : PyData), vs = [.ref pa, .ref ga, v] ∧ H pa = some (.tup (pVs al)) ∧ H ga = some (.tup (pVs gv)) ∧ (∀ p ∈ al, ProdOk m p) ∧ (∀ o ∈ gv, ProdOk m o) ∧ al.length ≤ 128 ∧ gv.length ≤ 128 ∧ Sh H v d ∧ d.weight ≤ 10 ^ 12 ∧ Tabs H T.tabs ∧ ∀ H', Gr H H' → Q (optV (apartF al gv d)) H'
theorem ok_shown_apart (T : Tx K mg) (B : Tb base T) : FnOk P w K mg base CX0 6 T.f_shown_apart T.fd_shown_apart ["products", "given", "some"] (sp_shown_apart T) := by
  refine okC T.F_shown_apart sc_shown_apart (fun vs H Q E h => ?_) (fun A outer s H vs Q E hr h => ?_)
  · obtain ⟨pa, ga, v, m, al, gv, d, rfl, _⟩ := h
    rfl
  · obtain ⟨pa, ga, v, m, al, gv, d, rfl, hpa, hga, oka, okg, la, lg, sh, wt, tabs, q⟩ := h
    refine ⟨_, (pss_cons (ps_if (pw_or (pt_not (pt_val (pe_callB call_isi (by rfl) T.m_isinstance (by decide +kernel) (pa_cons (pv 2) (pa_cons (pe_bltn (v := .ty "tuple") (u := .type "tuple") (by rfl) T.m_tuple (by decide +kernel) rfl) pa_nil))))) (pw_or1 (pt_not (pt_val (pe_allX (own := [("one", 6)]) (k := 0) (hr.mono (by decide)) rfl sc_shown_apart.nd (by rfl) T.m_all (by decide +kernel) B.TB_shown_apart T.cd_shown_apart rfl rfl (blkOk_by (own := [("one", 6)]) (N := ["products", "given", "some", "product", "early", "late", "one"]) (sc := defScope s_shown_apart) (by decide +kernel)) (pi_tup (pv 2)) (fun _ _ _ _ _ c1 P1 _ hr gd => (pg_name (i := 6) sc_shown_apart.nd rfl (by first | exact .inl rfl | exact .inr rfl))) (fun _ _ _ _ _ c1 P1 _ hr gd => pts_nil) (fun _ _ _ _ _ c1 P1 _ hr gd => (pe_cmpR (EqS.op_inS (EqS.u1 hr.units)) (pv 6) (pv 1) rfl)) (fun _ => rfl)))))).pt (pss_one (ps_ret pe_non)) pss_nil) (pss_cons (ps_if (pt_not (pt_val (pe_allX (own := [("early", 4), ("late", 5)]) (k := 0) (hr.mono (by decide)) rfl sc_shown_apart.nd (by rfl) T.m_all (by decide +kernel) B.TB_shown_apart T.cd_shown_apart rfl rfl (blkOk_by (own := [("early", 4), ("late", 5)]) (N := ["products", "given", "some", "product", "early", "late", "one"]) (sc := defScope s_shown_apart) (by decide +kernel)) (ZpG.pi_zip2 (by rfl) T.m_zip (pa_cons (pv 2) (pa_cons (pe_slice sl_tupA (pv 2) (po_some pe_int) po_none) pa_nil))) (fun _ _ _ _ _ c1 P1 _ hr gd => (show PG _ _ (gTup K 2 _) from pg_tup rfl (pgs_cons (pg_name (i := 4) sc_shown_apart.nd rfl (by first | exact .inl rfl | exact .inr rfl)) (pgs_cons (pg_name (i := 5) sc_shown_apart.nd rfl (by first | exact .inl rfl | exact .inr rfl)) pgs_nil)))) (fun _ _ _ _ _ c1 P1 _ hr gd => pts_nil) (fun _ _ _ _ _ c1 P1 _ hr gd => (pe_cmpR op_lt_str (pv 4) (pv 5) (nomark _))) (fun _ => rfl)))) (pss_one (ps_ret pe_non)) pss_nil) (pss_cons (ps_if (pt_val (pe_anyZ (own := [("product", 3)]) (k := 3) (hr.mono (by decide)) rfl sc_shown_apart.nd (by rfl) T.m_any (by decide +kernel) B.TB_shown_apart T.cd_shown_apart rfl rfl (blkOk_by (own := [("product", 3)]) (N := ["products", "given", "some", "product", "early", "late", "one"]) (sc := defScope s_shown_apart) (by decide +kernel)) (pi_tup (pv 0)) (fun _ _ _ _ _ c1 P1 _ hr gd => (pg_name (i := 3) sc_shown_apart.nd rfl (by first | exact .inl rfl | exact .inr rfl))) (fun _ _ _ _ _ c1 P1 _ hr gd => pts_nil) (fun _ _ _ _ _ c1 P1 _ hr gd => (pe_cmpR op_gt (GxS.pe_sumD (c := c1) (P := P1) (own := [("one", 6)]) (k := 2) (hr.mono (by decide)) rfl sc_shown_apart.nd (by rfl) T.m_sum (by decide +kernel) B.TB_shown_apart rfl rfl (by decide +kernel) (blkOk_by (own := [("one", 6)]) (N := ["products", "given", "some", "product", "early", "late", "one"]) (sc := { kind := PySem.ScopeKind.function, names := [ (PySem.Str.ofString ".0", PySem.NameKind.local), (PySem.Str.ofString "product", PySem.NameKind.cell), (PySem.Str.ofString "some", PySem.NameKind.free), (PySem.Str.ofString "sum", PySem.NameKind.globalImplicit)], isGenerator := true, isCoroutine := false, more := [] : PySem.Scope }) (by decide +kernel)) (show PI _ _ _ (iTup K _) from pi_tup (pv 2)) (fun _ _ _ _ _ _ _ hr gd => (pg_name (i := 6) sc_shown_apart.nd rfl (by first | exact .inl rfl | exact .inr rfl))) (fun _ _ _ _ _ _ _ hr gd => (pts_one (pt_val (pe_call (ok_holds_all T B) (hr.mono (by decide)) (by rfl) T.g_holds_all T.F_holds_all.kp T.b_holds_all .nil pass0 (pa_cons (pv 3) (pa_cons (pv 6) pa_nil)))))) (fun _ _ _ _ _ _ _ hr gd => pe_int) (fun _ => rfl)) pe_int (nomark _))) (fun _ => rfl))) (pss_one (ps_ret pe_non)) pss_nil) (pss_one (ps_ret (pe_callB call_len_seq (by rfl) T.m_len PySem.boot_len (pa_cons (pv 2) pa_nil))))))), ?_⟩
    refine ⟨v, rfl, _, _, _, _, _, rfl, .ty _, sh.ty, kit_ty (kitTup d), _, rfl, ite2 (fun e => ?_) (fun e => ?_)⟩
    · have q' := q H Gr.refl
      have : apartF al gv d = none := by cases d <;> first | rfl | exact absurd rfl (notT e)
      rw [this] at q'
      exact q'
    obtain ⟨ds, rfl⟩ := tup_of (notF e)
    cases sh with
    | @tup a xs _ h tx =>
      have lx := tx.length
      have tab : GzN.TabG H T.P_shown_apart := tabs _ (by simp [Tx.tabs])
      have no : ∀ H', Gr H H' → (ds.all (txG gv) && (risesT ds && !(al.any fun p => decide (1 < (ds.filter (holdsD p)).length)))) = false → Q .non H' := fun H' g z => by
        have q' := q H' g
        have : apartF al gv (.tuple ds) = none := by
          show (if _ = true then _ else _) = _
          rw [z]
          rfl
        rw [this] at q'
        exact q'
      have ezs : pVs gv = (gv.map SX.S).map V.str := by unfold pVs; rw [List.map_map]; rfl
      refine ⟨.ref a, rfl, a, rfl, ⟨_, SqT.of h⟩, tab, fun H2 tb2 => ?_⟩
      have g2 := Gr.tab tab tb2
      refine gx_tup (K := K) (a := a) (xs := xs) (fun j _ H' => Gr H H' ∧ (ds.take j).all (txG gv) = true) ⟨g2, rfl⟩ (fun j _ H' _ e => SqT.of (e.1.tup h)) ?_ ?_
      · rintro j x _ H3 hx ⟨g3, ih⟩
        obtain ⟨dj, hdj, tj⟩ := tx.get hx
        refine ⟨rfl, x, rfl, .ref ga, rfl, dj, ga, gv.map SX.S, tj.gr g3, rfl, by rw [← ezs]; exact g3.tup hga, _, rfl, ite2 (fun z => ⟨g3, all_takeA hdj ih z⟩) (fun z => ⟨false, rfl, iteT (no H3 g3 ?_)⟩)⟩
        rw [all_stopA hdj z, Bool.false_and]
      rintro _ H3 ⟨g3, ih⟩
      rw [lx, List.take_length] at ih
      refine ⟨true, rfl, iteF ?_⟩
      -- all are texts of those given
      obtain ⟨os, eos, oks⟩ : ∃ os : List (List Nat), ds = os.map (fun o => PyData.str (SX.S o)) ∧ ∀ o ∈ os, o ∈ gv := texts_of_given ds ih
      subst eos
      have exs := ShAll.texts os tx
      subst exs
      rw [ih, Bool.true_and] at no
      have los : (pVs os).length = os.length := by unfold pVs; rw [List.length_map]
      have losw : os.length ≤ 10 ^ 12 := by
        have := len_weight (os.map fun o => PyData.str (SX.S o))
        rw [List.length_map] at this
        exact Nat.le_trans this (Nat.le_trans (Nat.le_refl _) wt)
      have val : apartF al gv (.tuple (os.map fun o => PyData.str (SX.S o))) = if (risesT (os.map fun o => PyData.str (SX.S o)) && !(al.any fun p => decide (1 < ((os.map fun o => PyData.str (SX.S o)).filter (holdsD p)).length))) then some os.length else none := by
        show (if ((os.map fun o => PyData.str (SX.S o)).all (txG gv) && _) = true then _ else _) = _
        rw [ih, Bool.true_and, List.length_map]
      rw [val] at q
      have h3 := g3.tup h
      refine ⟨.ref a, rfl, .ref a, rfl, ((1 : Nat) : Int), rfl, slAn h3 fun q1 H4 s4 h4 => ?_⟩
      rw [cut_from] at h4
      have g4 := g3.trans (Gr.of s4)
      have tab4 := g4.tabs tabs _ (by simp [Tx.tabs] : T.P_shown_apart ∈ T.tabs)
      refine ⟨.tu a, .tu q1, _, _, rfl, SqT.of (s4 _ _ h3), SqT.of h4, tab4, fun H5 tb5 => ?_⟩
      have g5 := Gr.tab tab4 tb5
      have g45 := g4.trans g5
      have hq5 := g5.tup h4
      refine gx_zip2u (K := K) (n := (pVs os).length - 1) (xs1 := pVs os) (xs2 := (pVs os).drop 1) (by omega) (by rw [List.length_drop]; exact Nat.le_refl _) (.inr (by rw [List.length_drop])) (fun j _ H' => Gr H5 H' ∧ (((os.map fun o => PyData.str (SX.S o)).zip ((os.map fun o => PyData.str (SX.S o)).drop 1)).take j).all (fun z => ltT z.1 z.2) = true) ⟨Gr.refl, rfl⟩ (fun j _ H' _ e => ⟨SqT.of (e.1.tup (g45.tup h)), SqT.of (e.1.tup hq5)⟩) ?_ ?_
      · rintro j x y t _ H6 hx hy nt ⟨g6, ih6⟩
        rw [List.getElem?_drop] at hy
        obtain ⟨o1, ho1, rfl⟩ := pV_at hx
        obtain ⟨o2, ho2, rfl⟩ := pV_at hy
        have g7 := g6.trans (Gr.none (o := .tup [V.str (SX.S o1), V.str (SX.S o2)]) nt)
        have hz : ((os.map fun o => PyData.str (SX.S o)).zip ((os.map fun o => PyData.str (SX.S o)).drop 1))[j]? = some (.str (SX.S o1), .str (SX.S o2)) := by
          rw [List.getElem?_zip_eq_some, List.getElem?_drop, List.getElem?_map, List.getElem?_map, ho1, ho2]
          exact ⟨rfl, rfl⟩
        refine ⟨t, _, rfl, SqT.of upd_same, rfl, _, _, rfl, _, _, rfl, rfl, rfl, ?_⟩
        refine ⟨.str (SX.S o1), rfl, .str (SX.S o2), rfl, _, _, rfl, rfl, _, rfl, ite2 (fun z2 => ⟨g7, all_takeA hz ih6 z2⟩) (fun z2 => ⟨false, rfl, iteT (no _ (g45.trans g7) ?_)⟩)⟩
        have : risesT (os.map fun o => PyData.str (SX.S o)) = false := all_stopA hz z2
        rw [this, Bool.false_and]
      rintro _ H6 ⟨g6, ih6⟩
      have ri : risesT (os.map fun o => PyData.str (SX.S o)) = true := by
        rw [List.take_of_length_le (by rw [List.length_zip, List.length_drop, List.length_map, los]; omega)] at ih6
        exact ih6
      rw [ri, Bool.true_and] at no val q
      refine ⟨true, rfl, iteF ?_⟩
      have lp : (pVs al).length = al.length := by unfold pVs; rw [List.length_map]
      have g6' := g45.trans g6
      have hpa6 := g6'.tup hpa
      have ha6 := g6'.tup h
      refine ⟨.ref pa, rfl, pa, rfl, ⟨_, SqT.of hpa6⟩, g6'.tabs tabs _ (by simp [Tx.tabs]), fun H7 c7 P7 tb7 kc kP => ?_⟩
      have g7 := g6'.trans (Gr.tab (g6'.tabs tabs _ (by simp [Tx.tabs])) tb7)
      refine gx_tup (K := K) (a := pa) (xs := pVs al) (fun j _ H' => (Gr H H' ∧ Gr H7 H') ∧ (al.take j).any (fun p => decide (1 < ((os.map fun o => PyData.str (SX.S o)).filter (holdsD p)).length)) = false) ⟨⟨g7, Gr.refl⟩, rfl⟩ (fun j _ H' _ e => SqT.of (e.1.1.tup hpa)) ?_ ?_
      · rintro j x _ H8 hx ⟨⟨g8, g78⟩, ih8⟩
        obtain ⟨p, hp, rfl⟩ := pV_at hx
        have okp := oka p (List.mem_of_getElem? hp)
        have codeP := g78.code kc
        have tabP := g78.3 _ kP
        refine ⟨rfl, .ref a, rfl, a, rfl, ⟨_, SqT.of (g8.tup h)⟩, ⟨codeP, tabP⟩, fun H9 tb9 => ?_⟩
        have g9 := Gr.tabD tabP tb9
        refine gx_tup (K := K) (a := a) (xs := pVs os) (fun i acc H' => Gr H8 H' ∧ acc = ((((os.take i).filter (hall p)).length : Nat) : Int)) ⟨g9, rfl⟩ (fun i _ H' _ e => SqT.of ((g8.trans e.1).tup h)) ?_ ?_
        · rintro i x acc H10 hx ⟨g10, rfl⟩
          obtain ⟨o, ho, rfl⟩ := pV_at hx
          have oko := okg o (oks o (List.mem_of_getElem? ho))
          have hi : i < os.length := (List.getElem?_eq_some_iff.mp ho).1
          have lf : ((os.take i).filter (hall p)).length ≤ i := Nat.le_trans (List.length_filter_le ..) (by rw [List.length_take]; omega)
          have e1 := filter_snoc (f := hall p) ho
          refine ⟨rfl, .str (SX.S p), rfl, .str (SX.S o), rfl, p, o, rfl, by rw [okp.1, oko.1], (g8.trans g10).tabs tabs, fun H11 g11 => ⟨_, rfl, ite2 (fun e2 => ?_) (fun e2 => ?_)⟩⟩
          · refine ⟨1, rfl, ⟨by decide, by decide⟩, ⟨by omega, by omega⟩, g10.trans g11, ?_⟩
            rw [e1, if_pos e2, List.length_append]
            push_cast
            rfl
          · refine ⟨g10.trans g11, ?_⟩
            rw [e1, if_neg e2, List.append_nil]
        · rintro acc H10 ⟨g10, rfl⟩
          rw [los, List.take_length]
          have lf : (os.filter (hall p)).length = ((os.map fun o => PyData.str (SX.S o)).filter (holdsD p)).length := by
            rw [List.filter_map, List.length_map]
            rfl
          refine ⟨_, _, rfl, rfl, _, rfl, ite2 (fun e2 => ?_) (fun e2 => ?_)⟩
          · have e3 := of_decide_eq_true e2
            refine ⟨true, rfl, iteT (no _ (g8.trans g10) ?_)⟩
            have : (al.any fun p => decide (1 < ((os.map fun o => PyData.str (SX.S o)).filter (holdsD p)).length)) = true := List.any_eq_true.mpr ⟨p, List.mem_of_getElem? hp, decide_eq_true (by omega)⟩
            rw [this]
            rfl
          · refine ⟨⟨g8.trans g10, g78.trans g10⟩, ?_⟩
            rw [List.take_add_one, hp, List.any_append, ih8]
            have e3 : ¬ _ := fun z => e2 (decide_eq_true z)
            simp only [Option.toList, List.any_cons, List.any_nil, Bool.or_false, Bool.false_or]
            exact decide_eq_false (by omega)
      · rintro _ H8 ⟨⟨g8, _⟩, ih8⟩
        rw [lp, List.take_length] at ih8
        rw [ih8] at q
        refine ⟨false, rfl, iteF ?_⟩
        refine ⟨.ref a, rfl, a, pVs os, rfl, .inr (SqT.of (g8.tup h)), ?_⟩
        rw [los]
        exact q H8 g8
theorem weight_mem {d : PyData} : ∀ {ds : List PyData}, d ∈ ds → d.weight ≤ PyData.weightAll ds
  | x :: r, h => by
    show d.weight ≤ x.weight + 1 + PyData.weightAll r
    rcases List.mem_cons.mp h with rfl | h
    · omega
    · have := weight_mem h
      omega
theorem depth_mem {d : PyData} : ∀ {ds : List PyData}, d ∈ ds → d.depth ≤ PyData.depthAll ds
  | x :: r, h => by
    show d.depth ≤ max x.depth (PyData.depthAll r)
    rcases List.mem_cons.mp h with rfl | h
    · omega
    · have := depth_mem h
      omega
theorem optV_flat : ∀ l : List (Option Nat), ((l.map optV).all flatV) = true := fun l => by
  rw [List.all_map, List.all_eq_true]
  intro x _
  cases x <;> rfl
theorem optV_none : ∀ l : List (Option Nat), inV .non (l.map optV) = l.any Option.isNone
  | [] => rfl
  | x :: r => by
    have := optV_none r
    unfold inV at this ⊢
    rw [List.map_cons, List.any_cons, List.any_cons, this]
    cases x <;> rfl
theorem optV_some : ∀ l : List (Option Nat), l.any Option.isNone = false → l.map optV = ((l.filterMap id).map Int.ofNat).map V.int
  | [], _ => rfl
  | none :: r, h => by cases h
  | some n :: r, h => by
    rw [List.any_cons] at h
    rw [List.map_cons, optV_some r (by simpa using h)]
    rfl
theorem minL_mem : ∀ {l : List Nat}, l ≠ [] → minL l ∈ l
  | [], h => absurd rfl h
  | [x], _ => List.mem_singleton.mpr rfl
  | x :: y :: r, _ => by
    show min x (minL (y :: r)) ∈ _
    rcases Nat.le_total x (minL (y :: r)) with h | h
    · rw [Nat.min_eq_left h]
      exact List.mem_cons_self
    · rw [Nat.min_eq_right h]
      exact List.mem_cons_of_mem _ (minL_mem (by intro z; cases z))
theorem minL_le : ∀ {l : List Nat} {x : Nat}, x ∈ l → minL l ≤ x
  | [y], x, h => by rw [List.mem_singleton.mp h]; exact Nat.le_refl _
  | y :: z :: r, x, h => by
    show min y (minL (z :: r)) ≤ x
    rcases List.mem_cons.mp h with rfl | h
    · exact Nat.min_le_left ..
    · exact Nat.le_trans (Nat.min_le_right ..) (minL_le h)
theorem min_is {l : List Nat} {m : Int} (h : m ∈ l.map Int.ofNat) (le : ∀ y ∈ l.map Int.ofNat, m ≤ y) : m = ((minL l : Nat) : Int) := by
  obtain ⟨n, hn, rfl⟩ := List.mem_map.mp h
  have a := minL_le hn
  have b := le _ (List.mem_map.mpr ⟨_, minL_mem (fun z => by rw [z] at hn; cases hn), rfl⟩)
  show ((n : Nat) : Int) = _
  have b' : ((n : Nat) : Int) ≤ ((minL l : Nat) : Int) := b
  omega
theorem notT2 {b : Bool} (h : ¬ b = true) : b = false := by cases b <;> first | rfl | exact absurd rfl h
def sp_shown_for (T : Tx K mg) (e : Nat) : Sp := fun vs H Q _ => ∃ (pa ga : Addr) (v : V) (m : Nat) (al gv : List (List Nat)) (d : PyData), vs = [.ref pa, .ref ga, v] ∧ H pa = some (.tup (pVs al)) ∧ H ga = some (.tup (pVs gv)) ∧ (∀ p ∈ al, ProdOk m p) ∧ (∀ o ∈ gv, ProdOk m o) ∧ al.length ≤ 128 ∧ gv.length ≤ 128 ∧ Sh H v d ∧ d.weight ≤ 10 ^ 12 ∧ d.depth ≤ e ∧ Tabs H T.tabs ∧ ∀ H', Gr H H' → Q (optV (shownF al e gv d)) H'
def sp_shown_case (T : Tx K mg) : Nat → Sp
  | 0 => fun _ _ _ _ => False
  | e + 1 => fun vs H Q _ => ∃ (pa ga : Addr) (v u : V) (m : Nat) (al gv : List (List Nat)) (b d : PyData), vs = [.ref pa, .ref ga, v, u] ∧ H pa = some (.tup (pVs al)) ∧ H ga = some (.tup (pVs gv)) ∧ (∀ p ∈ al, ProdOk m p) ∧ (∀ o ∈ gv, ProdOk m o) ∧ al.length ≤ 128 ∧ gv.length ≤ 128 ∧ Sh H v b ∧ Sh H u d ∧ d.weight ≤ 10 ^ 12 ∧ d.depth ≤ e ∧ Tabs H T.tabs ∧ ∀ H', Gr H H' → Q (optV (caseF al (shownF al e) gv b d)) H'
theorem ok_shown_case_step (T : Tx K mg) (B : Tb base T) (e : Nat) (ok_shown_for : ∀ (T : Tx K mg) (_ : Tb base T), FnOk P w K mg base CX0 (4 * e + 10) T.f_shown_for T.fd_shown_for ["products", "given", "thing"] (sp_shown_for T e)) : FnOk P w K mg base CX0 (4 * e + 13) T.f_shown_case T.fd_shown_case ["products", "given", "one", "papers"] (sp_shown_case T (e + 1)) := by
  refine okC T.F_shown_case sc_shown_case (fun vs H Q E h => ?_) (fun A outer s H vs Q E hr h => ?_)
  · obtain ⟨pa, ga, v, u, m, al, gv, b, d, rfl, _⟩ := h
    rfl
  · obtain ⟨pa, ga, v, u, m, al, gv, b, d, rfl, hpa, hga, oka, okg, la, lg, shb, shd, wt, dep, tabs, q⟩ := h
    refine ⟨_, (pss_cons (ps_if (pw_or (pt_cmpR (EqS.op_notInS (EqS.u1 hr.units)) (pv 2) (pv 1) rfl) (pw_or1 (pt_not (pt_val (pe_callB call_isi (by rfl) T.m_isinstance (by decide +kernel) (pa_cons (pv 3) (pa_cons (pe_bltn (v := .ty "tuple") (u := .type "tuple") (by rfl) T.m_tuple (by decide +kernel) rfl) pa_nil))))))).pt (pss_one (ps_ret pe_non)) pss_nil) (pss_cons (ps_setLc (i := 4) (own := [("product", 6)]) (by rfl) sc_shown_case.nd rfl rfl (sw_true rfl rfl rfl (by decide +kernel)) (pi_tup (pv 0)) (blkOk_by (own := [("product", 6)]) (N := ["products", "given", "one", "papers", "holding", "numbers", "product", "paper"]) (sc := defScope s_shown_case) (by decide +kernel)) (fun _ _ _ _ _ => (pg_name (i := 6) sc_shown_case.nd rfl (by first | exact .inl rfl | exact .inr rfl))) (fun _ _ _ _ _ => (pts_one (pt_val (pe_call (ok_holds_all T B) (hr.mono (by omega)) (by rfl) T.g_holds_all T.F_holds_all.kp T.b_holds_all .nil pass0 (pa_cons (pv 6) (pa_cons (pv 2) pa_nil)))))) (fun _ _ _ _ _ => (pv 6))) (pss_cons (ps_if (pw_or (pt_not (pt_truth (pv 4) (by intro _; rfl))) (pw_or1 (pt_cmpR op_ne (pe_callB call_len_seq (by rfl) T.m_len PySem.boot_len (pa_cons (pv 3) pa_nil)) (pe_callB call_len_seq (by rfl) T.m_len PySem.boot_len (pa_cons (pv 4) pa_nil)) (nomark _)))).pt (pss_one (ps_ret pe_non)) pss_nil) (pss_cons (ps_setLc (i := 5) (own := [("product", 6), ("paper", 7)]) (by rfl) sc_shown_case.nd rfl rfl (sw_true rfl rfl rfl (by decide +kernel)) (ZpG.pi_zip2 (by rfl) T.m_zip (pa_cons (pv 4) (pa_cons (pv 3) pa_nil))) (blkOk_by (own := [("product", 6), ("paper", 7)]) (N := ["products", "given", "one", "papers", "holding", "numbers", "product", "paper"]) (sc := defScope s_shown_case) (by decide +kernel)) (fun _ _ _ _ _ => (show PG _ _ (gTup K 2 _) from pg_tup rfl (pgs_cons (pg_name (i := 6) sc_shown_case.nd rfl (by first | exact .inl rfl | exact .inr rfl)) (pgs_cons (pg_name (i := 7) sc_shown_case.nd rfl (by first | exact .inl rfl | exact .inr rfl)) pgs_nil)))) (fun _ _ _ _ _ => pts_nil) (fun _ _ _ _ _ => (pe_call (ok_shown_for T B) (hr.mono (by omega)) (by rfl) T.g_shown_for T.F_shown_for.kp T.b_shown_for .nil pass0 (pa_cons (pv 0) (pa_cons (pe_call (ok_unheld T B) (hr.mono (by omega)) (by rfl) T.g_unheld T.F_unheld.kp T.b_unheld .nil pass0 (pa_cons (pv 1) (pa_cons (pe_tup (pa_cons (pv 6) pa_nil)) pa_nil))) (pa_cons (pv 7) pa_nil)))))) (pss_one (ps_ret (pe_ifExp (pt_cmpR op_in_seq pe_non (pv 5) rfl) pe_non (pe_op op_add pe_int (pe_callB (cr_min rfl) (by rfl) T.m_min (by decide +kernel) (pa_cons (pv 5) pa_nil)))))))))), ?_⟩
    have ezs : pVs gv = (gv.map SX.S).map V.str := by unfold pVs; rw [List.map_map]; rfl
    have no : ∀ H', Gr H H' → caseF al (shownF al e) gv b d = none → Q .non H' := fun H' g z => by
      have q' := q H' g
      rw [z] at q'
      exact q'
    refine ⟨v, rfl, .ref ga, rfl, b, ga, gv.map SX.S, shb, rfl, by rw [← ezs]; exact hga, _, rfl, ite2 (fun z => iteT (no H Gr.refl ?_)) (fun z => ?_)⟩
    · have z' : txG gv b = false := by
        have := z
        unfold txG
        simpa using this
      cases d <;> first | rfl | (show (if txG gv b = true then _ else _) = _; rw [z']; rfl)
    have hb : txG gv b = true := by
      have := z
      unfold txG
      simpa using this
    refine ⟨u, rfl, _, _, _, _, _, rfl, .ty _, shd.ty, kit_ty (kitTup d), _, rfl, ite2 (fun z => no H Gr.refl ?_) (fun z => ?_)⟩
    · cases d <;> first | rfl | exact absurd rfl (notT z)
    obtain ⟨ds, rfl⟩ := tup_of (notF z)
    obtain ⟨o, ho, rfl⟩ := txG_some hb
    cases shb
    cases shd with
    | @tup ra xs _ hra tx =>
      have lx := tx.length
      have lp : (pVs al).length = al.length := by unfold pVs; rw [List.length_map]
      refine ⟨.ref pa, rfl, pa, rfl, ⟨_, SqT.of hpa⟩, fun D nD => ?_⟩
      refine lc_tup (K := K) (a := pa) (xs := pVs al) (fun j H' => GrD D H H' ∧ H' D = some (.lst (pVs ((al.take j).filter fun p => hall p o)))) ⟨GrD.new nD, upd_same⟩ (fun j H' _ z => SqT.of (z.1.gr.tup hpa)) ?_ ?_
      · rintro j x H3 hx ⟨g3, hD⟩
        obtain ⟨p, hp, rfl⟩ := pV_at hx
        have okp := oka p (List.mem_of_getElem? hp)
        have oko := okg o ho
        have eq := filter_snoc (f := fun p => hall p o) hp
        refine ⟨rfl, .str (SX.S p), rfl, .str (SX.S o), rfl, p, o, rfl, by rw [okp.1, oko.1], g3.gr.tabs tabs, fun H4 g4 => ⟨_, rfl, ite2 (fun e2 => ?_) (fun e2 => ?_)⟩⟩
        · refine ⟨_, rfl, _, g4.lst hD, ?_, (g3.then hD g4).set, ?_⟩
          · unfold pVs
            rw [List.length_map]
            have := List.length_filter_le (fun p => hall p o) (al.take j)
            rw [List.length_take] at this
            exact Nat.lt_of_lt_of_le (show _ < 256 by omega) (by decide)
          · rw [upd_same, eq, if_pos e2]
            unfold pVs
            rw [List.map_append]
            rfl
        · refine ⟨g3.then hD g4, ?_⟩
          rw [g4.lst hD, eq, if_neg e2, List.append_nil]
      rintro H3 ⟨g3', hD⟩
      have g3 := g3'.gr
      rw [lp, List.take_length] at hD
      have lh : (al.filter fun p => hall p o).length ≤ 128 := Nat.le_trans (List.length_filter_le ..) la
      have lhV : (pVs (al.filter fun p => hall p o)).length = (al.filter fun p => hall p o).length := by unfold pVs; rw [List.length_map]
      have val : caseF al (shownF al e) gv (.str (SX.S o)) (.tuple ds) = if (al.filter fun p => hall p o).isEmpty || decide (ds.length ≠ (al.filter fun p => hall p o).length) then none else minO (((al.filter fun p => hall p o).zip ds).map fun z => shownF al e (unheldM gv [z.1]) z.2) := by
        show (if txG gv (.str (SX.S o)) = true then _ else _) = _
        rw [if_pos hb]
        rfl
      rw [val] at no q
      have hra3 := g3.tup hra
      have emp : (pVs (al.filter fun p => hall p o)).isEmpty = (al.filter fun p => hall p o).isEmpty := by
        cases al.filter fun p => hall p o <;> rfl
      refine ⟨.ref D, rfl, _, .inl ⟨_, SqL.of hD, rfl⟩, ite2 (fun z => iteT (no H3 g3 ?_)) (fun z => ?_)⟩
      · have z' : (al.filter fun p => hall p o).isEmpty = true := by rw [← emp]; simpa using z
        rw [z', Bool.true_or]
        rfl
      have z1 : (al.filter fun p => hall p o).isEmpty = false := by rw [← emp]; simpa using z
      rw [z1, Bool.false_or] at no q
      refine ⟨.ref ra, rfl, ra, xs, rfl, .inr (SqT.of hra3), .ref D, rfl, D, _, rfl, .inl (SqL.of hD), rfl, _, rfl, ite2 (fun z => no H3 g3 ?_) (fun z => ?_)⟩
      · rw [lx, lhV] at z
        refine if_pos (decide_eq_true (show ¬ _ = _ from fun y => ?_))
        rw [y] at z
        simp at z
      rw [lx, lhV] at z
      have en : ds.length = (al.filter fun p => hall p o).length := by
        have := notF z
        have y := V.int.inj (of_decide_eq_true this)
        omega
      rw [if_neg (by rw [en]; simp)] at no q
      have okh : ∀ p ∈ al.filter fun p => hall p o, ProdOk m p := fun p hp => oka p (List.mem_filter.mp hp).1
      generalize ehs : (al.filter fun p => hall p o) = hs at *
      refine ⟨.ref D, rfl, .ref ra, rfl, .li D, .tu ra, _, _, rfl, SqL.of hD, SqT.of hra3, fun E nE => ?_⟩
      have lz : (hs.zip ds).length = hs.length := by rw [List.length_zip, en, Nat.min_self]
      have DE : D ≠ E := ne_of_none hD nE
      refine ZpG.lc_zip2 (K := K) (z1 := .li D) (z2 := .tu ra) (xs1 := pVs hs) (xs2 := xs) (n := hs.length) lhV (by rw [lx, en])
        (fun j H' => GrD E H3 H' ∧ H' E = some (.lst ((((hs.zip ds).take j).map fun z => shownF al e (unheldM gv [z.1]) z.2).map optV))) ⟨GrD.new nE, upd_same⟩ (fun j H' _ z => ⟨SqL.of (z.1.gr.lst hD), SqT.of (z.1.gr.tup hra3)⟩) ?_ ?_
      · rintro j v1 v2 T2 H4 h1 h2 nT2 ⟨g4, hE⟩
        obtain ⟨p, hp, rfl⟩ := pV_at h1
        obtain ⟨dj, hdj, tj⟩ := tx.get h2
        have hz : (hs.zip ds)[j]? = some (p, dj) := by rw [List.getElem?_zip_eq_some]; exact ⟨hp, hdj⟩
        have jl := (List.getElem?_eq_some_iff.mp hp).1
        have s5 := same_upd (o := HO.tup [V.str (SX.S p), v2]) nT2
        have h5 : upd H4 T2 (HO.tup [V.str (SX.S p), v2]) T2 = some (.tup [V.str (SX.S p), v2]) := upd_same
        generalize upd H4 T2 (HO.tup [V.str (SX.S p), v2]) = H5 at s5 h5 ⊢
        have g5 := g4.then hE (Gr.of s5)
        have hE5 := s5 _ _ hE
        have g05 := g3.trans g5.gr
        refine ⟨T2, _, rfl, SqT.of h5, rfl, _, _, rfl, _, _, rfl, rfl, rfl, .ref pa, rfl, .ref ga, rfl, .str (SX.S p), rfl, by show 1 ≤ sizeLine; decide, fun q9 nq9 => ?_⟩
        have g6 := g5.then hE5 (Gr.none (o := .tup [V.str (SX.S p)]) nq9)
        have hE6 := (Gr.none (o := .tup [V.str (SX.S p)]) nq9).lst hE5
        have g06 := g3.trans g6.gr
        refine ⟨ga, q9, m, gv, [p], rfl, g06.tup hga, upd_same, okg, fun p' hp' => by rw [List.mem_singleton.mp hp']; exact okh p (List.mem_of_getElem? hp), lg, by show 1 ≤ 128; decide, g06.tabs tabs, fun r H7 g7 hr7 => ?_⟩
        have g67 := g6.then hE6 g7
        have hE7 := g7.lst hE6
        have g07 := g3.trans g67.gr
        refine ⟨v2, rfl, pa, r, v2, m, al, unheldM gv [p], dj, rfl, g07.tup hpa, hr7, oka, fun o' ho' => okg o' (List.mem_filter.mp ho').1, la, Nat.le_trans (List.length_filter_le ..) lg, tj.gr g07, ?_, ?_, g07.tabs tabs, fun H8 g8 => ?_⟩
        · have a := weight_mem (List.mem_of_getElem? hdj)
          exact Nat.le_trans a wt
        · have a := depth_mem (List.mem_of_getElem? hdj)
          exact Nat.le_trans (Nat.le_trans a (by show PyData.depthAll ds ≤ PyData.depthAll ds + 1; omega)) dep
        · refine ⟨_, g8.lst hE7, ?_, (g67.then hE7 g8).set, ?_⟩
          · rw [List.length_map, List.length_map, List.length_take]
            exact Nat.lt_of_lt_of_le (show _ < 256 by omega) (by decide)
          · rw [upd_same, List.take_add_one, hz, List.map_append, List.map_append]
            rfl
      · rintro H4 ⟨g4', hE⟩
        have g4 := g3.trans g4'.gr
        rw [List.take_of_length_le (by rw [lz]; exact Nat.le_refl _)] at hE
        generalize ens : ((hs.zip ds).map fun z => shownF al e (unheldM gv [z.1]) z.2) = ns at *
        refine ⟨.ref E, rfl, E, _, rfl, .inl (SqL.of hE), rfl, optV_flat ns, _, rfl, ite2 (fun z => no H4 g4 (if_pos (by rw [← optV_none]; exact z))) (fun z => ?_)⟩
        have z2 : ns.any Option.isNone = false := by rw [← optV_none]; exact notT2 z
        rw [optV_some ns z2] at hE
        have q' := q H4 g4
        rw [show minO ns = some (1 + minL (ns.filterMap id)) from if_neg (by rw [z2]; decide)] at q'
        refine ⟨.ref E, rfl, E, _, rfl, SqL.of hE, ?_, fun mv hm hle => ⟨_, _, rfl, rfl, ?_⟩⟩
        · have l1 := congrArg List.length (optV_some ns z2)
          have l2 := congrArg List.length ens
          simp only [List.length_map, lz] at l1 l2
          rw [List.length_map, ← l1, ← l2]
          cases hs with
          | nil => cases z1
          | cons x r => exact Nat.succ_pos _
        · rw [min_is hm hle]
          exact q'
theorem ok_shown_for_of (T : Tx K mg) (B : Tb base T) (e : Nat) (ok_shown_case : ∀ (T : Tx K mg) (_ : Tb base T), FnOk P w K mg base CX0 (4 * e + 9) T.f_shown_case T.fd_shown_case ["products", "given", "one", "papers"] (sp_shown_case T e)) : FnOk P w K mg base CX0 (4 * e + 10) T.f_shown_for T.fd_shown_for ["products", "given", "thing"] (sp_shown_for T e) := by
  refine okC T.F_shown_for sc_shown_for (fun vs H Q E h => ?_) (fun A outer s H vs Q E hr h => ?_)
  · obtain ⟨pa, ga, v, m, al, gv, d, rfl, _⟩ := h
    rfl
  · obtain ⟨pa, ga, v, m, al, gv, d, rfl, hpa, hga, oka, okg, la, lg, sh, wt, dep, tabs, q⟩ := h
    refine ⟨_, (pss_cons (ps_if (pt_not (pt_val (pe_callB call_isi (by rfl) T.m_isinstance (by decide +kernel) (pa_cons (pv 2) (pa_cons (pe_bltn (v := .ty "tuple") (u := .type "tuple") (by rfl) T.m_tuple (by decide +kernel) rfl) pa_nil))))) (pss_one (ps_ret pe_non)) pss_nil) (pss_cons (ps_if (pw_and (pt_cmpR op_eq (pe_callB call_len_seq (by rfl) T.m_len PySem.boot_len (pa_cons (pv 2) pa_nil)) pe_int (nomark _)) (pw_and1 (pt_cmpR (EqS.op_eqS (EqS.u0 hr.units)) (pe_ix ix_tup (pv 2) pe_int (fun _ _ => rfl)) pe_str (nomark _)))).pt (pss_one (ps_ret (pe_call (ok_shown_apart T B) (hr.mono (by omega)) (by rfl) T.g_shown_apart T.F_shown_apart.kp T.b_shown_apart .nil pass0 (pa_cons (pv 0) (pa_cons (pv 1) (pa_cons (pe_ix ix_tup (pv 2) pe_int (fun _ _ => rfl)) pa_nil)))))) pss_nil) (pss_cons (ps_if (pw_and (pt_cmpR op_eq (pe_callB call_len_seq (by rfl) T.m_len PySem.boot_len (pa_cons (pv 2) pa_nil)) pe_int (nomark _)) (pw_and1 (pt_cmpR (EqS.op_eqS (EqS.u0 hr.units)) (pe_ix ix_tup (pv 2) pe_int (fun _ _ => rfl)) pe_str (nomark _)))).pt (pss_one (ps_ret (pe_call (ok_shown_case T B) (hr.mono (by omega)) (by rfl) T.g_shown_case T.F_shown_case.kp T.b_shown_case .nil pass0 (pa_cons (pv 0) (pa_cons (pv 1) (pa_cons (pe_ix ix_tup (pv 2) pe_int (fun _ _ => rfl)) (pa_cons (pe_ix ix_tup (pv 2) pe_int (fun _ _ => rfl)) pa_nil))))))) pss_nil) (pss_one (ps_ret pe_non))))), ?_⟩
    have no : ∀ H', Gr H H' → shownF al e gv d = none → Q .non H' := fun H' g z => by
      have q' := q H' g
      rw [z] at q'
      exact q'
    refine ⟨v, rfl, _, _, _, _, _, rfl, .ty _, sh.ty, kit_ty (kitTup d), _, rfl, ite2 (fun z => no H Gr.refl ?_) (fun z => ?_)⟩
    · cases e <;> cases d <;> first | rfl | exact absurd rfl (notT z)
    obtain ⟨ds, rfl⟩ := tup_of (notF z)
    cases sh with
    | @tup ra xs _ hra tx =>
      have lx := tx.length
      cases e with
      | zero => exact absurd dep (by show ¬ PyData.depthAll ds + 1 ≤ 0; omega)
      | succ e =>
        refine ⟨.ref ra, rfl, ra, xs, rfl, .inr (SqT.of hra), rfl, _, rfl, ite2 (fun z => ?_) (fun z => iteF ?_)⟩
        · have l2 : ds.length = 2 := by
            have := V.int.inj (of_decide_eq_true z)
            omega
          match ds, xs, tx, l2 with
          | [d0, d1], [x0, x1], .cons t0 (.cons t1 .nil), _ =>
            refine ⟨.ref ra, rfl, ra, _, 0, x0, rfl, rfl, SqT.of hra, rfl, d0, apS, t0, rfl, _, rfl, ite2 (fun y => ?_) (fun y => ?_)⟩
            · have val : shownF al (e + 1) gv (.tuple [d0, d1]) = apartF al gv d1 := if_pos y
              rw [val] at q
              refine ⟨.ref pa, rfl, .ref ga, rfl, .ref ra, rfl, ra, _, 1, x1, rfl, rfl, SqT.of hra, rfl, pa, ga, x1, m, al, gv, d1, rfl, hpa, hga, oka, okg, la, lg, t1, ?_, tabs, fun H' g => q H' g⟩
              exact Nat.le_trans (weight_mem (ds := [d0, d1]) (List.mem_cons_of_mem _ List.mem_cons_self)) wt
            · refine ⟨.ref ra, rfl, ra, [x0, x1], rfl, .inr (SqT.of hra), rfl, _, rfl, iteF (iteF (no H Gr.refl (if_neg y)))⟩
        · refine ⟨.ref ra, rfl, ra, xs, rfl, .inr (SqT.of hra), rfl, _, rfl, ite2 (fun z3 => ?_) (fun z3 => iteF (no H Gr.refl ?_))⟩
          · have l3 : ds.length = 3 := by
              have := V.int.inj (of_decide_eq_true z3)
              omega
            match ds, xs, tx, l3 with
            | [d0, d1, d2], [x0, x1, x2], .cons t0 (.cons t1 (.cons t2 .nil)), _ =>
              refine ⟨.ref ra, rfl, ra, _, 0, x0, rfl, rfl, SqT.of hra, rfl, d0, caS, t0, rfl, _, rfl, ite2 (fun y => ?_) (fun y => no H Gr.refl (if_neg y))⟩
              have val : shownF al (e + 1) gv (.tuple [d0, d1, d2]) = caseF al (shownF al e) gv d1 d2 := if_pos y
              rw [val] at q
              refine ⟨.ref pa, rfl, .ref ga, rfl, .ref ra, rfl, ra, _, 1, x1, rfl, rfl, SqT.of hra, rfl, .ref ra, rfl, ra, _, 2, x2, rfl, rfl, SqT.of hra, rfl, pa, ga, x1, x2, m, al, gv, d1, d2, rfl, hpa, hga, oka, okg, la, lg, t1, t2, ?_, ?_, tabs, fun H' g => q H' g⟩
              · exact Nat.le_trans (weight_mem (ds := [d0, d1, d2]) (List.mem_cons_of_mem _ (List.mem_cons_of_mem _ List.mem_cons_self))) wt
              · have a := depth_mem (d := d2) (ds := [d0, d1, d2]) (List.mem_cons_of_mem _ (List.mem_cons_of_mem _ List.mem_cons_self))
                have b : PyData.depthAll [d0, d1, d2] + 1 ≤ e + 1 := dep
                omega
          · have n2 : ds.length ≠ 2 := fun y => z (decide_eq_true (by rw [lx, y]; rfl))
            have n3 : ds.length ≠ 3 := fun y => z3 (decide_eq_true (by rw [lx, y]; rfl))
            match ds, n2, n3 with
            | [], _, _ => rfl
            | [_], _, _ => rfl
            | [_, _], n, _ => exact absurd rfl n
            | [_, _, _], _, n => exact absurd rfl n
            | _ :: _ :: _ :: _ :: _, _, _ => rfl
theorem ok_shown_for_all (T : Tx K mg) (B : Tb base T) : ∀ e : Nat, FnOk P w K mg base CX0 (4 * e + 10) T.f_shown_for T.fd_shown_for ["products", "given", "thing"] (sp_shown_for T e)
  | 0 => ok_shown_for_of T B 0 fun T B => okC T.F_shown_case sc_shown_case (fun vs H Q E h => h.elim) (fun A outer s H vs Q E hr h => h.elim)
  | e + 1 => ok_shown_for_of T B (e + 1) fun T B => ok_shown_case_step T B e fun T B => ok_shown_for_all T B e
theorem ok_shown_for (T : Tx K mg) (B : Tb base T) : FnOk P w K mg base CX0 42 T.f_shown_for T.fd_shown_for ["products", "given", "thing"] (sp_shown_for T 8) := ok_shown_for_all T B 8
def sp_shown_by (T : Tx K mg) : Sp := fun vs H Q _ => ∃ (wa ga : Addr) (v : V) (m : Nat) (bs : List Bool) (cs : List Ch) (gv : List (List Nat)) (d : PyData), vs = [.ref wa, .ref ga, v] ∧ Tk H (.ref wa) (wishD m bs cs) ∧ WishOk m bs cs ∧ H ga = some (.tup (pVs gv)) ∧ (∀ o ∈ gv, ProdOk m o) ∧ gv.length ≤ 128 ∧ Sh H v d ∧ d.weight ≤ 10 ^ 12 ∧ d.depth ≤ 8 ∧ Tabs H T.tabs ∧ ∀ H', Gr H H' → Q (optV (shownF (greatM m bs cs) 8 gv d)) H'
theorem ok_shown_by (T : Tx K mg) (B : Tb base T) : FnOk P w K mg base CX0 43 T.f_shown_by T.fd_shown_by ["wish", "given", "thing"] (sp_shown_by T) := by
  refine okC T.F_shown_by sc_shown_by (fun vs H Q E h => ?_) (fun A outer s H vs Q E hr h => ?_)
  · obtain ⟨wa, ga, v, m, bs, cs, gv, d, rfl, _⟩ := h
    rfl
  · obtain ⟨wa, ga, v, m, bs, cs, gv, d, rfl, tw, ok, hga, okg, lg, sh, wt, dep, tabs, q⟩ := h
    refine ⟨_, (pss_one (ps_ret (pe_call (ok_shown_for T B) (hr.mono (by decide)) (by rfl) T.g_shown_for T.F_shown_for.kp T.b_shown_for .nil pass0 (pa_cons (pe_call (ok_greatest_allowed T B) (hr.mono (by decide)) (by rfl) T.g_greatest_allowed T.F_greatest_allowed.kp T.b_greatest_allowed .nil pass0 (pa_cons (pv 0) pa_nil)) (pa_cons (pv 1) (pa_cons (pv 2) pa_nil)))))), ?_⟩
    refine ⟨.ref wa, rfl, wa, m, bs, cs, rfl, tw, ok, tabs, fun r H1 g1 hr1 => ?_⟩
    refine ⟨.ref ga, rfl, v, rfl, r, ga, v, m, greatM m bs cs, gv, d, rfl, hr1, g1.tup hga, ?_, okg, ?_, lg, sh.gr g1, wt, dep, g1.tabs tabs, fun H2 g2 => q H2 (g1.trans g2)⟩
    · exact fun p hp => prodsU_ok p (List.mem_filter.mp (List.mem_filter.mp hp).1).1
    · exact Nat.le_trans (List.length_filter_le _ _) (Nat.le_trans (List.length_filter_le _ _) (Nat.le_trans (prodsU_81 (by have := ok.m4; omega)) (by decide)))

end
end Gk

--@NEST
set_option Elab.async false
set_option linter.all false
set_option maxRecDepth 100000
set_option maxHeartbeats 1000000
set_option pp.maxSteps 1500
set_option pp.deepTerms false
namespace Gk
open PySem PySem.Spec PyProof.Rows L2
/-! ### a tuple told backwards: t[::-1]; and == against nothing -/
namespace TupRev
section
open PySem.W PySem.Calls HT
variable {prog : Program} {w : World} {A : Around} {E : Value → Shared → Prop} {s : Shared}
theorem adj_rev (n : Nat) : Builtin.Slice.sliceAdjust none none (-1) (n : Int) = ((n : Int) - 1, -1) := by
  first
    | rfl
    | simp [Builtin.Slice.sliceAdjust]
theorem places_rev (n : Nat) : Builtin.Slice.slicePlaces ((n : Int) - 1) (-1) (-1) = n := by
  unfold Builtin.Slice.slicePlaces
  by_cases h : n = 0
  · subst h
    decide
  · simp
    omega
theorem applied_rev {sl : Addr} {vl vu vs : Value} {n : Nat} {Q : Int × Int × Nat → Shared → Prop} (slice : s.heap.IsSliceOf sl vl vu vs) (pl : IsPart vl none) (pu : IsPart vu none) (ps : IsPart vs (some (-1))) (fin : Q ((n : Int) - 1, -1, n) s) :
    wpAny (model prog w) A (Builtin.Slice.sliceApplied (.ref sl) (pure (n : Int))) Q E s := by
  obtain ⟨o, ho, hc, parts⟩ := id slice
  unfold Builtin.Slice.sliceApplied Builtin.Slice.sliceFields
  refine wpAny_bind (wpAny_bind (wpAny_field ho parts (x := vl) rfl (wpAny_bind (wpAny_field ho parts (x := vu) rfl (wpAny_bind (wpAny_field ho parts (x := vs) rfl (wpAny_pure ?_)))))))
  refine wpAny_bind (slicePart_ ps ?_)
  show wpAny _ _ (if ((-1 : Int) == 0) = true then _ else _) _ _ s
  rw [if_neg (show ¬ _ by decide)]
  refine wpAny_bind (slicePart_ pl (wpAny_bind (slicePart_ pu (wpAny_bind (wpAny_pure (?_))))))
  show wpAny _ _ (match Builtin.Slice.sliceAdjust none none (-1) (n : Int) with | (a, b) => pure (a, (-1 : Int), Builtin.Slice.slicePlaces a b (-1))) _ _ s
  rw [adj_rev]
  show wpAny _ _ (pure ((n : Int) - 1, (-1 : Int), Builtin.Slice.slicePlaces ((n : Int) - 1) (-1) (-1))) _ _ s
  rw [places_rev]
  exact wpAny_pure fin
theorem pick_rev (xs : Array Value) : ((List.range xs.size).filterMap fun (k : Nat) => xs[((xs.size : Int) - 1 + (k : Int) * (-1)).toNat]?).toArray = xs.toList.reverse.toArray := by
  have e : ((List.range xs.size).filterMap fun (k : Nat) => xs[((xs.size : Int) - 1 + (k : Int) * (-1)).toNat]?) = ((List.range xs.size).map fun k => xs.size - 1 - k).filterMap (xs[·]?) := by
    rw [List.filterMap_map]
    congr 1
    funext k
    show xs[((xs.size : Int) - 1 + (k : Int) * (-1)).toNat]? = xs[xs.size - 1 - k]?
    rw [show ((xs.size : Int) - 1 + (k : Int) * (-1)).toNat = xs.size - 1 - k by omega]
  rw [e, krv_range, List.filterMap_reverse, krv_all]
theorem item_rev {t sl : Addr} {xs : Array Value} {vl vu vs : Value} {Q : Value → Shared → Prop} (tup : IsTup s.heap t xs) (slice : s.heap.IsSliceOf sl vl vu vs) (pl : IsPart vl none) (pu : IsPart vu none) (ps : IsPart vs (some (-1)))
    (fin : Q (.ref s.heap.objs.size) { s with heap := s.heap.push { cls := .type "tuple", data := .seq xs.toList.reverse.toArray } }) (few : xs.size ≤ sizeLine) : wpAny (model prog w) A (getItem (.ref t) (.ref sl)) Q E s := by
  have fits : sizeOk (.seq xs.toList.reverse.toArray) := by
    show xs.toList.reverse.toArray.size ≤ sizeLine
    rw [List.size_toArray, List.length_reverse, Array.length_toList]
    exact few
  obtain ⟨o, ho, hc, parts⟩ := id slice
  have ty : s.TypeIs (.ref sl) "slice" := ⟨o, ho, hc⟩
  unfold getItem
  (try with_reducible refine wpAny_holding (?_)); (first | refine wpAny_bind (wpAny_pure (?_)) | skip)
  refine wpAny_bind (wpAny_sequenceKey tup.typeIs (by decide) ?_)
  refine wpAny_bind (wpAny_callSpecial?_slot (name := Str.ofString "__getitem__") tup.typeIs PyProof.Rows.slot_tuple_getitem (wpAny_call_entry PyProof.Rows.slot_tuple_getitem tup.typeIs entry_tuple_getitem ?_ (args_tuple_getitem _ _)))
  show wpAny _ _ (Builtin.Tuple.tupleItemsOf (Value.ref t) >>= _) _ _ s
  refine wpAny_bind (tupleItemsOf_ tup (wpAny_bind (wpAny_typeOf ty ?_)))
  rw [if_pos (show _ by decide)]
  refine wpAny_bind (applied_rev slice pl pu ps ?_)
  have no : ¬ ((((xs.size : Int) - 1) == 0 && (-1 : Int) == 1 && xs.size == xs.size) = true) := by
    intro z
    rw [Bool.and_eq_true, Bool.and_eq_true] at z
    have := z.1.2
    revert this
    decide
  show wpAny _ _ (if ((((xs.size : Int) - 1) == 0 && (-1 : Int) == 1 && xs.size == xs.size)) = true then _ else _) _ _ s
  rw [if_neg no, pick_rev]
  first
    | exact wpAny_bind (m := Builtin.Tuple.tupleExact _) (wpAny_newObj_type (wpAny_pure ⟨_, rfl, wpAny_pure fin⟩) fits)
    | exact wpAny_bind (m := Builtin.Tuple.tupleExact _) (wpAny_newObj_type (wpAny_bind (wpAny_pure (wpAny_pure ⟨_, rfl, wpAny_pure fin⟩))) fits)
    | exact wpAny_bind (wpAny_bind (m := Builtin.Tuple.tupleExact _) (wpAny_newObj_type (wpAny_pure (wpAny_pure ⟨_, rfl, wpAny_pure fin⟩)) fits))
    | exact wpAny_bind (wpAny_bind (m := Builtin.Tuple.tupleExact _) (wpAny_newObj_type (wpAny_pure ⟨_, rfl, wpAny_pure fin⟩) fits))
end
section
variable {X : Cx}
def tRevT (K : PySem.W.Frag) (te : TE) : TE := fun σ H Q => te σ H fun x H1 => ∃ a xs, x = .ref a ∧ SqT K H1 a xs ∧ ∀ p, H1 p = none → Q (.ref p) (upd H1 p (.tup xs.reverse))
theorem pe_revT {e : Expr} {te : TE} {k : Nat} {p1 p2 p3 pos : Pos} (he : PE X e te) : PE X (.Subscript e (.Slice none none (some (.UnaryOp .USub (.Constant (.int 1) k p1) p2)) p3) pos) (tRevT X.K te) := by
  refine ⟨fun pins s σ H Q I told => Subscript_ (thn (he.run pins s σ H _ I told) ?_)⟩
  rintro v s1 ⟨x, H1, I1, r1, a, xs, rfl, tup, q⟩
  cases r1
  have back : PO X (some (.UnaryOp .USub (.Constant (.int 1) k p1) p2)) (tPart (tUn (rU fun i => .int (-i)) (tC (.int 1)))) := po_some (pe_un un_neg pe_int)
  refine wpAny_Slice (thn (po_none.run pins s1 σ H1 (fun o H2 => o = none ∧ H2 = H1) I1 ⟨rfl, rfl⟩) ?_)
  rintro vl s2 ⟨l, H2, I2, pl, rfl, rfl⟩
  refine thn (po_none.run pins s2 σ H2 (fun o H3 => o = none ∧ H3 = H2) I2 ⟨rfl, rfl⟩) ?_
  rintro vu s3 ⟨u, H3, I3, pu, rfl, rfl⟩
  refine thn (back.run pins s3 σ H3 (fun o H4 => o = some (-1) ∧ H4 = H3) I3 ⟨1, rfl, -1, rfl, rfl, rfl⟩) ?_
  rintro vs s4 ⟨o, H4, I4, ps, rfl, rfl⟩
  have J : Inv X pins σ H4 { s4 with heap := s4.heap.push { cls := .type "slice", data := .fields #[vl, vu, vs] } } := I4.kept (t' := s4.toks) fun b ob z => Heap.get?_push_of_some _ z
  obtain ⟨us, r, ht, few⟩ := J.tuple tup
  have ln := r.length
  show wpAny (model X.prog X.w) X.A (subscriptTail e (.Slice none none (some (.UnaryOp .USub (.Constant (.int 1) k p1) p2)) p3) (.ref a) (.ref s4.heap.objs.size)) (EP X pins σ Q) _ _
  refine tail_any (ops := [.ref a, .ref s4.heap.objs.size]) ht.typeIs (PyProof.Rows.slot_tuple_getitem.lookup) ?_ (by with_unfolding_all rfl)
  refine item_rev ht (Heap.IsSliceOf.new _ vl vu vs) pl pu ps ?_ (by rw [List.size_toArray]; omega)
  refine ⟨.ref _, _, J.laid (t' := s4.toks) (o := .tup xs.reverse) (fun b ob z => Heap.get?_push_of_some _ z) (Nat.le_refl _) ?_, rfl, q _ (J.hok.fresh (Nat.le_refl _))⟩
  exact ⟨by rw [List.length_reverse]; exact few, _, r.reverse, IsTup.new _ _⟩
/-- t == () of any tuple -/
def rEqE (K : PySem.W.Frag) : R2 := fun x y H Q => ∃ a b xs, x = .ref a ∧ y = .ref b ∧ SqT K H a xs ∧ SqT K H b [] ∧ Q (.bl xs.isEmpty) H
theorem op_eqE (hu : X.A.units + 64 < cLine) : OpR X (compareOp .Eq) (rEqE X.K) := by
  intro pins s σ H x y v u Q I rx ry h
  obtain ⟨a, b, xs, rfl, rfl, ha, hb, q⟩ := h
  cases rx
  cases ry
  obtain ⟨us, r1, t1, _⟩ := I.tuple ha
  obtain ⟨ws, r2, t2, _⟩ := I.tuple hb
  cases r2
  refine SeqAt.eq_tupleAt (items2 := #[]) (e := fun _ => true) t1 t2 (by omega) (fun j _ h2 => absurd h2 (Nat.not_lt_zero _)) ?_
  have : ((List.range (min us.toArray.size (#[] : Array Value).size)).all (fun _ => true) && us.toArray.size == (#[] : Array Value).size) = xs.isEmpty := by
    cases r1 with
    | nil => rfl
    | cons _ _ => simp
  show EP X pins σ Q (.bool ((List.range (min us.toArray.size (#[] : Array Value).size)).all (fun _ => true) && us.toArray.size == (#[] : Array Value).size)) s
  rw [this]
  exact ⟨.bl _, H, I, rfl, q⟩
/-- l == [] of any list -/
def rEqN (K : PySem.W.Frag) : R2 := fun x y H Q => ∃ a b xs, x = .ref a ∧ y = .ref b ∧ SqL K H a xs ∧ SqL K H b [] ∧ Q (.bl xs.isEmpty) H
theorem op_eqN (hu : X.A.units + 64 < cLine) : OpR X (compareOp .Eq) (rEqN X.K) := by
  intro pins s σ H x y v u Q I rx ry h
  obtain ⟨a, b, xs, rfl, rfl, ha, hb, q⟩ := h
  cases rx
  cases ry
  obtain ⟨us, r1, t1, _⟩ := I.list ha
  obtain ⟨ws, r2, t2, _⟩ := I.list hb
  cases r2
  cases r1 with
  | nil => exact SeqAt.eq_listAt (e := fun _ => true) t1.isList t2.isList rfl (by omega) (fun j h1 _ => absurd h1 (Nat.not_lt_zero _)) ⟨.bl true, H, I, rfl, q⟩
  | cons _ _ => exact SeqAt.eq_list_lengthsAt t1.isList t2.isList (by simp) (by omega) ⟨.bl false, H, I, rfl, q⟩
end
end TupRev

section
variable {P : Program} {w : World} {K : PySem.W.Frag} {mg : Str → Option Value} {base : Heap}
/-! ### the law's own look at papers -/
inductive Pp where
  | ap (os : List (List Nat))
  | ca (o : List Nat) (ps : List Pp)
mutual
def Pp.d : Pp → PyData
  | .ap os => .tuple [.str apS, .tuple (os.map fun o => .str (SX.S o))]
  | .ca o ps => .tuple [.str caS, .str (SX.S o), .tuple (Pp.ds ps)]
def Pp.ds : List Pp → List PyData
  | [] => []
  | p :: r => p.d :: Pp.ds r
end
theorem Pp.ds_map : ∀ ps : List Pp, Pp.ds ps = ps.map Pp.d
  | [] => rfl
  | p :: r => by rw [Pp.ds, Pp.ds_map r]; rfl
mutual
def Pp.ok (m : Nat) : Pp → Prop
  | .ap os => os.Sublist (prodsU m)
  | .ca o ps => ProdOk m o ∧ Pp.oks m ps
def Pp.oks (m : Nat) : List Pp → Prop
  | [] => True
  | p :: r => p.ok m ∧ Pp.oks m r
end
theorem Pp.oks_all {m : Nat} : ∀ {ps : List Pp}, Pp.oks m ps → ∀ p ∈ ps, p.ok m
  | p :: r, h, x, hx => by
    rcases List.mem_cons.mp hx with rfl | hx
    · exact h.1
    · exact Pp.oks_all h.2 x hx
theorem any_pVs (f : List Nat → Bool) : ∀ os : List (List Nat), (!(pVs (os.filter f)).isEmpty) = os.any f
  | [] => rfl
  | o :: r => by
    have := any_pVs f r
    rw [List.filter_cons, List.any_cons]
    cases e : f o with
    | true => rw [if_pos rfl]; rfl
    | false => rw [if_neg (by decide), this]; rfl
def sp_holds_any (K : PySem.W.Frag) : Sp := fun vs H Q _ => ∃ (L : Addr) (m : Nat) (p : List Nat) (os : List (List Nat)), vs = [.str (SX.S p), .ref L] ∧ H L = some (.lst (pVs os)) ∧ ProdOk m p ∧ (∀ o ∈ os, ProdOk m o) ∧ m ≤ 6 ∧ os.length ≤ 128 ∧ ∀ H', Same H H' → Q (.bl (os.any fun o => hall p o)) H'
theorem ok_holds_any (T : Tx K mg) : FnOk P w K mg base CX0 3 T.f_holds_any T.fd_holds_any ["_law_product_here", "_law_some"] (sp_holds_any K) := by
  refine T.F_holds_any.ok sc_holds_any (fun vs H Q E h => ?_) (fun cdv A outer s H vs Q E hr h => ?_)
  · obtain ⟨L, m, p, os, rfl, _⟩ := h
    rfl
  · obtain ⟨L, m, p, os, rfl, hL, okp, oko, m6, lo, q⟩ := h
    refine ⟨_, (pss_one (ps_ret (pe_cmpR (NeL.op_neN hr.units) (pe_lc (own := [("_law_one", 2)]) (by rfl) sc_holds_any.nd (pi_list (pv 1)) (blkOk_by (own := [("_law_one", 2)]) (N := ["_law_product_here", "_law_some", "_law_one"]) (sc := defScope s_holds_any) (by decide +kernel)) (fun _ _ _ _ _ => (pg_name (i := 2) sc_holds_any.nd rfl (by first | exact .inl rfl | exact .inr rfl))) (fun _ _ _ _ _ => (pts_one (pt_val (pe_call (ok_inside T) (hr.mono (by decide)) (by rfl) T.g_inside T.F_inside.kp T.b_inside .nil pass0 (pa_cons (pv 0) (pa_cons (pv 2) pa_nil)))))) (fun _ _ _ _ _ => (pv 2))) (pe_lst pa_nil) (nomark _)))), ?_⟩
    have lV : (pVs os).length = os.length := by unfold pVs; rw [List.length_map]
    refine ⟨.ref L, rfl, L, rfl, ⟨_, SqL.of hL⟩, fun D nD => ?_⟩
    refine lc_list (K := K) (a := L) (xs := pVs os) (fun j H' => Same H (hd1 D H') ∧ H' D = some (.lst (pVs ((os.take j).filter fun o => hall p o)))) ⟨hd1_of (same_upd nD) nD, upd_same⟩ (fun j H' _ z => SqL.of (hd1_le _ _ (z.1 _ _ hL))) ?_ ?_
    · rintro j v H1 hv ⟨s1, hD⟩
      obtain ⟨o, ho, rfl⟩ := pV_at hv
      have eq := filter_snoc (f := fun o => hall p o) ho
      refine ⟨rfl, .str (SX.S p), rfl, .str (SX.S o), rfl, m, p, o, rfl, okp.1, (oko o (List.mem_of_getElem? ho)).1, m6, fun H2 s2 => ⟨_, rfl, ite2 (fun e => ?_) (fun e => ?_)⟩⟩
      · refine ⟨.str (SX.S o), rfl, _, s2 _ _ hD, ?_, (s1.trans (hd1_same s2)).trans hd1_upd, ?_⟩
        · unfold pVs
          rw [List.length_map]
          have := List.length_filter_le (fun o => hall p o) (os.take j)
          rw [List.length_take] at this
          exact Nat.lt_of_lt_of_le (show _ < 256 by omega) (by decide)
        · rw [upd_same, eq, if_pos e]
          unfold pVs
          rw [List.map_append]
          rfl
      · refine ⟨s1.trans (hd1_same s2), ?_⟩
        rw [s2 _ _ hD, eq, if_neg e, List.append_nil]
    · rintro H1 ⟨s1, hD⟩
      rw [lV, List.take_length] at hD
      refine ⟨Nat.zero_le _, fun e0 ne0 => ?_⟩
      have s2 := same_upd (o := HO.lst []) ne0
      refine ⟨D, e0, _, rfl, rfl, SqL.of (s2 _ _ hD), SqL.of upd_same, ?_⟩
      have z := q _ ((show Same H H1 from fun b o e => hd1_le _ _ (s1 _ _ e)).trans s2)
      rw [show (!(pVs (os.filter fun o => hall p o)).isEmpty) = os.any fun o => hall p o from any_pVs _ _]
      exact z
theorem ShAll.strs {H : Hp} : ∀ os : List (List Nat), ShAll H (pVs os) (os.map fun o => PyData.str (SX.S o))
  | [] => .nil
  | o :: r => .cons (.str _) (ShAll.strs r)
theorem TkAll.texts {H : Hp} : ∀ {xs : List V} (os : List (List Nat)), TkAll H xs (os.map fun o => PyData.str (SX.S o)) → xs = pVs os
  | _, [], .nil => rfl
  | _, o :: os, .cons h t => by
    cases h
    rw [TkAll.texts os t]
    rfl
theorem inV_tx (gv : List (List Nat)) (o : List Nat) : inV (.str (SX.S o)) (pVs gv) = txG gv (.str (SX.S o)) := by
  unfold inV txG pVs
  rw [List.any_map, List.any_map]
  congr 1
  funext g
  show (SX.S g == SX.S o) = decide (SX.S o = SX.S g)
  rw [Bool.eq_iff_iff, beq_iff_eq, decide_eq_true_iff]
  exact ⟨fun h => h.symm, fun h => h.symm⟩
theorem flat_pVs (gv : List (List Nat)) : (pVs gv).all flatV = true := by
  unfold pVs
  rw [List.all_map, List.all_eq_true]
  intro x _
  rfl
theorem prodsU_rises {m : Nat} (h : m ≤ 4) : (prodsU m).Pairwise fun p q => ((SX.S p).cps.toList < (SX.S q).cps.toList) := by
  have : ((List.range 5).all fun m => decide ((prodsU m).Pairwise fun p q => p < q)) = true := by decide +kernel
  exact of_decide_eq_true (List.all_eq_true.mp this m (List.mem_range.mpr (by omega)))
theorem pair_next {α : Type} {R : α → α → Prop} : ∀ {l : List α}, l.Pairwise R → ∀ z ∈ l.zip (l.drop 1), R z.1 z.2
  | x :: y :: r, h, z, hz => by
    rcases List.mem_cons.mp (show z ∈ (x, y) :: ((y :: r).zip r) from hz) with rfl | hz
    · exact (List.pairwise_cons.mp h).1 y List.mem_cons_self
    · exact pair_next (List.pairwise_cons.mp h).2 z hz
theorem rises_sub {m : Nat} (h : m ≤ 4) {os : List (List Nat)} (s : os.Sublist (prodsU m)) : risesT (os.map fun o => PyData.str (SX.S o)) = true := by
  refine List.all_eq_true.mpr (pair_next (R := fun a b => ltT a b = true) ?_)
  exact List.Pairwise.map _ (fun a b h => decide_eq_true h) ((prodsU_rises h).sublist s)
theorem sub_filter : ∀ {l L : List (List Nat)}, l.Sublist L → L.Nodup → L.filter (fun x => decide (x ∈ l)) = l
  | [], L, _, _ => by
    rw [List.filter_eq_nil_iff]
    intro x _
    simp
  | x :: l, y :: L, s, nd => by
    have nd' := List.nodup_cons.mp nd
    cases s with
    | cons _ s =>
      have : y ∉ x :: l := fun h => nd'.1 (s.subset h)
      rw [List.filter_cons, if_neg (by simpa using this)]
      exact sub_filter s nd'.2
    | cons_cons _ s =>
      rw [List.filter_cons, if_pos (by simp)]
      congr 1
      have e := sub_filter s nd'.2
      rw [← e]
      refine List.filter_congr fun z hz => ?_
      have : z ≠ x := fun w => nd'.1 (w ▸ hz)
      rw [Bool.eq_iff_iff, decide_eq_true_iff, decide_eq_true_iff, e]
      simp [this]
  | x :: l, [], s, _ => by cases s
theorem eqv_strs : ∀ os : List (List Nat), PyData.eqv (.list (os.map fun o => PyData.str (SX.S o))) (.list (os.map fun o => PyData.str (SX.S o))) = true := fun os => by
  show PyData.eqvAll _ _ = true
  induction os with
  | nil => rfl
  | cons o r ih =>
    show (PyData.eqv (.str (SX.S o)) (.str (SX.S o)) && PyData.eqvAll _ _) = true
    rw [Bool.and_eq_true]
    exact ⟨by show decide _ = true; simp, ih⟩
def sp_law_apart (K : PySem.W.Frag) : Sp := fun vs H Q _ => ∃ (M G : Addr) (v : V) (m : Nat) (al gv os : List (List Nat)), vs = [.ref M, .ref G, v] ∧ H M = some (.lst (pVs al)) ∧ H G = some (.lst (pVs gv)) ∧ Tk H v (.tuple (os.map fun o => .str (SX.S o))) ∧ (∀ p ∈ al, ProdOk m p) ∧ os.Sublist (prodsU m) ∧ m ≤ 4 ∧ al.length ≤ 128 ∧ ∀ H', Same H H' → Q (optV (apartF al gv (.tuple (os.map fun o => .str (SX.S o))))) H'
theorem ok_apart (T : Tx K mg) : FnOk P w K mg base CX0 4 T.f_apart T.fd_apart ["_law_menu", "_law_given_here", "_law_some"] (sp_law_apart K) := by
  refine T.F_apart.ok sc_apart (fun vs H Q E h => ?_) (fun cdv A outer s H vs Q E hr h => ?_)
  · obtain ⟨M, G, v, m, al, gv, os, rfl, _⟩ := h
    rfl
  · obtain ⟨M, G, v, m, al, gv, os, rfl, hM, hG, tv, oka, sub, m4, la, q⟩ := h
    refine ⟨_, (pss_cons (ps_if (pt_not (pt_val (pe_callB call_isi (by rfl) T.m_isinstance (by decide +kernel) (pa_cons (pv 2) (pa_cons (pe_bltn (v := .ty "tuple") (u := .type "tuple") (by rfl) T.m_tuple (by decide +kernel) rfl) pa_nil))))) (pss_one (ps_ret pe_non)) pss_nil) (pss_cons (ps_if (pt_cmpR (NeL.op_neN hr.units) (pe_lc (own := [("_law_one", 4)]) (by rfl) sc_apart.nd (pi_tup (pv 2)) (blkOk_by (own := [("_law_one", 4)]) (N := ["_law_menu", "_law_given_here", "_law_some", "_law_product_here", "_law_one"]) (sc := defScope s_apart) (by decide +kernel)) (fun _ _ _ _ _ => (pg_name (i := 4) sc_apart.nd rfl (by first | exact .inl rfl | exact .inr rfl))) (fun _ _ _ _ _ => (pts_one (PW.pt (pw_or (pt_not (pt_val (pe_callB (show CallR _ _ (rIsi K) from call_isi) (by rfl) T.m_isinstance (by decide +kernel) (pa_cons (pv 4) (pa_cons (pe_bltn (v := .ty "str") (u := .type "str") (by rfl) T.m_str (by decide +kernel) rfl) pa_nil))))) (pw_or1 (pt_cmpR (show OpR _ _ (rIn K true) from op_notIn_seq) (pv 4) (pv 1) rfl)))))) (fun _ _ _ _ _ => (pv 4))) (pe_lst pa_nil) (nomark _)) (pss_one (ps_ret pe_non)) pss_nil) (pss_cons (ps_if (pt_cmpR (op_neD hr.units) (pe_callTy call_list_of (by rfl) T.m_list (by decide +kernel) (pa_cons (pv 2) pa_nil)) (pe_callB (StX.cr_sortTx rfl) (by rfl) T.m_sorted (by decide +kernel) (pa_cons (pe_callTy (StX.call_setTx rfl) (by rfl) T.m_set (by decide +kernel) (pa_cons (pv 2) pa_nil)) pa_nil)) (nomark _)) (pss_one (ps_ret pe_non)) pss_nil) (pss_cons (ps_for PassesOwn.never rfl (pi_list (pv 0)) (pg_name (i := 3) sc_apart.nd rfl (by first | exact .inl rfl | exact .inr rfl)) (pss_one (ps_if (pt_cmpR op_gt (pe_callB call_len_seq (by rfl) T.m_len PySem.boot_len (pa_cons (pe_lc (own := [("_law_one", 4)]) (by rfl) sc_apart.nd (pi_tup (pv 2)) (blkOk_by (own := [("_law_one", 4)]) (N := ["_law_menu", "_law_given_here", "_law_some", "_law_product_here", "_law_one"]) (sc := defScope s_apart) (by decide +kernel)) (fun _ _ _ _ _ => (pg_name (i := 4) sc_apart.nd rfl (by first | exact .inl rfl | exact .inr rfl))) (fun _ _ _ _ _ => (pts_one (pt_val (pe_call (ok_inside T) (hr.mono (by decide)) (by rfl) T.g_inside T.F_inside.kp T.b_inside .nil pass0 (pa_cons (pv 3) (pa_cons (pv 4) pa_nil)))))) (fun _ _ _ _ _ => (pv 4))) pa_nil)) pe_int (nomark _)) (pss_one (ps_ret pe_non)) pss_nil))) (pss_one (ps_ret (pe_callB call_len_seq (by rfl) T.m_len PySem.boot_len (pa_cons (pv 2) pa_nil)))))))), ?_⟩
    obtain ⟨sa, xs, rfl, hsa, tx⟩ := tv.tup_inv
    have exs := TkAll.texts os tx
    subst exs
    have oko : ∀ o ∈ os, ProdOk m o := fun o ho => prodsU_ok o (sub.subset ho)
    have lo : os.length ≤ 81 := Nat.le_trans sub.length_le (prodsU_81 m4)
    have lV : (pVs os).length = os.length := by unfold pVs; rw [List.length_map]
    refine ⟨.ref sa, rfl, _, _, _, _, _, rfl, .ty _, (Sh.tup hsa (ShAll.strs os)).ty, kit_ty (kitTup _), _, rfl, iteF ?_⟩
    have no : ∀ H', Same H H' → ((os.map fun o => PyData.str (SX.S o)).all (txG gv) && !(al.any fun p => decide (1 < ((os.map fun o => PyData.str (SX.S o)).filter (holdsD p)).length))) = false → Q .non H' := fun H' g z => by
      have q' := q H' g
      have : apartF al gv (.tuple (os.map fun o => PyData.str (SX.S o))) = none := by
        show (if (_ && (risesT _ && _)) = true then _ else _) = _
        rw [rises_sub m4 sub, Bool.true_and, z]
        rfl
      rw [this] at q'
      exact q'
    refine ⟨.ref sa, rfl, sa, rfl, ⟨_, SqT.of hsa⟩, fun D nD => ?_⟩
    refine lc_tup (K := K) (a := sa) (xs := pVs os) (fun j H' => Same H (hd1 D H') ∧ H' D = some (.lst (pVs ((os.take j).filter fun o => !txG gv (.str (SX.S o)))))) ⟨hd1_of (same_upd nD) nD, upd_same⟩ (fun j H' _ z => SqT.of (hd1_le _ _ (z.1 _ _ hsa))) ?_ ?_
    · rintro j v H1 hv ⟨s1, hD⟩
      obtain ⟨o, ho, rfl⟩ := pV_at hv
      have eq := filter_snoc (f := fun o => !txG gv (.str (SX.S o))) ho
      refine ⟨rfl, .str (SX.S o), rfl, _, _, _, _, _, rfl, .ty _, (Sh.str (H := H1) (SX.S o)).ty, kit_ty (kitStr _), _, rfl, iteF ?_⟩
      refine ⟨.str (SX.S o), rfl, .ref G, rfl, G, pVs gv, rfl, .inl (SqL.of (hd1_le _ _ (s1 _ _ hG))), rfl, flat_pVs gv, _, rfl, ?_⟩
      rw [inV_tx, if_pos (rfl : true = true)]
      refine ite2 (fun e => ?_) (fun e => ?_)
      · refine ⟨.str (SX.S o), rfl, _, hD, ?_, s1.trans hd1_upd, ?_⟩
        · unfold pVs
          rw [List.length_map]
          have := List.length_filter_le (fun o => !txG gv (.str (SX.S o))) (os.take j)
          rw [List.length_take] at this
          exact Nat.lt_of_lt_of_le (show _ < 256 by omega) (by decide)
        · rw [upd_same, eq, if_pos e]
          unfold pVs
          rw [List.map_append]
          rfl
      · refine ⟨s1, ?_⟩
        rw [hD, eq, if_neg e, List.append_nil]
    · rintro H1 ⟨s1', hD⟩
      rw [lV, List.take_length] at hD
      have s1 : Same H H1 := fun b o e => hd1_le _ _ (s1' _ _ e)
      refine ⟨Nat.zero_le _, fun e0 ne0 => ?_⟩
      have s2 := s1.trans (same_upd (o := HO.lst []) ne0)
      refine ⟨D, e0, _, rfl, rfl, SqL.of (same_upd ne0 _ _ hD), SqL.of upd_same, _, rfl, ?_⟩
      rw [any_pVs]
      generalize upd H1 e0 (HO.lst []) = H2 at s2 ⊢
      refine ite2 (fun e => no H2 s2 ?_) (fun e => ?_)
      · obtain ⟨o, ho, z⟩ := List.any_eq_true.mp e
        have : ((os.map fun o => PyData.str (SX.S o)).all (txG gv)) = false := by
          rw [Bool.eq_false_iff]
          intro y
          have w := List.all_eq_true.mp y _ (List.mem_map.mpr ⟨o, ho, rfl⟩)
          rw [w] at z
          cases z
        rw [this, Bool.false_and]
      have alle : ((os.map fun o => PyData.str (SX.S o)).all (txG gv)) = true := List.all_eq_true.mpr fun d hd => by
        obtain ⟨o, ho, rfl⟩ := List.mem_map.mp hd
        cases w : txG gv (.str (SX.S o)) with
        | true => rfl
        | false => exact absurd (List.any_eq_true.mpr ⟨o, ho, by rw [w]; rfl⟩) e
      rw [alle, Bool.true_and] at no
      have val : apartF al gv (.tuple (os.map fun o => PyData.str (SX.S o))) = if (!(al.any fun p => decide (1 < ((os.map fun o => PyData.str (SX.S o)).filter (holdsD p)).length))) = true then some os.length else none := by
        show (if (_ && (risesT _ && _)) = true then _ else _) = _
        rw [rises_sub m4 sub, Bool.true_and, alle, Bool.true_and, List.length_map]
      rw [val] at q
      have hsa2 := s2 _ _ hsa
      refine ⟨.ref sa, rfl, sa, pVs os, rfl, .inr (SqT.of hsa2), fun l nl => ?_⟩
      have s3 := same_upd (o := HO.lst (pVs os)) nl
      have h3 : upd H2 l (HO.lst (pVs os)) l = some (.lst (pVs os)) := upd_same
      generalize upd H2 l (HO.lst (pVs os)) = H3 at s3 h3 ⊢
      have exs : pVs os = (os.map SX.S).map V.str := by unfold pVs; rw [List.map_map]; rfl
      have few : (os.map SX.S).length + 1 < scanBound := by
        rw [List.length_map]
        exact Nat.lt_of_lt_of_le (show _ < 128 by omega) (by decide)
      refine ⟨.ref sa, rfl, sa, os.map SX.S, rfl, .inr (by rw [← exs]; exact SqT.of (s3 _ _ hsa2)), few, fun S nS => ?_⟩
      refine ⟨S, _, _, rfl, upd_same, by omega, fun zs p st nd mem _ np => ?_⟩
      have pS : p ≠ S := fun z => by rw [z, upd_same] at np; cases np
      have np3 : H3 p = none := by rw [upd_ne pS] at np; exact np
      have ezs : zs = os.map SX.S := by
        rw [asked_uniq m4 oko st nd mem]
        rw [sub_filter sub (prodsU_nodup m4)]
      rw [ezs, ← exs]
      have s35 : ∀ o : HO, Same H3 (upd (upd H3 S o) p (.lst (pVs os))) := fun o => (same_upd nS).trans (same_upd (by rw [upd_ne pS]; exact np3))
      have h5 : ∀ o : HO, upd (upd H3 S o) p (HO.lst (pVs os)) p = some (.lst (pVs os)) := fun o => upd_same
      refine ⟨.list (os.map fun o => .str (SX.S o)), .list (os.map fun o => .str (SX.S o)), .lst (SqL.of (s35 _ _ _ h3)) (dpStrs os), .lst (SqL.of (h5 _)) (dpStrs os), sh_strsL oko, sh_strsL oko, _, rfl, ?_⟩
      rw [eqv_strs]
      refine iteF ?_
      have lp : (pVs al).length = al.length := by unfold pVs; rw [List.length_map]
      have s05 := fun o => s2.trans (s3.trans (s35 o))
      refine ⟨.ref M, rfl, M, rfl, ⟨_, SqL.of (s05 _ _ _ hM)⟩, ?_⟩
      refine for_list (K := K) (a := M) (xs := pVs al) (fun j σ H' => ∃ y, σ = [some (.ref M), some (.ref G), some (.ref sa), y, none] ∧ Same H H' ∧ (al.take j).any (fun p => decide (1 < ((os.map fun o => PyData.str (SX.S o)).filter (holdsD p)).length)) = false) ⟨_, rfl, s05 _, rfl⟩ (fun j σ H' _ ⟨_, _, s, _⟩ => SqL.of (s _ _ hM)) ?_ ?_
      · rintro j v σ H6 hv ⟨y, rfl, s06, ih⟩
        obtain ⟨p, hp, rfl⟩ := pV_at hv
        have okp := oka p (List.mem_of_getElem? hp)
        have ha6 := s06 _ _ hsa
        have m6 : m ≤ 6 := by omega
        refine ⟨.ref sa, rfl, sa, rfl, ⟨_, SqT.of ha6⟩, fun D nD => ?_⟩
        refine lc_tup (K := K) (a := sa) (xs := pVs os) (fun j H' => Same H6 (hd1 D H') ∧ H' D = some (.lst (pVs ((os.take j).filter fun o => hall p o)))) ⟨hd1_of (same_upd nD) nD, upd_same⟩ (fun j H' _ z => SqT.of (hd1_le _ _ (z.1 _ _ ha6))) ?_ ?_
        · rintro i v H7 hv ⟨s7, hD⟩
          obtain ⟨o, ho, rfl⟩ := pV_at hv
          have eq := filter_snoc (f := fun o => hall p o) ho
          refine ⟨rfl, .str (SX.S p), rfl, .str (SX.S o), rfl, m, p, o, rfl, okp.1, (oko o (List.mem_of_getElem? ho)).1, m6, fun H8 s8 => ⟨_, rfl, ite2 (fun e => ?_) (fun e => ?_)⟩⟩
          · refine ⟨.str (SX.S o), rfl, _, s8 _ _ hD, ?_, (s7.trans (hd1_same s8)).trans hd1_upd, ?_⟩
            · unfold pVs
              rw [List.length_map]
              have := List.length_filter_le (fun o => hall p o) (os.take i)
              rw [List.length_take] at this
              exact Nat.lt_of_lt_of_le (show _ < 256 by omega) (by decide)
            · rw [upd_same, eq, if_pos e]
              unfold pVs
              rw [List.map_append]
              rfl
          · refine ⟨s7.trans (hd1_same s8), ?_⟩
            rw [s8 _ _ hD, eq, if_neg e, List.append_nil]
        · rintro H7 ⟨s7', hD⟩
          have s7 : Same H H7 := s06.trans fun b o e => hd1_le _ _ (s7' _ _ e)
          rw [lV, List.take_length] at hD
          have lf : (pVs (os.filter fun o => hall p o)).length = ((os.map fun o => PyData.str (SX.S o)).filter (holdsD p)).length := by
            unfold pVs
            rw [List.filter_map, List.length_map, List.length_map]
            rfl
          refine ⟨D, _, rfl, .inl (SqL.of hD), _, _, rfl, rfl, _, rfl, ite2 (fun e2 => ?_) (fun e2 => ?_)⟩
          · have e3 := of_decide_eq_true e2
            refine no _ s7 ?_
            have : (al.any fun p => decide (1 < ((os.map fun o => PyData.str (SX.S o)).filter (holdsD p)).length)) = true := List.any_eq_true.mpr ⟨p, List.mem_of_getElem? hp, decide_eq_true (by omega)⟩
            rw [this]
            rfl
          · refine ⟨_, rfl, s7, ?_⟩
            rw [List.take_add_one, hp, List.any_append, ih]
            have e3 : ¬ _ := fun z => e2 (decide_eq_true z)
            simp only [Option.toList, List.any_cons, List.any_nil, Bool.or_false, Bool.false_or]
            exact decide_eq_false (by omega)
      · rintro σ H6 ⟨y, rfl, s06, ih⟩
        rw [lp, List.take_length] at ih
        rw [ih] at q
        refine ⟨.ref sa, rfl, sa, pVs os, rfl, .inr (SqT.of (s06 _ _ hsa)), ?_⟩
        rw [lV]
        exact q H6 s06
mutual
def Pp.dep : Pp → Nat
  | .ap _ => 1
  | .ca _ ps => Pp.deps ps + 1
def Pp.deps : List Pp → Nat
  | [] => 0
  | p :: r => max p.dep (Pp.deps r)
end
theorem Pp.deps_mem {p : Pp} : ∀ {ps : List Pp}, p ∈ ps → p.dep ≤ Pp.deps ps
  | x :: r, h => by
    show p.dep ≤ max x.dep (Pp.deps r)
    rcases List.mem_cons.mp h with rfl | h
    · omega
    · have := Pp.deps_mem h
      omega
theorem sB_self (z : Str) : sB z (.str z) = true := decide_eq_true rfl
theorem Tk.str_inv48 {H : Hp} {v : V} {z : Str} (h : Tk H v (.str z)) : v = .str z := by cases h; rfl
def sp_law_shown (K : PySem.W.Frag) : Nat → Sp
  | 0 => fun _ _ _ _ => False
  | e + 1 => fun vs H Q _ => ∃ (M G : Addr) (v : V) (m : Nat) (al gv : List (List Nat)) (p : Pp), vs = [.ref M, .ref G, v] ∧ H M = some (.lst (pVs al)) ∧ H G = some (.lst (pVs gv)) ∧ Tk H v p.d ∧ p.ok m ∧ p.dep ≤ e + 1 ∧ (∀ p ∈ al, ProdOk m p) ∧ gv.Sublist (prodsU m) ∧ m ≤ 4 ∧ al.length ≤ 128 ∧ ∀ H', Same H H' → Q (optV (shownF al (e + 1) gv p.d)) H'
theorem ok_shown_step (T : Tx K mg) (e : Nat) (ih : FnOk P w K mg base CX0 (2 * e + 6) T.f_shown T.fd_shown ["_law_menu", "_law_given_here", "_law_thing"] (sp_law_shown K e)) : FnOk P w K mg base CX0 (2 * e + 8) T.f_shown T.fd_shown ["_law_menu", "_law_given_here", "_law_thing"] (sp_law_shown K (e + 1)) := by
  refine T.F_shown.ok sc_shown (fun vs H Q E h => ?_) (fun cdv A outer s H vs Q E hr h => ?_)
  · obtain ⟨M, G, v, m, al, gv, p, rfl, _⟩ := h
    rfl
  · obtain ⟨M, G, v, m, al, gv, p, rfl, hM, hG, tv, okp, dp, oka, sub, m4, la, q⟩ := h
    refine ⟨_, (pss_cons (ps_if (pw_or (pt_not (pt_val (pe_callB call_isi (by rfl) T.m_isinstance (by decide +kernel) (pa_cons (pv 2) (pa_cons (pe_bltn (v := .ty "tuple") (u := .type "tuple") (by rfl) T.m_tuple (by decide +kernel) rfl) pa_nil))))) (pw_or (pt_cmpR (TupRev.op_eqE hr.units) (pv 2) (pe_tup pa_nil) (nomark _)) (pw_or1 (pt_not (pt_val (pe_callB call_isi (by rfl) T.m_isinstance (by decide +kernel) (pa_cons (pe_ix ix_tup (pv 2) pe_int (fun _ _ => rfl)) (pa_cons (pe_bltn (v := .ty "str") (u := .type "str") (by rfl) T.m_str (by decide +kernel) rfl) pa_nil)))))))).pt (pss_one (ps_ret pe_non)) pss_nil) (pss_cons (ps_if (pw_and (pt_cmpR op_eq (pe_ix ix_tup (pv 2) pe_int (fun _ _ => rfl)) pe_str (nomark _)) (pw_and1 (pt_cmpR op_eq (pe_callB call_len_seq (by rfl) T.m_len PySem.boot_len (pa_cons (pv 2) pa_nil)) pe_int (nomark _)))).pt (pss_one (ps_ret (pe_call (ok_apart T) (hr.mono (by omega)) (by rfl) T.g_apart T.F_apart.kp T.b_apart .nil pass0 (pa_cons (pv 0) (pa_cons (pv 1) (pa_cons (pe_ix ix_tup (pv 2) pe_int (fun _ _ => rfl)) pa_nil)))))) pss_nil) (pss_cons (ps_if (pw_or (pt_cmpR op_ne (pe_ix ix_tup (pv 2) pe_int (fun _ _ => rfl)) pe_str (nomark _)) (pw_or (pt_cmpR op_ne (pe_callB call_len_seq (by rfl) T.m_len PySem.boot_len (pa_cons (pv 2) pa_nil)) pe_int (nomark _)) (pw_or1 (pt_not (pt_val (pe_callB call_isi (by rfl) T.m_isinstance (by decide +kernel) (pa_cons (pe_ix ix_tup (pv 2) pe_int (fun _ _ => rfl)) (pa_cons (pe_bltn (v := .ty "str") (u := .type "str") (by rfl) T.m_str (by decide +kernel) rfl) pa_nil)))))))).pt (pss_one (ps_ret pe_non)) pss_nil) (pss_cons (ps_if (pt_cmpR op_notIn_seq (pe_ix ix_tup (pv 2) pe_int (fun _ _ => rfl)) (pv 1) rfl) (pss_one (ps_ret pe_non)) pss_nil) (pss_cons (ps_setLc (i := 3) (own := [("_law_product_here", 5)]) (by rfl) sc_shown.nd rfl rfl (sw_true rfl rfl rfl (by decide +kernel)) (pi_list (pv 0)) (blkOk_by (own := [("_law_product_here", 5)]) (N := ["_law_menu", "_law_given_here", "_law_thing", "_law_some", "_law_found", "_law_product_here", "_law_paper_here", "_law_left", "_law_one"]) (sc := defScope s_shown) (by decide +kernel)) (fun _ _ _ _ _ => (pg_name (i := 5) sc_shown.nd rfl (by first | exact .inl rfl | exact .inr rfl))) (fun _ _ _ _ _ => (pts_one (pt_val (pe_call (ok_inside T) (hr.mono (by omega)) (by rfl) T.g_inside T.F_inside.kp T.b_inside .nil pass0 (pa_cons (pv 5) (pa_cons (pe_ix (show IxR _ (rIxT K) from ix_tup) (pv 2) pe_int (fun _ _ => rfl)) pa_nil)))))) (fun _ _ _ _ _ => (pv 5))) (pss_cons (ps_if (pw_or (pt_cmpR (NeL.op_eqN hr.units) (pv 3) (pe_lst pa_nil) (nomark _)) (pw_or (pt_not (pt_val (pe_callB call_isi (by rfl) T.m_isinstance (by decide +kernel) (pa_cons (pe_ix ix_tup (pv 2) pe_int (fun _ _ => rfl)) (pa_cons (pe_bltn (v := .ty "tuple") (u := .type "tuple") (by rfl) T.m_tuple (by decide +kernel) rfl) pa_nil))))) (pw_or1 (pt_cmpR op_ne (pe_callB call_len_seq (by rfl) T.m_len PySem.boot_len (pa_cons (pe_ix ix_tup (pv 2) pe_int (fun _ _ => rfl)) pa_nil)) (pe_callB call_len_seq (by rfl) T.m_len PySem.boot_len (pa_cons (pv 3) pa_nil)) (nomark _))))).pt (pss_one (ps_ret pe_non)) pss_nil) (pss_cons (ps_set (i := 4) sc_shown.nd rfl (by first | exact .inl rfl | exact .inr rfl) (pe_lst pa_nil)) (pss_cons (ps_for PassesOwn.never rfl (ZpG.pi_zip2 (by rfl) T.m_zip (pa_cons (pv 3) (pa_cons (pe_ix ix_tup (pv 2) pe_int (fun _ _ => rfl)) pa_nil))) (pg_tup rfl (pgs_cons (pg_name (i := 5) sc_shown.nd rfl (by first | exact .inl rfl | exact .inr rfl)) (pgs_cons (pg_name (i := 6) sc_shown.nd rfl (by first | exact .inl rfl | exact .inr rfl)) pgs_nil))) (pss_cons (ps_setLc (i := 7) (own := [("_law_one", 8)]) (by rfl) sc_shown.nd rfl rfl (sw_true rfl rfl rfl (by decide +kernel)) (pi_list (pv 1)) (blkOk_by (own := [("_law_one", 8)]) (N := ["_law_menu", "_law_given_here", "_law_thing", "_law_some", "_law_found", "_law_product_here", "_law_paper_here", "_law_left", "_law_one"]) (sc := defScope s_shown) (by decide +kernel)) (fun _ _ _ _ _ => (pg_name (i := 8) sc_shown.nd rfl (by first | exact .inl rfl | exact .inr rfl))) (fun _ _ _ _ _ => (pts_one (pt_not (pt_val (pe_call (ok_inside T) (hr.mono (by omega)) (by rfl) T.g_inside T.F_inside.kp T.b_inside .nil pass0 (pa_cons (pv 5) (pa_cons (pv 8) pa_nil))))))) (fun _ _ _ _ _ => (pv 8))) (pss_one (ps_expr (pe_bm PySem.F.plainAttrs_list PySem.F.slot_list_append PySem.F.type_list_append mt_append (pv 4) (pa_cons (pe_call (ih) (hr.mono (by omega)) (by rfl) T.g_shown T.F_shown.kp T.b_shown .nil pass0 (pa_cons (pv 0) (pa_cons (pv 7) (pa_cons (pv 6) pa_nil)))) pa_nil)))))) (pss_cons (ps_if (pt_cmpR op_in_seq pe_non (pv 4) rfl) (pss_one (ps_ret pe_non)) pss_nil) (pss_one (ps_ret (pe_op op_add pe_int (pe_callB (cr_min rfl) (by rfl) T.m_min (by decide +kernel) (pa_cons (pv 4) pa_nil)))))))))))))), ?_⟩
    have m6 : m ≤ 6 := by omega
    cases p with
    | ap os =>
      obtain ⟨a, xs, rfl, ha, tx⟩ := tv.tup_inv
      match xs, tx with
      | [v0, v1], .cons t0 (.cons t1 .nil) =>
      obtain rfl := Tk.str_inv48 t0
      refine ⟨.ref a, rfl, _, _, _, _, _, rfl, .ty _, .base (.tup ha), kit_ty (kitTup (.tuple [])), _, rfl, iteF ?_⟩
      refine ⟨.ref a, rfl, Nat.zero_le _, fun e0 ne0 => ?_⟩
      have s1 := same_upd (o := HO.tup []) ne0
      refine ⟨a, e0, _, rfl, rfl, SqT.of (s1 _ _ ha), SqT.of upd_same, _, rfl, iteF ?_⟩
      generalize upd H e0 (HO.tup []) = H1 at s1 ⊢
      have ha1 := s1 _ _ ha
      refine ⟨.ref a, rfl, a, _, 0, .str apS, rfl, rfl, SqT.of ha1, rfl, _, _, _, _, _, rfl, .ty _, .base (.str _), kit_ty (kitStr (.str apS)), _, rfl, iteF ?_⟩
      refine ⟨.ref a, rfl, a, _, 0, .str apS, rfl, rfl, SqT.of ha1, rfl, rfl, _, rfl, ite2 (fun _ => ?_) (fun z => absurd (decide_eq_true rfl) z)⟩
      refine ⟨.ref a, rfl, a, _, rfl, .inr (SqT.of ha1), rfl, _, rfl, ite2 (fun _ => ?_) (fun z => absurd (decide_eq_true rfl) z)⟩
      refine ⟨.ref M, rfl, .ref G, rfl, .ref a, rfl, a, _, 1, v1, rfl, rfl, SqT.of ha1, rfl, M, G, v1, m, al, gv, os, rfl, s1 _ _ hM, s1 _ _ hG, t1.same s1, oka, okp, m4, la, fun H' s' => ?_⟩
      have q' := q H' (s1.trans s')
      rw [show shownF al (e + 1) gv (Pp.ap os).d = apartF al gv (.tuple (os.map fun o => .str (SX.S o))) from (if_pos (sB_self apS) : (if sB apS (.str apS) = true then apartF al gv (.tuple (os.map fun o => .str (SX.S o))) else none) = _)] at q'
      exact q'
    | ca o ps =>
      obtain ⟨a, xs, rfl, ha, tx⟩ := tv.tup_inv
      match xs, tx with
      | [v0, v1, v2], .cons t0 (.cons t1 (.cons t2 .nil)) =>
      obtain rfl := Tk.str_inv48 t0
      obtain rfl := Tk.str_inv48 t1
      obtain ⟨oko, okps⟩ := okp
      have val : shownF al (e + 1) gv (Pp.ca o ps).d = caseF al (shownF al e) gv (.str (SX.S o)) (.tuple (Pp.ds ps)) := (if_pos (sB_self caS) : (if sB caS (.str caS) = true then caseF al (shownF al e) gv (.str (SX.S o)) (.tuple (Pp.ds ps)) else none) = _)
      rw [val] at q
      have no : ∀ H', Same H H' → caseF al (shownF al e) gv (.str (SX.S o)) (.tuple (Pp.ds ps)) = none → Q .non H' := fun H' g z => by
        have q' := q H' g
        rw [z] at q'
        exact q'
      refine ⟨.ref a, rfl, _, _, _, _, _, rfl, .ty _, .base (.tup ha), kit_ty (kitTup (.tuple [])), _, rfl, iteF ?_⟩
      refine ⟨.ref a, rfl, Nat.zero_le _, fun e0 ne0 => ?_⟩
      have s1 := same_upd (o := HO.tup []) ne0
      refine ⟨a, e0, _, rfl, rfl, SqT.of (s1 _ _ ha), SqT.of upd_same, _, rfl, iteF ?_⟩
      generalize upd H e0 (HO.tup []) = H1 at s1 ⊢
      have ha1 := s1 _ _ ha
      have hM1 := s1 _ _ hM
      have hG1 := s1 _ _ hG
      refine ⟨.ref a, rfl, a, _, 0, .str caS, rfl, rfl, SqT.of ha1, rfl, _, _, _, _, _, rfl, .ty _, .base (.str _), kit_ty (kitStr (.str caS)), _, rfl, iteF ?_⟩
      refine ⟨.ref a, rfl, a, _, 0, .str caS, rfl, rfl, SqT.of ha1, rfl, rfl, _, rfl, ite2 (fun z => absurd (V.str.inj (of_decide_eq_true z)) (by decide)) (fun _ => iteF ?_)⟩
      refine ⟨.ref a, rfl, a, _, 0, .str caS, rfl, rfl, SqT.of ha1, rfl, rfl, _, rfl, ite2 (fun z => ?_) (fun _ => ?_)⟩
      · simp [caS] at z
      refine ⟨.ref a, rfl, a, _, rfl, .inr (SqT.of ha1), rfl, _, rfl, ite2 (fun z => ?_) (fun _ => ?_)⟩
      · simp at z
      refine ⟨.ref a, rfl, a, _, 1, .str (SX.S o), rfl, rfl, SqT.of ha1, rfl, _, _, _, _, _, rfl, .ty _, .base (.str _), kit_ty (kitStr (.str caS)), _, rfl, iteF ?_⟩
      refine ⟨.ref a, rfl, a, _, 1, .str (SX.S o), rfl, rfl, SqT.of ha1, rfl, .ref G, rfl, G, pVs gv, rfl, .inl (SqL.of hG1), rfl, flat_pVs gv, _, rfl, ?_⟩
      rw [inV_tx, if_pos (rfl : true = true)]
      refine ite2 (fun z => no H1 s1 ?_) (fun z => ?_)
      · have z' : txG gv (.str (SX.S o)) = false := by simpa using z
        show (if txG gv (.str (SX.S o)) = true then _ else _) = _
        rw [z']
        rfl
      have hb : txG gv (.str (SX.S o)) = true := by simpa using z
      have lp : (pVs al).length = al.length := by unfold pVs; rw [List.length_map]
      have lgV : (pVs gv).length = gv.length := by unfold pVs; rw [List.length_map]
      refine ⟨.ref M, rfl, M, rfl, ⟨_, SqL.of hM1⟩, fun D nD => ?_⟩
      refine lc_list (K := K) (a := M) (xs := pVs al) (fun j H' => Same H1 (hd1 D H') ∧ H' D = some (.lst (pVs ((al.take j).filter fun p => hall p o)))) ⟨hd1_of (same_upd nD) nD, upd_same⟩ (fun j H' _ z => SqL.of (hd1_le _ _ (z.1 _ _ hM1))) ?_ ?_
      · rintro j x H3 hx ⟨s3, hD⟩
        obtain ⟨p, hp, rfl⟩ := pV_at hx
        have okp := oka p (List.mem_of_getElem? hp)
        have eq := filter_snoc (f := fun p => hall p o) hp
        refine ⟨rfl, .str (SX.S p), rfl, .ref a, rfl, a, _, 1, .str (SX.S o), rfl, rfl, SqT.of (hd1_le _ _ (s3 _ _ ha1)), rfl, m, p, o, rfl, okp.1, oko.1, m6, fun H4 s4 => ⟨_, rfl, ite2 (fun e2 => ?_) (fun e2 => ?_)⟩⟩
        · refine ⟨.str (SX.S p), rfl, _, s4 _ _ hD, ?_, (s3.trans (hd1_same s4)).trans hd1_upd, ?_⟩
          · unfold pVs
            rw [List.length_map]
            have := List.length_filter_le (fun p => hall p o) (al.take j)
            rw [List.length_take] at this
            exact Nat.lt_of_lt_of_le (show _ < 256 by omega) (by decide)
          · rw [upd_same, eq, if_pos e2]
            unfold pVs
            rw [List.map_append]
            rfl
        · refine ⟨s3.trans (hd1_same s4), ?_⟩
          rw [s4 _ _ hD, eq, if_neg e2, List.append_nil]
      rintro H3 ⟨s3', hD⟩
      rw [lp, List.take_length] at hD
      have s3 : Same H H3 := s1.trans fun b o e => hd1_le _ _ (s3' _ _ e)
      have lh : (al.filter fun p => hall p o).length ≤ 128 := Nat.le_trans (List.length_filter_le ..) la
      have lhV : (pVs (al.filter fun p => hall p o)).length = (al.filter fun p => hall p o).length := by unfold pVs; rw [List.length_map]
      have emp : (pVs (al.filter fun p => hall p o)).isEmpty = (al.filter fun p => hall p o).isEmpty := by
        cases al.filter fun p => hall p o <;> rfl
      have val2 : caseF al (shownF al e) gv (.str (SX.S o)) (.tuple (Pp.ds ps)) = if (al.filter fun p => hall p o).isEmpty || decide ((Pp.ds ps).length ≠ (al.filter fun p => hall p o).length) then none else minO (((al.filter fun p => hall p o).zip (Pp.ds ps)).map fun z => shownF al e (unheldM gv [z.1]) z.2) := by
        show (if txG gv (.str (SX.S o)) = true then _ else _) = _
        rw [if_pos hb]
        rfl
      rw [val2] at no q
      obtain ⟨ra, ys, rfl, hra, ty⟩ := t2.tup_inv
      have ly := ty.length
      have lds : (Pp.ds ps).length = ps.length := by rw [Pp.ds_map, List.length_map]
      refine ⟨.ref D, rfl, Nat.zero_le _, fun e1 ne1 => ?_⟩
      have s4 := same_upd (o := HO.lst []) ne1
      refine ⟨D, e1, _, rfl, rfl, SqL.of (s4 _ _ hD), SqL.of upd_same, _, rfl, ?_⟩
      generalize upd H3 e1 (HO.lst []) = H4 at s4 ⊢
      have s04 := s3.trans s4
      have hD4 := s4 _ _ hD
      have ha4 := s04 _ _ ha
      have hra4 := s04 _ _ hra
      rw [emp]
      refine ite2 (fun z => no H4 s04 ?_) (fun z => ?_)
      · rw [z, Bool.true_or]
        rfl
      have z1 := notT2 z
      rw [z1, Bool.false_or] at no q
      refine ⟨.ref a, rfl, a, _, 2, .ref ra, rfl, rfl, SqT.of ha4, rfl, _, _, _, _, _, rfl, .ty _, .base (.tup hra4), kit_ty (kitTup (.tuple [])), _, rfl, iteF ?_⟩
      refine ⟨.ref a, rfl, a, _, 2, .ref ra, rfl, rfl, SqT.of ha4, rfl, ra, ys, rfl, .inr (SqT.of hra4), .ref D, rfl, D, _, rfl, .inl (SqL.of hD4), rfl, _, rfl, ite2 (fun z => no H4 s04 ?_) (fun z => ?_)⟩
      · rw [ly, lhV] at z
        refine if_pos (decide_eq_true (show ¬ _ = _ from fun y => ?_))
        rw [y] at z
        simp at z
      rw [ly, lhV] at z
      have en : (Pp.ds ps).length = (al.filter fun p => hall p o).length := by
        have := notF z
        have y := V.int.inj (of_decide_eq_true this)
        omega
      rw [if_neg (by rw [en]; simp)] at no q
      have okh : ∀ p ∈ al.filter fun p => hall p o, ProdOk m p := fun p hp => oka p (List.mem_filter.mp hp).1
      generalize ehs : (al.filter fun p => hall p o) = hs at *
      refine ⟨Nat.zero_le _, fun F nF => ?_⟩
      have s5 := same_upd (o := HO.lst []) nF
      have hF5 : upd H4 F (HO.lst []) F = some (.lst []) := upd_same
      generalize eH5 : upd H4 F (HO.lst []) = H5 at s5 hF5 ⊢
      have lz : (hs.zip (Pp.ds ps)).length = hs.length := by rw [List.length_zip, en, Nat.min_self]
      have a5 := s5 _ _ ha4
      refine ⟨.ref D, rfl, .ref a, rfl, a, _, 2, .ref ra, rfl, rfl, SqT.of a5, rfl, .li D, .tu ra, _, _, rfl, SqL.of (s5 _ _ hD4), SqT.of (s5 _ _ hra4), ?_⟩
      have s45 : Same H4 (hd1 F H5) := by rw [← eH5]; exact hd1_of (same_upd nF) nF
      have DF : D ≠ F := ne_of_none hD4 nF
      refine ZpG.for_zip2 (K := K) (z1 := .li D) (z2 := .tu ra) (xs1 := pVs hs) (xs2 := ys) (n := hs.length) lhV (by rw [ly, en])
        (fun j σ H' => ∃ y5 y6 y7, σ = [some (.ref M), some (.ref G), some (.ref a), some (.ref D), some (.ref F), y5, y6, y7, none] ∧ Same H4 (hd1 F H') ∧ H' F = some (.lst ((((hs.zip (Pp.ds ps)).take j).map fun z => shownF al e (unheldM gv [z.1]) z.2).map optV))) ⟨_, _, _, rfl, s45, hF5⟩ (fun j σ H' _ ⟨_, _, _, _, s, _⟩ => ⟨SqL.of (hd1_le _ _ (s _ _ hD4)), SqT.of (hd1_le _ _ (s _ _ hra4))⟩) ?_ ?_
      · rintro j v1 v2 T2 σ H6 h1 h2 nT2 ⟨y5, y6, y7, rfl, s6, hF⟩
        obtain ⟨p, hp, rfl⟩ := pV_at h1
        rw [Pp.ds_map] at ty
        obtain ⟨pj, hpj, tj⟩ := ty.at h2
        have okpp := okh p (List.mem_of_getElem? hp)
        have hz : (hs.zip (Pp.ds ps))[j]? = some (p, pj.d) := by rw [List.getElem?_zip_eq_some, Pp.ds_map, List.getElem?_map, hpj]; exact ⟨hp, rfl⟩
        have jl := (List.getElem?_eq_some_iff.mp hp).1
        have s7 := same_upd (o := HO.tup [V.str (SX.S p), v2]) nT2
        have h7 : upd H6 T2 (HO.tup [V.str (SX.S p), v2]) T2 = some (.tup [V.str (SX.S p), v2]) := upd_same
        generalize upd H6 T2 (HO.tup [V.str (SX.S p), v2]) = H7 at s7 h7 ⊢
        have s67 := s6.trans (hd1_same s7)
        have hF7 := s7 _ _ hF
        have k7 : Same H H7 := s04.trans fun b o e => hd1_le _ _ (s67 _ _ e)
        have hG7 := k7 _ _ hG
        refine ⟨T2, _, rfl, SqT.of h7, rfl, _, _, rfl, _, _, rfl, rfl, ?_⟩
        refine ⟨.ref G, rfl, G, rfl, ⟨_, SqL.of hG7⟩, fun L nL => ?_⟩
        have lgs : gv.length ≤ 81 := Nat.le_trans sub.length_le (prodsU_81 m4)
        refine lc_list (K := K) (a := G) (xs := pVs gv) (fun j H' => Same H7 (hd1 L H') ∧ H' L = some (.lst (pVs ((gv.take j).filter fun o => !hall p o)))) ⟨hd1_of (same_upd nL) nL, upd_same⟩ (fun j H' _ z => SqL.of (hd1_le _ _ (z.1 _ _ hG7))) ?_ ?_
        · rintro i x H8 hx ⟨s8, hL⟩
          obtain ⟨g, hg, rfl⟩ := pV_at hx
          have okg := prodsU_ok g (sub.subset (List.mem_of_getElem? hg))
          have eq := filter_snoc (f := fun o => !hall p o) hg
          refine ⟨rfl, .str (SX.S p), rfl, .str (SX.S g), rfl, m, p, g, rfl, okpp.1, okg.1, m6, fun H9 s9 => ⟨_, rfl, ite2 (fun e2 => ?_) (fun e2 => ?_)⟩⟩
          · refine ⟨.str (SX.S g), rfl, _, s9 _ _ hL, ?_, (s8.trans (hd1_same s9)).trans hd1_upd, ?_⟩
            · unfold pVs
              rw [List.length_map]
              have := List.length_filter_le (fun o => !hall p o) (gv.take i)
              rw [List.length_take] at this
              exact Nat.lt_of_lt_of_le (show _ < 256 by omega) (by decide)
            · rw [upd_same, eq, if_pos e2]
              unfold pVs
              rw [List.map_append]
              rfl
          · refine ⟨s8.trans (hd1_same s9), ?_⟩
            rw [s9 _ _ hL, eq, if_neg e2, List.append_nil]
        rintro H8 ⟨s8', hL⟩
        rw [lgV, List.take_length] at hL
        have s78 : Same H7 H8 := fun b o e => hd1_le _ _ (s8' _ _ e)
        have s68 := s67.trans (hd1_same s78)
        have hF8 := s78 _ _ hF7
        have k8 := k7.trans s78
        have eun : (gv.filter fun o => !hall p o) = unheldM gv [p] := by
          unfold unheldM
          congr 1
          funext o
          rw [List.any_cons, List.any_nil, Bool.or_false]
        rw [eun] at hL
        have de : pj.dep ≤ e := by
          have a := Pp.deps_mem (List.mem_of_getElem? hpj)
          have b : Pp.deps ps + 1 ≤ e + 1 := dp
          omega
        obtain ⟨e', rfl⟩ : ∃ e', e = e' + 1 := by
          have : 1 ≤ pj.dep := by cases pj <;> (show 1 ≤ _ + 1; omega)
          exact ⟨e - 1, by omega⟩
        refine ⟨.ref F, rfl, .inl ⟨rfl, _, SqL.of hF8⟩, .ref M, rfl, .ref L, rfl, v2, rfl, M, L, v2, m, al, unheldM gv [p], pj, rfl, k8 _ _ hM, hL, tj.same k8, Pp.oks_all okps pj (List.mem_of_getElem? hpj), de, oka, List.filter_sublist.trans sub, m4, la, fun H9 s9 => ?_⟩
        refine ⟨F, _, _, rfl, rfl, s9 _ _ hF8, ?_, ⟨_, _, _, rfl, (s68.trans (hd1_same s9)).trans hd1_upd, ?_⟩⟩
        · rw [List.length_map, List.length_map, List.length_take]
          exact Nat.lt_of_lt_of_le (show _ < 256 by omega) (by decide)
        · rw [upd_same, List.take_add_one, hz, List.map_append, List.map_append]
          rfl
      · rintro σ H6 ⟨y5, y6, y7, rfl, s6, hF⟩
        rw [List.take_of_length_le (by rw [lz]; exact Nat.le_refl _)] at hF
        have s06 : Same H H6 := s04.trans fun b o e => hd1_le _ _ (s6 _ _ e)
        generalize ens : ((hs.zip (Pp.ds ps)).map fun z => shownF al e (unheldM gv [z.1]) z.2) = ns at *
        refine ⟨.ref F, rfl, F, _, rfl, .inl (SqL.of hF), rfl, optV_flat ns, _, rfl, ite2 (fun z => no H6 s06 (if_pos (by rw [← optV_none]; exact z))) (fun z => ?_)⟩
        have z2 : ns.any Option.isNone = false := by rw [← optV_none]; exact notT2 z
        rw [optV_some ns z2] at hF
        have q' := q H6 s06
        rw [show minO ns = some (1 + minL (ns.filterMap id)) from if_neg (by rw [z2]; decide)] at q'
        refine ⟨.ref F, rfl, F, _, rfl, SqL.of hF, ?_, fun mv hm hle => ⟨_, _, rfl, rfl, ?_⟩⟩
        · have l1 := congrArg List.length (optV_some ns z2)
          have l2 := congrArg List.length ens
          simp only [List.length_map, lz] at l1 l2
          rw [List.length_map, ← l1, ← l2]
          cases hs with
          | nil => cases z1
          | cons x r => exact Nat.succ_pos _
        · rw [min_is hm hle]
          exact q'
theorem ok_shown_all (T : Tx K mg) : ∀ e : Nat, FnOk P w K mg base CX0 (2 * e + 6) T.f_shown T.fd_shown ["_law_menu", "_law_given_here", "_law_thing"] (sp_law_shown K e)
  | 0 => T.F_shown.ok sc_shown (fun vs H Q E h => h.elim) (fun cdv A outer s H vs Q E hr h => h.elim)
  | e + 1 => ok_shown_step T e (ok_shown_all T e)
theorem ok_shown (T : Tx K mg) : FnOk P w K mg base CX0 22 T.f_shown T.fd_shown ["_law_menu", "_law_given_here", "_law_thing"] (sp_law_shown K 8) := ok_shown_all T 8

end
end Gk

--@NEST
set_option Elab.async false
set_option linter.all false
set_option maxRecDepth 100000
set_option maxHeartbeats 1000000
set_option pp.maxSteps 1500
set_option pp.deepTerms false
namespace Gk
open PySem PySem.Spec PyProof.Rows L2
section
variable {P : Program} {w : World} {K : PySem.W.Frag} {mg : Str → Option Value} {base : Heap}
/-! ### what is given, papers drawn -/
theorem noneL {d l p : Addr} {H H1 : Hp} (f : Fr d l H H1) (h : H1 p = none) (n : p ≠ d) (k : p ≠ l) : H p = none := by
  cases e : H p with
  | none => rfl
  | some o => rw [f _ _ n k e] at h; cases h
def sp_given (K : PySem.W.Frag) : Sp := fun vs H Q _ => ∃ (d l A : Addr) (n : Int) (m : Nat) (as : List (List Nat)), vs = [.ref d, .ref A] ∧ DeckG H d l n ∧ n < 900000000 ∧ H A = some (.lst (pVs as)) ∧ A ≠ d ∧ A ≠ l ∧ as.Sublist (prodsU m) ∧ m ≤ 4 ∧ ∀ (G : Addr) (gv : List (List Nat)) (H' : Hp), DeckG H' d l (n + 100) → Fr d l H H' → H' G = some (.lst (pVs gv)) → G ≠ d → G ≠ l → gv.Sublist as → Q (.ref G) H'
theorem ok_given (T : Tx K mg) : FnOk P w K mg base CX0 2 T.f_given T.fd_given ["_law_deck_here", "_law_asked_here"] (sp_given K) := by
  refine T.F_given.ok sc_given (fun vs H Q E h => ?_) (fun cdv A outer s H vs Q E hr h => ?_)
  · obtain ⟨d, l, A, n, m, as, rfl, _⟩ := h
    rfl
  · obtain ⟨d, l, A, n, m, as, rfl, D, hn, hA, Ad, Al, sub, m4, q⟩ := h
    refine ⟨_, (pss_cons (ps_set (i := 2) sc_given.nd rfl (by first | exact .inl rfl | exact .inr rfl) (pe_call (ok_next T) (hr.mono (by decide)) (by rfl) T.g_next T.F_next.kp T.b_next .nil pass0 (pa_cons (pv 0) (pa_cons pe_int pa_nil)))) (pss_cons (ps_if (pt_cmpR op_eq (pv 2) pe_int (nomark _)) (pss_one (ps_ret (pv 1))) pss_nil) (pss_one (ps_ret (pe_lc (own := [("_law_one", 3)]) (by rfl) sc_given.nd (pi_list (pv 1)) (blkOk_by (own := [("_law_one", 3)]) (N := ["_law_deck_here", "_law_asked_here", "_law_way", "_law_one"]) (sc := defScope s_given) (by decide +kernel)) (fun _ _ _ _ _ => (pg_name (i := 3) sc_given.nd rfl (by first | exact .inl rfl | exact .inr rfl))) (fun _ _ _ _ _ => (pts_one (pt_cmpR op_gt (pe_call (ok_next T) (hr.mono (by decide)) (by rfl) T.g_next T.F_next.kp T.b_next .nil pass0 (pa_cons (pv 0) (pa_cons (pe_op op_add pe_int (pv 2)) pa_nil))) pe_int (nomark _)))) (fun _ _ _ _ _ => (pv 3))))))), ?_⟩
    have la : as.length ≤ 81 := Nat.le_trans sub.length_le (prodsU_81 m4)
    have laV : (pVs as).length = as.length := by unfold pVs; rw [List.length_map]
    refine ⟨.ref d, rfl, d, l, 3, _, rfl, D, by omega, by decide, by decide, fun H1 way D1 fr1 w0 w1 => ?_⟩
    have hA1 := fr1 _ _ Ad Al hA
    refine ⟨.int way, rfl, rfl, _, rfl, ite2 (fun z => ?_) (fun z => ?_)⟩
    · exact ⟨.ref A, rfl, q A as H1 (D1.mono (by omega)) fr1 hA1 Ad Al (List.Sublist.refl _)⟩
    refine ⟨.ref A, rfl, A, rfl, ⟨_, SqL.of hA1⟩, fun L nL => ?_⟩
    obtain ⟨Ld, Ll⟩ := D1.off nL
    refine lc_list (K := K) (a := A) (xs := pVs as) (fun j H' => DeckG H' d l (n + 1 + j) ∧ Fr d l H H' ∧ ∃ gv, H' L = some (.lst (pVs gv)) ∧ gv.Sublist (as.take j)) ⟨(D1.same (same_upd nL)).mono (by omega), fr1.trans (Fr.new nL), [], upd_same, List.nil_sublist _⟩ (fun j H' _ z => SqL.of (z.2.1 _ _ Ad Al hA)) ?_ ?_
    · rintro j x H2 hx ⟨D2, fr2, gv, hL, sg⟩
      obtain ⟨o, ho, rfl⟩ := pV_at hx
      have jl := (List.getElem?_eq_some_iff.mp ho).1
      have eq : as.take (j + 1) = as.take j ++ [o] := by rw [List.take_add_one, ho]; rfl
      refine ⟨rfl, .ref d, rfl, .int way, rfl, _, _, rfl, rfl, d, l, 2 + way, _, rfl, D2, by omega, by omega, by omega, fun H3 v D3 fr3 v0 v1 => ?_⟩
      have hL3 := fr3 _ _ Ld Ll hL
      refine ⟨_, _, rfl, rfl, _, rfl, ite2 (fun z => ?_) (fun z => ?_)⟩
      · refine ⟨.str (SX.S o), rfl, _, hL3, ?_, (D3.upd Ld Ll).mono (by omega), (fr2.trans fr3).upd (noneL fr1 nL Ld Ll), gv ++ [o], ?_, ?_⟩
        · unfold pVs
          rw [List.length_map]
          have := sg.length_le
          rw [List.length_take] at this
          exact Nat.lt_of_lt_of_le (show _ < 256 by omega) (by decide)
        · rw [upd_same]
          unfold pVs
          rw [List.map_append]
          rfl
        · rw [eq]
          exact sg.append (List.Sublist.refl _)
      · refine ⟨D3.mono (by omega), fr2.trans fr3, gv, hL3, ?_⟩
        rw [eq]
        exact sg.trans (List.sublist_append_left _ _)
    · rintro H2 ⟨D2, fr2, gv, hL, sg⟩
      rw [laV, List.take_length] at sg
      exact q L gv H2 (D2.mono (by omega)) fr2 hL Ld Ll sg
theorem noneS {p : Addr} {H H1 : Hp} (f : Same H H1) (h : H1 p = none) : H p = none := by
  cases e : H p with
  | none => rfl
  | some o => rw [f _ _ e] at h; cases h
theorem TkAll.strs {H : Hp} : ∀ os : List (List Nat), TkAll H (pVs os) (os.map fun o => PyData.str (SX.S o))
  | [] => .nil
  | o :: r => .cons (.str _) (TkAll.strs r)
theorem noLs_strs : ∀ os : List (List Nat), noLs (os.map fun o => PyData.str (SX.S o)) = true
  | [] => rfl
  | o :: r => noLs_strs r
theorem wt_strs {m : Nat} (h : m ≤ 4) : ∀ os : List (List Nat), (∀ o ∈ os, ProdOk m o) → PyData.weightAll (os.map fun o => PyData.str (SX.S o)) ≤ 5 * os.length
  | [], _ => Nat.le_refl _
  | o :: r, ok => by
    have a := wt_strs h r fun x hx => ok x (List.mem_cons_of_mem _ hx)
    have b := (ok o List.mem_cons_self).1
    have c : (SX.S o).cps.size = o.length := by show (SX.S o).length = _; rw [SX.S_len]
    show (SX.S o).cps.size + 1 + PyData.weightAll (r.map fun o => PyData.str (SX.S o)) ≤ 5 * (r.length + 1)
    omega
theorem wt_ap {m : Nat} {os : List (List Nat)} (h : m ≤ 4) (ok : ∀ o ∈ os, ProdOk m o) (l : os.length ≤ 81) {e : Nat} : (Pp.ap os).d.weight ≤ 2000 + e := by
  have a := wt_strs h os ok
  have b : (Str.ofString "apart").cps.size = 5 := by decide +kernel
  show (Str.ofString "apart").cps.size + 1 + (PyData.weightAll (os.map fun o => PyData.str (SX.S o)) + 1 + 0) ≤ _
  omega
theorem noLs_all {qs : List Pp} (h : ∀ p ∈ qs, noL p.d = true) : noLs (qs.map Pp.d) = true := by
  induction qs with
  | nil => rfl
  | cons p r ih =>
    show (noL p.d && noLs (r.map Pp.d)) = true
    rw [h p List.mem_cons_self, ih fun x hx => h x (List.mem_cons_of_mem _ hx)]
    rfl
theorem Pp.oks_of {m : Nat} : ∀ {ps : List Pp}, (∀ p ∈ ps, p.ok m) → Pp.oks m ps
  | [], _ => trivial
  | p :: r, h => ⟨h p List.mem_cons_self, Pp.oks_of fun x hx => h x (List.mem_cons_of_mem _ hx)⟩
theorem Pp.deps_le {k : Nat} : ∀ {ps : List Pp}, (∀ p ∈ ps, p.dep ≤ k) → Pp.deps ps ≤ k
  | [], _ => Nat.zero_le _
  | p :: r, h => by
    show max p.dep (Pp.deps r) ≤ k
    have a := h p List.mem_cons_self
    have b := Pp.deps_le fun x hx => h x (List.mem_cons_of_mem _ hx)
    omega
theorem Pp.ds_weight {k : Nat} : ∀ (ps : List Pp), (∀ p ∈ ps, p.d.weight ≤ k) → PyData.weightAll (Pp.ds ps) ≤ ps.length * (k + 1)
  | [], _ => Nat.zero_le _
  | p :: r, h => by
    have a := h p List.mem_cons_self
    have b := Pp.ds_weight r fun x hx => h x (List.mem_cons_of_mem _ hx)
    show p.d.weight + 1 + PyData.weightAll (Pp.ds r) ≤ (r.length + 1) * (k + 1)
    rw [Nat.add_mul, Nat.one_mul]
    omega
theorem Fr.tsG {H H' : Hp} {d l : Addr} {n : Int} (D : DeckG H d l n) (f : Fr d l H H') : Ts H H' := fun b xs e => by
  obtain ⟨_, cs, y, z, h1, h2, _⟩ := D
  exact f b _ (fun w => by rw [w, h1] at e; cases e) (fun w => by rw [w, h2] at e; cases e) e
def bdP : Nat → Nat
  | 0 => 200
  | e + 1 => 200 + 130 * bdP e
def wbP : Nat → Nat
  | 0 => 2000
  | e + 1 => 2000 + 130 * (wbP e + 1)
theorem bdP_le {e : Nat} (h : e ≤ 2) : bdP e ≤ 4000000 := by
  match e, h with
  | 0, _ => decide
  | 1, _ => decide
  | 2, _ => decide
def sp_paper (K : PySem.W.Frag) : Nat → Sp
  | 0 => fun _ _ _ _ => False
  | e + 1 => fun vs H Q _ => ∃ (d l M G : Addr) (n : Int) (m k : Nat) (al gv : List (List Nat)), vs = [.ref d, .ref M, .ref G, .int (k : Nat)] ∧ k ≤ e ∧ DeckG H d l n ∧ n + bdP e < 900000000 ∧ H M = some (.lst (pVs al)) ∧ M ≠ d ∧ M ≠ l ∧ H G = some (.lst (pVs gv)) ∧ G ≠ d ∧ G ≠ l ∧ (∀ p ∈ al, ProdOk m p) ∧ al.length ≤ 128 ∧ gv.Sublist (prodsU m) ∧ m ≤ 4 ∧ ∀ (v : V) (p : Pp) (H' : Hp), DeckG H' d l (n + bdP e) → Fr d l H H' → Tk H' v p.d → noL p.d = true → p.ok m → p.dep ≤ e + 1 → p.d.weight ≤ wbP e → Q v H'
theorem ok_paper_step (T : Tx K mg) (e : Nat) (ih : FnOk P w K mg base CX0 (2 * e + 4) T.f_paper T.fd_paper ["_law_deck_here", "_law_menu", "_law_given_here", "_law_deep"] (sp_paper K e)) : FnOk P w K mg base CX0 (2 * e + 6) T.f_paper T.fd_paper ["_law_deck_here", "_law_menu", "_law_given_here", "_law_deep"] (sp_paper K (e + 1)) := by
  refine T.F_paper.ok sc_paper (fun vs H Q E h => ?_) (fun cdv A outer s H vs Q E hr h => ?_)
  · obtain ⟨d, l, M, G, n, m, k, al, gv, rfl, _⟩ := h
    rfl
  · obtain ⟨d, l, M, G, n, m, k, al, gv, rfl, ke, D, hn, hM, Md, Ml, hG, Gd, Gl, oka, la, sub, m4, q⟩ := h
    refine ⟨_, (pss_cons (ps_set (i := 4) sc_paper.nd rfl (by first | exact .inl rfl | exact .inr rfl) (pe_call (ok_next T) (hr.mono (by omega)) (by rfl) T.g_next T.F_next.kp T.b_next .nil pass0 (pa_cons (pv 0) (pa_cons pe_int pa_nil)))) (pss_cons (ps_set (i := 5) sc_paper.nd rfl (by first | exact .inl rfl | exact .inr rfl) (pe_cmpR op_eq (pe_call (ok_next T) (hr.mono (by omega)) (by rfl) T.g_next T.F_next.kp T.b_next .nil pass0 (pa_cons (pv 0) (pa_cons pe_int pa_nil))) pe_int (nomark _))) (pss_cons (ps_if (pt_cut (pw_or (pt_cmpR op_eq (pv 4) pe_int (nomark _)) (pw_or (pt_cmpR op_eq (pv 3) pe_int (nomark _)) (pw_or1 (pt_cmpR (NeL.op_eqN hr.units) (pv 2) (pe_lst pa_nil) (nomark _))))).pt) (pss_cons (ps_set (i := 6) sc_paper.nd rfl (by first | exact .inl rfl | exact .inr rfl) (pe_lst pa_nil)) (pss_cons (ps_for PassesOwn.never rfl (pi_list (pv 2)) (pg_name (i := 7) sc_paper.nd rfl (by first | exact .inl rfl | exact .inr rfl)) (pss_cons (ps_setLc (i := 8) (own := [("_law_product_here", 10)]) (by rfl) sc_paper.nd rfl rfl (sw_true rfl rfl rfl (by decide +kernel)) (pi_list (pv 1)) (blkOk_by (own := [("_law_product_here", 10)]) (N := ["_law_deck_here", "_law_menu", "_law_given_here", "_law_deep", "_law_way", "_law_careless", "_law_some", "_law_one", "_law_near", "_law_papers", "_law_product_here", "_law_left", "_law_other"]) (sc := defScope s_paper) (by decide +kernel)) (fun _ _ _ _ _ => (pg_name (i := 10) sc_paper.nd rfl (by first | exact .inl rfl | exact .inr rfl))) (fun _ _ _ _ _ => (pts_one (pt_val (pe_call (ok_inside T) (hr.mono (by omega)) (by rfl) T.g_inside T.F_inside.kp T.b_inside .nil pass0 (pa_cons (pv 10) (pa_cons (pv 7) pa_nil)))))) (fun _ _ _ _ _ => (pv 10))) (pss_cons (ps_setLc (i := 8) (own := [("_law_product_here", 10)]) (by rfl) sc_paper.nd rfl rfl (sw_true rfl rfl rfl (by decide +kernel)) (pi_list (pv 8)) (blkOk_by (own := [("_law_product_here", 10)]) (N := ["_law_deck_here", "_law_menu", "_law_given_here", "_law_deep", "_law_way", "_law_careless", "_law_some", "_law_one", "_law_near", "_law_papers", "_law_product_here", "_law_left", "_law_other"]) (sc := defScope s_paper) (by decide +kernel)) (fun _ _ _ _ _ => (pg_name (i := 10) sc_paper.nd rfl (by first | exact .inl rfl | exact .inr rfl))) (fun _ _ _ _ _ => (pts_one (pt_val (pe_call (ok_holds_any T) (hr.mono (by omega)) (by rfl) T.g_holds_any T.F_holds_any.kp T.b_holds_any .nil pass0 (pa_cons (pv 10) (pa_cons (pv 6) pa_nil)))))) (fun _ _ _ _ _ => (pv 10))) (pss_one (ps_if (pt_cut (pw_and (pt_cmpR op_gt (pe_call (ok_next T) (hr.mono (by omega)) (by rfl) T.g_next T.F_next.kp T.b_next .nil pass0 (pa_cons (pv 0) (pa_cons pe_int pa_nil))) pe_int (nomark _)) (pw_and1 (pw_or (pt_cmpR (NeL.op_eqN hr.units) (pv 8) (pe_lst pa_nil) (nomark _)) (pw_or1 (pt_val (pv 5)))).pt)).pt) (pss_one (ps_expr (pe_bm PySem.F.plainAttrs_list PySem.F.slot_list_append PySem.F.type_list_append mt_append (pv 6) (pa_cons (pv 7) pa_nil)))) pss_nil))))) (pss_one (ps_ret (pe_tup (pa_cons pe_str (pa_cons (pe_callTy call_tuple_of (by rfl) T.m_tuple (by decide +kernel) (pa_cons (pv 6) pa_nil)) pa_nil))))))) pss_nil) (pss_cons (ps_set (i := 7) sc_paper.nd rfl (by first | exact .inl rfl | exact .inr rfl) (pe_ix ix_list (pv 2) (pe_call (ok_next T) (hr.mono (by omega)) (by rfl) T.g_next T.F_next.kp T.b_next .nil pass0 (pa_cons (pv 0) (pa_cons (pe_callB call_len_seq (by rfl) T.m_len PySem.boot_len (pa_cons (pv 2) pa_nil)) pa_nil))) (fun _ _ => rfl))) (pss_cons (ps_set (i := 9) sc_paper.nd rfl (by first | exact .inl rfl | exact .inr rfl) (pe_lst pa_nil)) (pss_cons (ps_for PassesOwn.never rfl (pi_list (pv 1)) (pg_name (i := 10) sc_paper.nd rfl (by first | exact .inl rfl | exact .inr rfl)) (pss_one (ps_if (pt_val (pe_call (ok_inside T) (hr.mono (by omega)) (by rfl) T.g_inside T.F_inside.kp T.b_inside .nil pass0 (pa_cons (pv 10) (pa_cons (pv 7) pa_nil)))) (pss_cons (ps_setLc (i := 11) (own := [("_law_other", 12)]) (by rfl) sc_paper.nd rfl rfl (sw_true rfl rfl rfl (by decide +kernel)) (pi_list (pv 2)) (blkOk_by (own := [("_law_other", 12)]) (N := ["_law_deck_here", "_law_menu", "_law_given_here", "_law_deep", "_law_way", "_law_careless", "_law_some", "_law_one", "_law_near", "_law_papers", "_law_product_here", "_law_left", "_law_other"]) (sc := defScope s_paper) (by decide +kernel)) (fun _ _ _ _ _ => (pg_name (i := 12) sc_paper.nd rfl (by first | exact .inl rfl | exact .inr rfl))) (fun _ _ _ _ _ => (pts_one (pt_not (pt_val (pe_call (ok_inside T) (hr.mono (by omega)) (by rfl) T.g_inside T.F_inside.kp T.b_inside .nil pass0 (pa_cons (pv 10) (pa_cons (pv 12) pa_nil))))))) (fun _ _ _ _ _ => (pv 12))) (pss_one (ps_expr (pe_bm PySem.F.plainAttrs_list PySem.F.slot_list_append PySem.F.type_list_append mt_append (pv 9) (pa_cons (pe_call (ih) (hr.mono (by omega)) (by rfl) T.g_paper T.F_paper.kp T.b_paper .nil pass0 (pa_cons (pv 0) (pa_cons (pv 1) (pa_cons (pe_ix ix_list (pe_lst (pa_cons (pv 11) (pa_cons (pv 2) pa_nil))) (pe_callTy call_int1 (by rfl) T.m_int (by decide +kernel) (pa_cons (pv 5) pa_nil)) (fun _ _ => rfl)) (pa_cons (pe_op op_sub (pv 3) pe_int) pa_nil))))) pa_nil))))) pss_nil))) (pss_one (ps_ret (pe_tup (pa_cons pe_str (pa_cons (pv 7) (pa_cons (pe_callTy call_tuple_of (by rfl) T.m_tuple (by decide +kernel) (pa_cons (pv 9) pa_nil)) pa_nil)))))))))))), ?_⟩
    have m6 : m ≤ 6 := by omega
    have lg : gv.length ≤ 81 := Nat.le_trans sub.length_le (prodsU_81 m4)
    have lgV : (pVs gv).length = gv.length := by unfold pVs; rw [List.length_map]
    have lp : (pVs al).length = al.length := by unfold pVs; rw [List.length_map]
    have b200 : 200 ≤ bdP e := by cases e <;> (show 200 ≤ _; unfold bdP; omega)
    refine ⟨.ref d, rfl, d, l, 4, _, rfl, D, by omega, by decide, by decide, fun H1 way D1 fr1 w0 w1 => ?_⟩
    refine ⟨.ref d, rfl, d, l, 8, _, rfl, D1, by omega, by decide, by decide, fun H2 cr D2 fr2 c0 c1 => ⟨rfl, ?_⟩⟩
    generalize decide (V.int cr = V.int 5) = ca
    have fr02 := fr1.trans fr2
    refine ⟨fun c H' => Same H2 H' ∧ (c = false → k ≠ 0 ∧ gv ≠ []), ?_, ?_⟩
    · refine ⟨.int way, rfl, rfl, _, rfl, ite2 (fun _ => ⟨Same.refl _, fun z => by cases z⟩) (fun _ => ?_)⟩
      refine ⟨.int (k : Nat), rfl, rfl, _, rfl, ite2 (fun _ => ⟨Same.refl _, fun z => by cases z⟩) (fun z1 => ?_)⟩
      refine ⟨.ref G, rfl, Nat.zero_le _, fun e0 ne0 => ?_⟩
      have s1 := same_upd (o := HO.lst []) ne0
      refine ⟨G, e0, _, rfl, rfl, SqL.of (s1 _ _ (fr02 _ _ Gd Gl hG)), SqL.of upd_same, _, rfl, s1, fun z2 => ⟨fun z => z1 (by rw [z]; exact decide_eq_true rfl), fun z => ?_⟩⟩
      rw [z] at z2
      cases z2
    rintro c H3 ⟨s3, ne⟩
    have fr03 := fr02.trans (Fr.of s3)
    have D3 := D2.same s3
    refine ite2 (fun _ => ?_) (fun zc => ?_)
    · refine ⟨Nat.zero_le _, fun S nS => ?_⟩
      have nS0 : H S = none := noneL fr03 nS (D3.off nS).1 (D3.off nS).2
      obtain ⟨Sd, Sl⟩ := D3.off nS
      have D4 := D3.same (same_upd (o := HO.lst []) nS)
      have fr04 := fr03.trans (Fr.new (o := HO.lst []) nS)
      have hS4 : upd H3 S (HO.lst []) S = some (.lst []) := upd_same
      generalize upd H3 S (HO.lst []) = H4 at D4 fr04 hS4 ⊢
      refine ⟨.ref G, rfl, G, rfl, ⟨_, SqL.of (fr04 _ _ Gd Gl hG)⟩, ?_⟩
      refine for_list (K := K) (a := G) (xs := pVs gv) (fun j σ H' => ∃ y7 y8, σ = [some (.ref d), some (.ref M), some (.ref G), some (.int (k : Nat)), some (.int way), some (.bl ca), some (.ref S), y7, y8, none, none, none, none] ∧ DeckG H' d l (n + 2 + j) ∧ Fr d l H H' ∧ ∃ os, H' S = some (.lst (pVs os)) ∧ os.Sublist (gv.take j)) ⟨_, _, rfl, D4.mono (by omega), fr04, [], hS4, List.nil_sublist _⟩ (fun j σ H' _ ⟨_, _, _, _, f, _⟩ => SqL.of (f _ _ Gd Gl hG)) ?_ ?_
      · rintro j x σ H5 hx ⟨y7, y8, rfl, D5, fr5, os, hS, so⟩
        obtain ⟨o, ho, rfl⟩ := pV_at hx
        have oko := prodsU_ok o (sub.subset (List.mem_of_getElem? ho))
        have jl := (List.getElem?_eq_some_iff.mp ho).1
        have hM5 := fr5 _ _ Md Ml hM
        refine ⟨.ref M, rfl, M, rfl, ⟨_, SqL.of hM5⟩, fun N nN => ?_⟩
        refine lc_list (K := K) (a := M) (xs := pVs al) (fun i H' => Same H5 (hd1 N H') ∧ H' N = some (.lst (pVs ((al.take i).filter fun p => hall p o)))) ⟨hd1_of (same_upd nN) nN, upd_same⟩ (fun i H' _ z => SqL.of (hd1_le _ _ (z.1 _ _ hM5))) ?_ ?_
        · rintro i v H6 hv ⟨s6, hN⟩
          obtain ⟨p, hp, rfl⟩ := pV_at hv
          have okp := oka p (List.mem_of_getElem? hp)
          have eq := filter_snoc (f := fun p => hall p o) hp
          refine ⟨rfl, .str (SX.S p), rfl, .str (SX.S o), rfl, m, p, o, rfl, okp.1, oko.1, m6, fun H7 s7 => ⟨_, rfl, ite2 (fun e2 => ?_) (fun e2 => ?_)⟩⟩
          · refine ⟨.str (SX.S p), rfl, _, s7 _ _ hN, ?_, (s6.trans (hd1_same s7)).trans hd1_upd, ?_⟩
            · unfold pVs
              rw [List.length_map]
              have := List.length_filter_le (fun p => hall p o) (al.take i)
              rw [List.length_take] at this
              exact Nat.lt_of_lt_of_le (show _ < 256 by omega) (by decide)
            · rw [upd_same, eq, if_pos e2]
              unfold pVs
              rw [List.map_append]
              rfl
          · refine ⟨s6.trans (hd1_same s7), ?_⟩
            rw [s7 _ _ hN, eq, if_neg e2, List.append_nil]
        rintro H6 ⟨s6', hN⟩
        rw [lp, List.take_length] at hN
        have s56 : Same H5 H6 := fun b o e => hd1_le _ _ (s6' _ _ e)
        have lh : (al.filter fun p => hall p o).length ≤ 128 := Nat.le_trans (List.length_filter_le ..) la
        have lhV : (pVs (al.filter fun p => hall p o)).length = (al.filter fun p => hall p o).length := by unfold pVs; rw [List.length_map]
        have okh : ∀ p ∈ al.filter fun p => hall p o, ProdOk m p := fun p hp => oka p (List.mem_filter.mp hp).1
        generalize (al.filter fun p => hall p o) = hs at lh lhV okh hN
        have hS6 := s56 _ _ hS
        have los : os.length ≤ 81 := by
          have := so.length_le
          rw [List.length_take] at this
          omega
        refine ⟨.ref N, rfl, N, rfl, ⟨_, SqL.of hN⟩, fun O nO => ?_⟩
        refine lc_list (K := K) (a := N) (xs := pVs hs) (fun i H' => Same H6 (hd1 O H') ∧ H' O = some (.lst (pVs ((hs.take i).filter fun p => os.any fun o => hall p o)))) ⟨hd1_of (same_upd nO) nO, upd_same⟩ (fun i H' _ z => SqL.of (hd1_le _ _ (z.1 _ _ hN))) ?_ ?_
        · rintro i v H7 hv ⟨s7, hO⟩
          obtain ⟨p, hp, rfl⟩ := pV_at hv
          have okp := okh p (List.mem_of_getElem? hp)
          have il := (List.getElem?_eq_some_iff.mp hp).1
          have eq := filter_snoc (f := fun p => os.any fun o => hall p o) hp
          refine ⟨rfl, .str (SX.S p), rfl, .ref S, rfl, S, m, p, os, rfl, hd1_le _ _ (s7 _ _ hS6), okp, fun o' ho' => prodsU_ok o' (sub.subset ((List.take_sublist _ _).subset (so.subset ho'))), m6, by omega, fun H8 s8 => ⟨_, rfl, ite2 (fun e2 => ?_) (fun e2 => ?_)⟩⟩
          · refine ⟨.str (SX.S p), rfl, _, s8 _ _ hO, ?_, (s7.trans (hd1_same s8)).trans hd1_upd, ?_⟩
            · unfold pVs
              rw [List.length_map]
              have := List.length_filter_le (fun p => os.any fun o => hall p o) (hs.take i)
              rw [List.length_take] at this
              exact Nat.lt_of_lt_of_le (show _ < 256 by omega) (by decide)
            · rw [upd_same, eq, if_pos e2]
              unfold pVs
              rw [List.map_append]
              rfl
          · refine ⟨s7.trans (hd1_same s8), ?_⟩
            rw [s8 _ _ hO, eq, if_neg e2, List.append_nil]
        rintro H7 ⟨s7', hO⟩
        have s57 : Same H5 H7 := s56.trans fun b o e => hd1_le _ _ (s7' _ _ e)
        have fr7 := fr5.trans (Fr.of s57)
        have D7 := D5.same s57
        have hS7 := s57 _ _ hS
        refine ⟨fun c H' => DeckG H' d l (n + 3 + j) ∧ Fr d l H H' ∧ H' S = some (.lst (pVs os)), ?_, ?_⟩
        · refine ⟨.ref d, rfl, d, l, 3, _, rfl, D7, by omega, by decide, by decide, fun H8 v D8 fr8 v0 v1 => ?_⟩
          have D8' : DeckG H8 d l (n + 3 + j) := D8.mono (by omega)
          have f8 := fr7.trans fr8
          have hS8 := fr8 _ _ Sd Sl hS7
          refine ⟨_, _, rfl, rfl, _, rfl, ite2 (fun _ => ?_) (fun _ => ⟨D8', f8, hS8⟩)⟩
          have Od := D5.off (noneS s56 nO)
          refine ⟨.ref O, rfl, Nat.zero_le _, fun e0 ne0 => ?_⟩
          have s9 := same_upd (o := HO.lst []) ne0
          refine ⟨O, e0, _, rfl, rfl, SqL.of (s9 _ _ (fr8 _ _ Od.1 Od.2 hO)), SqL.of upd_same, _, rfl, ite2 (fun _ => ⟨D8'.same s9, f8.trans (Fr.of s9), s9 _ _ hS8⟩) (fun _ => ?_)⟩
          exact ⟨.bl ca, rfl, _, rfl, D8'.same s9, f8.trans (Fr.of s9), s9 _ _ hS8⟩
        · rintro c H8 ⟨D8, f8, hS8⟩
          have eq : gv.take (j + 1) = gv.take j ++ [o] := by rw [List.take_add_one, ho]; rfl
          refine ite2 (fun _ => ?_) (fun _ => ?_)
          · refine ⟨.ref S, rfl, .inl ⟨rfl, _, SqL.of hS8⟩, .str (SX.S o), rfl, S, _, _, rfl, rfl, hS8, ?_, ⟨_, _, rfl, (D8.upd Sd Sl).mono (by omega), f8.upd nS0, os ++ [o], ?_, ?_⟩⟩
            · unfold pVs
              rw [List.length_map]
              exact Nat.lt_of_lt_of_le (show _ < 256 by omega) (by decide)
            · rw [upd_same]
              unfold pVs
              rw [List.map_append]
              rfl
            · rw [eq]
              exact so.append (List.Sublist.refl _)
          · refine ⟨_, _, rfl, D8.mono (by omega), f8, os, hS8, ?_⟩
            rw [eq]
            exact so.trans (List.sublist_append_left _ _)
      · rintro σ H5 ⟨y7, y8, rfl, D5, fr5, os, hS, so⟩
        rw [lgV, List.take_length] at so
        have los : os.length ≤ 81 := Nat.le_trans so.length_le lg
        have oko : ∀ o ∈ os, ProdOk m o := fun o ho => prodsU_ok o (sub.subset (so.subset ho))
        refine ⟨.ref S, rfl, S, pVs os, rfl, .inl ⟨SqL.of hS, fun t nt => ?_⟩⟩
        have s6 := same_upd (o := HO.tup (pVs os)) nt
        have h6 : upd H5 t (HO.tup (pVs os)) t = some (.tup (pVs os)) := upd_same
        generalize upd H5 t (HO.tup (pVs os)) = H6 at s6 h6 ⊢
        refine ⟨by show 2 ≤ sizeLine; decide, fun r nr => ?_⟩
        have s7 := same_upd (o := HO.tup [V.str apS, .ref t]) nr
        refine q (.ref r) (.ap os) _ ((D5.same (s6.trans s7)).mono (by omega)) (fr5.trans (Fr.of (s6.trans s7))) ?_ ?_ (so.trans sub) (by show 1 ≤ _; omega) ?_
        · exact .tup upd_same (.cons (.str _) (.cons (.tup (s7 _ _ h6) (TkAll.strs os)) .nil))
        · show noLs [_, _] = true
          show (true && (noLs (os.map fun o => PyData.str (SX.S o)) && true)) = true
          rw [noLs_strs]
          rfl
        · exact Nat.le_trans (wt_ap (e := 0) m4 oko los) (by cases e <;> (unfold wbP; omega))
    · obtain ⟨ne0, gne⟩ := ne (notT2 zc)
      obtain ⟨e', rfl⟩ : ∃ e', e = e' + 1 := ⟨e - 1, by omega⟩
      obtain ⟨k', rfl⟩ : ∃ k', k = k' + 1 := ⟨k - 1, by omega⟩
      have gpos : 0 < gv.length := List.length_pos_iff.mpr gne
      have hG3 := fr03 _ _ Gd Gl hG
      refine ⟨.ref G, rfl, .ref d, rfl, .ref G, rfl, G, pVs gv, rfl, .inl (SqL.of hG3), d, l, (pVs gv).length, _, rfl, D3, by omega, by rw [lgV]; omega, by rw [lgV]; omega, fun H4 v D4 fr4 v0 v1 => ?_⟩
      rw [lgV] at v1
      have fr04 := fr03.trans fr4
      obtain ⟨o, ho⟩ : ∃ o, gv[v.toNat]? = some o := ⟨_, List.getElem?_eq_getElem (by omega)⟩
      have oko := prodsU_ok o (sub.subset (List.mem_of_getElem? ho))
      refine ⟨G, pVs gv, v.toNat, .str (SX.S o), rfl, by rw [Int.toNat_of_nonneg v0], SqL.of (fr04 _ _ Gd Gl hG), atI_nat (by unfold pVs; rw [List.getElem?_map, ho]; rfl), ?_⟩
      refine ⟨Nat.zero_le _, fun S nS => ?_⟩
      have nS0 : H S = none := noneL fr04 nS (D4.off nS).1 (D4.off nS).2
      obtain ⟨Sd, Sl⟩ := D4.off nS
      have D5 := D4.same (same_upd (o := HO.lst []) nS)
      have fr05 := fr04.trans (Fr.new (o := HO.lst []) nS)
      have hS5 : upd H4 S (HO.lst []) S = some (.lst []) := upd_same
      generalize upd H4 S (HO.lst []) = H5 at D5 fr05 hS5 ⊢
      refine ⟨.ref M, rfl, M, rfl, ⟨_, SqL.of (fr05 _ _ Md Ml hM)⟩, ?_⟩
      refine for_list (K := K) (a := M) (xs := pVs al) (fun j σ H' => ∃ y10 y11, σ = [some (.ref d), some (.ref M), some (.ref G), some (.int ((k' + 1 : Nat) : Nat)), some (.int way), some (.bl ca), none, some (.str (SX.S o)), none, some (.ref S), y10, y11, none] ∧ DeckG H' d l (n + 10 + j * bdP e') ∧ Fr d l H H' ∧ ∃ (us : List V) (qs : List Pp), H' S = some (.lst us) ∧ us.length ≤ j ∧ TkAll H' us (qs.map Pp.d) ∧ ∀ p ∈ qs, noL p.d = true ∧ p.ok m ∧ p.dep ≤ e' + 1 ∧ p.d.weight ≤ wbP e') ⟨_, _, rfl, D5.mono (by omega), fr05, [], [], hS5, Nat.zero_le _, .nil, fun p hp => by cases hp⟩ (fun j σ H' _ ⟨_, _, _, _, f, _⟩ => SqL.of (f _ _ Md Ml hM)) ?_ ?_
      · rintro j x σ H6 hx ⟨y10, y11, rfl, D6, fr6, us, qs, hS, lus, tus, okq⟩
        obtain ⟨p, hp, rfl⟩ := pV_at hx
        have okp := oka p (List.mem_of_getElem? hp)
        have jl := (List.getElem?_eq_some_iff.mp hp).1
        have mulj : ((j + 1 : Nat) : Int) * (bdP e' : Int) = j * bdP e' + bdP e' := by push_cast; rw [Int.add_mul, Int.one_mul]
        have jm : (j : Int) * (bdP e' : Int) ≤ 128 * bdP e' := Int.mul_le_mul_of_nonneg_right (by omega) (by omega)
        have bde : bdP (e' + 1) = 200 + 130 * bdP e' := rfl
        refine ⟨.str (SX.S p), rfl, .str (SX.S o), rfl, m, p, o, rfl, okp.1, oko.1, m6, fun H7 s7 => ⟨_, rfl, ite2 (fun e2 => ?_) (fun e2 => ?_)⟩⟩
        · have fr7 := fr6.trans (Fr.of s7)
          have D7 := D6.same s7
          have hG7 := fr7 _ _ Gd Gl hG
          have hS7 := s7 _ _ hS
          refine ⟨.ref G, rfl, G, rfl, ⟨_, SqL.of hG7⟩, fun L nL => ?_⟩
          refine lc_list (K := K) (a := G) (xs := pVs gv) (fun j H' => Same H7 (hd1 L H') ∧ H' L = some (.lst (pVs ((gv.take j).filter fun o => !hall p o)))) ⟨hd1_of (same_upd nL) nL, upd_same⟩ (fun j H' _ z => SqL.of (hd1_le _ _ (z.1 _ _ hG7))) ?_ ?_
          · rintro i x H8 hx ⟨s8, hL⟩
            obtain ⟨g, hg, rfl⟩ := pV_at hx
            have okg := prodsU_ok g (sub.subset (List.mem_of_getElem? hg))
            have eq := filter_snoc (f := fun o => !hall p o) hg
            refine ⟨rfl, .str (SX.S p), rfl, .str (SX.S g), rfl, m, p, g, rfl, okp.1, okg.1, m6, fun H9 s9 => ⟨_, rfl, ite2 (fun e2 => ?_) (fun e2 => ?_)⟩⟩
            · refine ⟨.str (SX.S g), rfl, _, s9 _ _ hL, ?_, (s8.trans (hd1_same s9)).trans hd1_upd, ?_⟩
              · unfold pVs
                rw [List.length_map]
                have := List.length_filter_le (fun o => !hall p o) (gv.take i)
                rw [List.length_take] at this
                exact Nat.lt_of_lt_of_le (show _ < 256 by omega) (by decide)
              · rw [upd_same, eq, if_pos e2]
                unfold pVs
                rw [List.map_append]
                rfl
            · refine ⟨s8.trans (hd1_same s9), ?_⟩
              rw [s9 _ _ hL, eq, if_neg e2, List.append_nil]
          rintro H8 ⟨s8', hL⟩
          rw [lgV, List.take_length] at hL
          have s78 : Same H7 H8 := fun b o e => hd1_le _ _ (s8' _ _ e)
          have D8 := D7.same s78
          obtain ⟨Ld, Ll⟩ := D7.off nL
          have fr8 := fr7.trans (Fr.of s78)
          have hS8 := s78 _ _ hS7
          have hG8 := s78 _ _ hG7
          have pick : ∃ g' gv', atI [V.ref L, V.ref G] (if ca = true then 1 else 0) = some (.ref g') ∧ H8 g' = some (.lst (pVs gv')) ∧ g' ≠ d ∧ g' ≠ l ∧ gv'.Sublist (prodsU m) := by
            cases ca with
            | true => exact ⟨G, gv, rfl, hG8, Gd, Gl, sub⟩
            | false => exact ⟨L, _, rfl, hL, Ld, Ll, List.filter_sublist.trans sub⟩
          obtain ⟨g', gv', pa, pg, gd, gl, psub⟩ := pick
          refine ⟨.ref S, rfl, .inl ⟨rfl, _, SqL.of hS8⟩, .ref d, rfl, .ref M, rfl, .ref L, rfl, .ref G, rfl, by show 2 ≤ sizeLine; decide, fun q2 nq2 => ?_⟩
          have s9 := same_upd (o := HO.lst [V.ref L, V.ref G]) nq2
          have h9 : upd H8 q2 (HO.lst [V.ref L, V.ref G]) q2 = some (.lst [V.ref L, V.ref G]) := upd_same
          generalize upd H8 q2 (HO.lst [V.ref L, V.ref G]) = H9 at s9 h9 ⊢
          have fr9 := fr8.trans (Fr.of s9)
          refine ⟨.bl ca, rfl, .inr ⟨ca, rfl, q2, _, _, .ref g', rfl, rfl, SqL.of h9, pa, ?_⟩⟩
          refine ⟨.int ((k' + 1 : Nat) : Int), rfl, _, _, rfl, rfl, ?_⟩
          refine ⟨d, l, M, g', n + 10 + j * bdP e', m, k', al, gv', by show [V.ref d, V.ref M, V.ref g', V.int (((k' + 1 : Nat) : Int) - 1)] = _; rw [show (((k' + 1 : Nat) : Int) - 1) = ((k' : Nat) : Int) by omega], by omega, D8.same s9, by omega, fr9 _ _ Md Ml hM, Md, Ml, s9 _ _ pg, gd, gl, oka, la, psub, m4, fun v p' H10 D10 fr10 tk nl okp' dp' wp' => ?_⟩
          have fr610 : Fr d l H6 H10 := (Fr.of (s7.trans (s78.trans s9))).trans fr10
          have hS10 := fr610 _ _ Sd Sl hS
          have tsx := Ts.set (ys := us ++ [v]) hS10
          refine ⟨S, us, v, rfl, rfl, hS10, Nat.lt_of_le_of_lt lus (Nat.lt_of_lt_of_le (show _ < 256 by omega) (by decide)), ⟨_, _, rfl, (D10.upd Sd Sl).mono (by rw [mulj]; omega), (fr6.trans fr610).upd nS0, us ++ [v], qs ++ [p'], upd_same, by rw [List.length_append]; exact Nat.succ_le_succ lus, ?_, ?_⟩⟩
          · rw [List.map_append]
            exact TkAll.append (TkAll.ts ((Fr.tsG D6 fr610).trans tsx) tus (noLs_all fun p hp => (okq p hp).1)) (.cons (tk.ts tsx nl) .nil)
          · intro p hp
            rcases List.mem_append.mp hp with hp | hp
            · exact okq p hp
            · rw [List.mem_singleton.mp hp]
              exact ⟨nl, okp', dp', wp'⟩
        · exact ⟨_, _, rfl, (D6.same s7).mono (by rw [mulj]; omega), fr6.trans (Fr.of s7), us, qs, s7 _ _ hS, by omega, tus.same s7, okq⟩
      · rintro σ H6 ⟨y10, y11, rfl, D6, fr6, us, qs, hS, lus, tus, okq⟩
        rw [lp] at lus
        have lq : qs.length ≤ 128 := by
          have := tus.length
          rw [List.length_map] at this
          omega
        have bde : bdP (e' + 1) = 200 + 130 * bdP e' := rfl
        have am : ((pVs al).length : Int) * (bdP e' : Int) ≤ 128 * bdP e' := Int.mul_le_mul_of_nonneg_right (by omega) (by omega)
        refine ⟨.str (SX.S o), rfl, .ref S, rfl, S, us, rfl, .inl ⟨SqL.of hS, fun t nt => ?_⟩⟩
        have s7 := same_upd (o := HO.tup us) nt
        have h7 : upd H6 t (HO.tup us) t = some (.tup us) := upd_same
        generalize upd H6 t (HO.tup us) = H7 at s7 h7 ⊢
        refine ⟨by show 3 ≤ sizeLine; decide, fun r nr => ?_⟩
        have s8 := same_upd (o := HO.tup [V.str caS, .str (SX.S o), .ref t]) nr
        have nls := noLs_all fun p hp => (okq p hp).1
        refine q (.ref r) (.ca o qs) _ ((D6.same (s7.trans s8)).mono (by omega)) (fr6.trans (Fr.of (s7.trans s8))) ?_ ?_ ⟨oko, Pp.oks_of fun p hp => (okq p hp).2.1⟩ (by show Pp.deps qs + 1 ≤ _; have := Pp.deps_le fun p hp => (okq p hp).2.2.1; omega) ?_
        · refine .tup upd_same (.cons (.str _) (.cons (.str _) (.cons (.tup (s8 _ _ h7) ?_) .nil)))
          rw [Pp.ds_map]
          exact (tus.same (s7.trans s8))
        · show (true && (true && (noLs (Pp.ds qs) && true))) = true
          rw [Pp.ds_map, nls]
          rfl
        · have a := Pp.ds_weight qs fun p hp => (okq p hp).2.2.2
          have b : (Str.ofString "case").cps.size = 4 := by decide +kernel
          have c : (SX.S o).cps.size = o.length := by show (SX.S o).length = _; rw [SX.S_len]
          have c' := oko.1
          have dm : qs.length * (wbP e' + 1) ≤ 128 * (wbP e' + 1) := Nat.mul_le_mul_right _ lq
          show (Str.ofString "case").cps.size + 1 + ((SX.S o).cps.size + 1 + (PyData.weightAll (Pp.ds qs) + 1 + 0)) ≤ 2000 + 130 * (wbP e' + 1)
          omega
theorem ok_paper_all (T : Tx K mg) : ∀ e : Nat, FnOk P w K mg base CX0 (2 * e + 4) T.f_paper T.fd_paper ["_law_deck_here", "_law_menu", "_law_given_here", "_law_deep"] (sp_paper K e)
  | 0 => T.F_paper.ok sc_paper (fun vs H Q E h => h.elim) (fun cdv A outer s H vs Q E hr h => h.elim)
  | e + 1 => ok_paper_step T e (ok_paper_all T e)
theorem ok_paper (T : Tx K mg) : FnOk P w K mg base CX0 10 T.f_paper T.fd_paper ["_law_deck_here", "_law_menu", "_law_given_here", "_law_deep"] (sp_paper K 3) := ok_paper_all T 3

end
end Gk

--@NEST
set_option Elab.async false
set_option linter.all false
set_option maxRecDepth 100000
set_option maxHeartbeats 1000000
set_option pp.maxSteps 1500
set_option pp.deepTerms false
namespace Gk
open PySem PySem.Spec PyProof.Rows L2
/-! ### d != {}, d == {} of any dict -/
namespace NeDc
open PySem PySem.Spec PyProof.Rows L2
section
variable {X : Cx}
def rNeDE : R2 := fun x y H Q => ∃ a b kvs, x = .ref a ∧ y = .ref b ∧ H a = some (.dK kvs) ∧ H b = some (.dK []) ∧ Q (.bl (!kvs.isEmpty)) H
def rEqDE : R2 := fun x y H Q => ∃ a b kvs, x = .ref a ∧ y = .ref b ∧ H a = some (.dK kvs) ∧ H b = some (.dK []) ∧ Q (.bl kvs.isEmpty) H
theorem op_neDE (hu : X.A.units < cLine) : OpR X (compareOp .NotEq) rNeDE := by
  intro pins s σ H x y v u Q I rx ry h
  obtain ⟨a, b, ks, rfl, rfl, ea, eb, q⟩ := h
  obtain rfl : v = Value.ref a := rx
  obtain rfl : u = Value.ref b := ry
  obtain ⟨_, ya, va, ra, da⟩ := (show ObjOk X.prog X.w H s.heap a (.dK ks) from I.hok a _ ea)
  obtain ⟨_, yb, vb, rb, db⟩ := (show ObjOk X.prog X.w H s.heap b (.dK []) from I.hok b _ eb)
  cases rb
  have hl := ra.length
  cases ks with
  | nil => exact PySem.W.keq_ne (knd := mixKind X.prog X.w) (r := true) ya yb da db hu (fun _ => hits_all .nil ra fun p hp => by cases hp) (fin_bl I q (by rw [← hl]; rfl))
  | cons k r => exact PySem.W.keq_ne (knd := mixKind X.prog X.w) (r := true) ya yb da db hu (fun z => by rw [← hl] at z; cases z) (fin_bl I q (by rw [← hl]; rfl))
theorem op_eqDE (hu : X.A.units < cLine) : OpR X (compareOp .Eq) rEqDE := by
  intro pins s σ H x y v u Q I rx ry h
  obtain ⟨a, b, ks, rfl, rfl, ea, eb, q⟩ := h
  obtain rfl : v = Value.ref a := rx
  obtain rfl : u = Value.ref b := ry
  obtain ⟨_, ya, va, ra, da⟩ := (show ObjOk X.prog X.w H s.heap a (.dK ks) from I.hok a _ ea)
  obtain ⟨_, yb, vb, rb, db⟩ := (show ObjOk X.prog X.w H s.heap b (.dK []) from I.hok b _ eb)
  cases rb
  have hl := ra.length
  cases ks with
  | nil => exact PySem.W.keq_eq (knd := mixKind X.prog X.w) (r := true) ya yb da db hu (fun _ => hits_all .nil ra fun p hp => by cases hp) (fin_bl I q (by rw [← hl]; rfl))
  | cons k r => exact PySem.W.keq_eq (knd := mixKind X.prog X.w) (r := true) ya yb da db hu (fun z => by rw [← hl] at z; cases z) (fin_bl I q (by rw [← hl]; rfl))
end
end NeDc

section
variable {P : Program} {w : World} {K : PySem.W.Frag} {mg : Str → Option Value} {base : Heap}
/-! ### masks -/
def maskOf (f : Nat → Bool) : Nat → Nat
  | 0 => 0
  | n + 1 => maskOf f n + if f n = true then 2 ^ n else 0
theorem maskOf_lt (f : Nat → Bool) : ∀ n, maskOf f n < 2 ^ n
  | 0 => Nat.one_pos
  | n + 1 => by
    have := maskOf_lt f n
    show maskOf f n + _ < 2 ^ (n + 1)
    rw [Nat.pow_succ]
    split <;> omega
theorem maskOf_bit (f : Nat → Bool) : ∀ n k, (maskOf f n).testBit k = (decide (k < n) && f k)
  | 0, k => by
    show Nat.testBit 0 k = _
    simp
  | n + 1, k => by
    have ih := maskOf_bit f n k
    have lt := maskOf_lt f n
    show (maskOf f n + if f n = true then 2 ^ n else 0).testBit k = _
    by_cases e : f n = true
    · rw [if_pos e, Nat.add_comm]
      rcases Nat.lt_trichotomy k n with h | h | h
      · rw [Nat.testBit_two_pow_add_gt h, ih, decide_eq_true h, decide_eq_true (by omega)]
      · rw [h, Nat.testBit_two_pow_add_eq, Nat.testBit_lt_two_pow lt, e, decide_eq_true (by omega)]
        rfl
      · rw [decide_eq_false (by omega), Bool.false_and]
        refine Nat.testBit_lt_two_pow (Nat.lt_of_lt_of_le ?_ (Nat.pow_le_pow_right (by decide) (show n + 1 ≤ k by omega)))
        rw [Nat.pow_succ]
        omega
    · rw [if_neg e, Nat.add_zero, ih]
      rcases Nat.lt_trichotomy k n with h | h | h
      · rw [decide_eq_true h, decide_eq_true (show k < n + 1 by omega)]
      · rw [h, Bool.eq_false_iff.mpr e, Bool.and_false, Bool.and_false]
      · rw [decide_eq_false (by omega), decide_eq_false (by omega)]
def bitsL (f : Nat → Bool) (n : Nat) : List Int := ((List.range n).filter f).map fun k => (2 : Int) ^ k
theorem bitsL_succ (f : Nat → Bool) (n : Nat) : bitsL f (n + 1) = bitsL f n ++ if f n = true then [(2 : Int) ^ n] else [] := by
  unfold bitsL
  rw [List.range_succ, List.filter_append, List.map_append]
  congr 1
  by_cases e : f n = true
  · rw [if_pos e, List.filter_cons, if_pos e]
    rfl
  · rw [if_neg e, List.filter_cons, if_neg e]
    rfl
theorem bitsL_len (f : Nat → Bool) (n : Nat) : (bitsL f n).length ≤ n := by
  unfold bitsL
  rw [List.length_map]
  exact Nat.le_trans (List.length_filter_le ..) (by rw [List.length_range]; exact Nat.le_refl _)
theorem bitsL_sum (f : Nat → Bool) : ∀ n, (bitsL f n).sum = ((maskOf f n : Nat) : Int)
  | 0 => rfl
  | n + 1 => by
    rw [bitsL_succ, List.sum_append, bitsL_sum f n]
    show _ = ((maskOf f n + (if f n = true then 2 ^ n else 0) : Nat) : Int)
    by_cases e : f n = true
    · rw [if_pos e, if_pos e]
      simp
    · rw [if_neg e, if_neg e]
      simp
def lorL : List Nat → Nat
  | [] => 0
  | x :: r => x ||| lorL r
theorem lorL_bit : ∀ (S : List Nat) (i : Nat), (lorL S).testBit i = S.any fun x => x.testBit i
  | [], i => by
    show Nat.testBit 0 i = _
    simp
  | x :: r, i => by
    show (x ||| lorL r).testBit i = _
    rw [Nat.testBit_or, lorL_bit r i]
    rfl
def subs : List Nat → List (List Nat)
  | [] => [[]]
  | x :: r => subs r ++ (subs r).map fun l => x :: l
theorem subs_len : ∀ l : List Nat, (subs l).length = 2 ^ l.length
  | [] => rfl
  | x :: r => by
    show (subs r ++ (subs r).map fun l => x :: l).length = 2 ^ (r.length + 1)
    rw [List.length_append, List.length_map, subs_len r, Nat.pow_succ]
    omega
theorem filter_subs (f : Nat → Bool) : ∀ l : List Nat, l.filter f ∈ subs l
  | [] => List.mem_singleton.mpr rfl
  | x :: r => by
    have ih := filter_subs f r
    rw [List.filter_cons]
    by_cases e : f x = true
    · rw [if_pos e]
      exact List.mem_append_right _ (List.mem_map.mpr ⟨_, ih, rfl⟩)
    · rw [if_neg e]
      exact List.mem_append_left _ ih
theorem lorL_canon {held S : List Nat} (h : ∀ x ∈ S, x ∈ held) : lorL S ∈ (subs held).map lorL := by
  refine List.mem_map.mpr ⟨held.filter fun x => decide (x ∈ S), filter_subs _ _, Nat.eq_of_testBit_eq fun i => ?_⟩
  rw [lorL_bit, lorL_bit, Bool.eq_iff_iff, List.any_eq_true, List.any_eq_true]
  constructor
  · rintro ⟨x, hx, b⟩
    exact ⟨x, of_decide_eq_true (List.mem_filter.mp hx).2, b⟩
  · rintro ⟨x, hx, b⟩
    exact ⟨x, List.mem_filter.mpr ⟨h x hx, decide_eq_true hx⟩, b⟩
/-- what one key of a round tells -/
def KeyOk (held : List Nat) (n r k : Nat) : Prop := k < 2 ^ n ∧ (∃ S : List Nat, S.length = r ∧ (∀ x ∈ S, x ∈ held) ∧ k = lorL S) ∧ ∃ bs : List Nat, bs.Nodup ∧ bs.length = r ∧ ∀ b ∈ bs, b < n ∧ k.testBit b = true
def Keys (held : List Nat) (n r : Nat) (ks : List Nat) : Prop := ks.Nodup ∧ ∀ k ∈ ks, KeyOk held n r k
theorem Keys.zero {held : List Nat} {n : Nat} : Keys held n 0 [0] := ⟨by simp, fun k hk => by
  rw [List.mem_singleton.mp hk]
  exact ⟨Nat.pow_pos (by decide), ⟨[], rfl, (fun x hx => by cases hx), rfl⟩, [], List.nodup_nil, rfl, fun b hb => by cases hb⟩⟩
theorem Keys.few {held : List Nat} {n r : Nat} {ks : List Nat} (h : Keys held n r ks) : ks.length ≤ 2 ^ held.length := by
  have := List.Nodup.length_le_of_subset (l₂ := (subs held).map lorL) h.1 fun k hk => by
    obtain ⟨_, ⟨S, _, hS, e⟩, _⟩ := h.2 k hk
    rw [e]
    exact lorL_canon hS
  rw [List.length_map, subs_len] at this
  exact this
theorem Keys.round {held : List Nat} {n r : Nat} {ks : List Nat} (h : Keys held n r ks) (ne : ks ≠ []) : r ≤ n := by
  obtain ⟨k, hk⟩ := List.exists_mem_of_ne_nil _ ne
  obtain ⟨_, _, bs, nd, l, hb⟩ := h.2 k hk
  have := List.Nodup.length_le_of_subset (l₂ := List.range n) nd fun b m => List.mem_range.mpr (hb b m).1
  rw [List.length_range, l] at this
  exact this
theorem KeyOk.or {held : List Nat} {n r g x a : Nat} (h : KeyOk held n r g) (hx : x ∈ held) (x2 : x < 2 ^ n) (an : a < n) (ng : g.testBit a = false) (nx : x.testBit a = true) : KeyOk held n (r + 1) (g ||| x) := by
  obtain ⟨g2, ⟨S, lS, hS, e⟩, bs, nd, l, hb⟩ := h
  refine ⟨Nat.or_lt_two_pow g2 x2, ⟨x :: S, by rw [List.length_cons, lS], fun y hy => ?_, ?_⟩, a :: bs, ?_, by rw [List.length_cons, l], fun b m => ?_⟩
  · rcases List.mem_cons.mp hy with rfl | hy
    · exact hx
    · exact hS y hy
  · rw [e, Nat.or_comm]
    rfl
  · refine List.nodup_cons.mpr ⟨fun m => ?_, nd⟩
    rw [(hb a m).2] at ng
    cases ng
  · rw [Nat.testBit_or]
    rcases List.mem_cons.mp m with rfl | m
    · exact ⟨an, by rw [nx, Bool.or_true]⟩
    · exact ⟨(hb b m).1, by rw [(hb b m).2, Bool.true_or]⟩
theorem free_bit {n k : Nat} (h : k < 2 ^ n) (ne : k ≠ 2 ^ n - 1) : ∃ a, a < n ∧ k.testBit a = false := by
  refine Classical.byContradiction fun z => ne (Nat.eq_of_testBit_eq fun i => ?_)
  rw [Nat.testBit_two_pow_sub_one]
  by_cases hi : i < n
  · rw [decide_eq_true hi]
    cases e : k.testBit i with
    | true => rfl
    | false => exact absurd ⟨i, hi, e⟩ z
  · rw [decide_eq_false hi]
    exact Nat.testBit_lt_two_pow (Nat.lt_of_lt_of_le h (Nat.pow_le_pow_right (by decide) (by omega)))
theorem pre_map {α : Type} {f : α → Nat} {al : List α} : ∀ {S : List Nat}, (∀ x ∈ S, x ∈ al.map f) → ∃ qs : List α, qs.map f = S ∧ ∀ q ∈ qs, q ∈ al
  | [], _ => ⟨[], rfl, fun q hq => by cases hq⟩
  | x :: r, h => by
    obtain ⟨p, hp, e⟩ := List.mem_map.mp (h x List.mem_cons_self)
    obtain ⟨qs, e2, h2⟩ := pre_map fun y hy => h y (List.mem_cons_of_mem _ hy)
    refine ⟨p :: qs, by rw [List.map_cons, e, e2], fun q hq => ?_⟩
    rcases List.mem_cons.mp hq with rfl | hq
    · exact hp
    · exact h2 q hq
def maskP (gv : List (List Nat)) (p : List Nat) : Nat := maskOf (fun k => hall p (gv.getD k [])) gv.length
/-- so many products of al hold all that are given -/
def Holds (al gv : List (List Nat)) (r : Nat) : Prop := ∃ qs : List (List Nat), qs.length = r ∧ (∀ q ∈ qs, q ∈ al) ∧ ∀ o ∈ gv, ∃ q ∈ qs, hall q o = true
theorem Keys.whole {al gv : List (List Nat)} {r : Nat} {ks : List Nat} (h : Keys (al.map (maskP gv)) gv.length r ks) (w : 2 ^ gv.length - 1 ∈ ks) : Holds al gv r := by
  obtain ⟨_, ⟨S, lS, hS, e⟩, _⟩ := h.2 _ w
  obtain ⟨qs, e2, h2⟩ := pre_map hS
  refine ⟨qs, by rw [← lS, ← e2, List.length_map], h2, fun o ho => ?_⟩
  obtain ⟨k, hk, ek⟩ := List.getElem_of_mem ho
  have b : (lorL S).testBit k = true := by rw [← e, Nat.testBit_two_pow_sub_one, decide_eq_true hk]
  rw [lorL_bit, List.any_eq_true] at b
  obtain ⟨x, hx, bx⟩ := b
  rw [← e2] at hx
  obtain ⟨q, hq, rfl⟩ := List.mem_map.mp hx
  unfold maskP at bx
  rw [maskOf_bit, decide_eq_true hk, Bool.true_and] at bx
  refine ⟨q, hq, ?_⟩
  rw [← ek]
  rw [List.getD_eq_getElem?_getD, List.getElem?_eq_getElem hk] at bx
  exact bx
/-- a dict whose keys are these numbers, each once -/
def KvK (kvs : List (Key × V)) (ks : List Nat) : Prop := kvs.map (·.1) = ks.map (fun k : Nat => (Sum.inl ((k : Nat) : Int) : Key))
theorem KvK.len {kvs : List (Key × V)} {ks : List Nat} (h : KvK kvs ks) : kvs.length = ks.length := by
  have := congrArg List.length h
  rw [List.length_map, List.length_map] at this
  exact this
theorem KvK.mem {ks : List Nat} {k : Nat} : (Sum.inl (k : Int) : Key) ∈ ks.map (fun k : Nat => (Sum.inl ((k : Nat) : Int) : Key)) ↔ k ∈ ks := by
  rw [List.mem_map]
  exact ⟨fun ⟨x, h, y⟩ => by have := Sum.inl.inj y; rw [show k = x by omega]; exact h, fun h => ⟨_, h, rfl⟩⟩
theorem KvK.put {held : List Nat} {n r : Nat} {kvs : List (Key × V)} {ks : List Nat} (h : KvK kvs ks) (K : Keys held n r ks) {k : Nat} {v : V} (ok : KeyOk held n r k) : ∃ ks', KvK (putK kvs (Sum.inl (k : Int)) v) ks' ∧ Keys held n r ks' := by
  unfold KvK at h ⊢
  by_cases z : k ∈ ks
  · exact ⟨ks, by rw [putK_old (by rw [h]; exact KvK.mem.mpr z), h], K⟩
  · refine ⟨ks ++ [k], by rw [putK_more (by rw [h]; exact fun y => z (KvK.mem.mp y)), h, List.map_append]; rfl, ?_, fun x hx => ?_⟩
    · rw [List.nodup_append]
      exact ⟨K.1, by simp, fun y hy w hw e => z (by rw [List.mem_singleton.mp hw] at e; exact e ▸ hy)⟩
    · rcases List.mem_append.mp hx with hx | hx
      · exact K.2 x hx
      · rw [List.mem_singleton.mp hx]
        exact ok
theorem KvK.isSome {kvs : List (Key × V)} {ks : List Nat} (h : KvK kvs ks) (k : Nat) : (valV kvs (Sum.inl (k : Int))).isSome = decide (k ∈ ks) := by
  have e : (valV kvs (Sum.inl (k : Int))).isSome = (kvs.any fun kv => decide (kv.1 = (Sum.inl (k : Int) : Key))) := by
    unfold valV
    rw [Option.isSome_map, Bool.eq_iff_iff, List.find?_isSome, List.any_eq_true]
  rw [e, Bool.eq_iff_iff, any_key, decide_eq_true_iff]
  unfold KvK at h
  rw [h, KvK.mem]

/-! ### the fewest products that hold all: the law's own -/
def byV (held : List Nat) (i : Nat) : List V := ((held.filter fun x => x.testBit i).map fun x : Nat => (x : Int)).map V.int
theorem bit_dec (x j : Nat) : decide (V.int (((x / 2 ^ j) % 2 : Nat) : Int) = V.int 1) = x.testBit j := by
  rw [Nat.testBit_eq_decide_div_mod_eq, Bool.eq_iff_iff, decide_eq_true_iff, decide_eq_true_iff]
  exact ⟨fun h => by have := V.int.inj h; omega, fun h => by rw [h]; rfl⟩
def kf48 (H : Hp) : V → List Int
  | .ref t => match H t with
    | some (.tup [.int a, .int b]) => [a, b]
    | _ => []
  | _ => []
def msr48 (n : Nat) (σ : L2.St) : Nat := match σ with
  | _ :: _ :: _ :: _ :: _ :: _ :: _ :: some (.int r) :: _ => n + 1 - r.toNat
  | _ => 0
theorem bit_dec0 (x j : Nat) : decide (V.int (((x / 2 ^ j) % 2 : Nat) : Int) = V.int 0) = !x.testBit j := by
  rw [Nat.testBit_eq_decide_div_mod_eq, Bool.eq_iff_iff, decide_eq_true_iff, Bool.not_eq_true', decide_eq_false_iff_not]
  constructor
  · intro h
    have := V.int.inj h
    omega
  · intro h
    rw [show x / 2 ^ j % 2 = 0 by omega]
    rfl
def sp_fewest (K : PySem.W.Frag) : Sp := fun vs H Q _ => ∃ (M G : Addr) (m : Nat) (al gv : List (List Nat)), vs = [.ref M, .ref G] ∧ H M = some (.lst (pVs al)) ∧ H G = some (.lst (pVs gv)) ∧ (∀ p ∈ al, ProdOk m p) ∧ (∀ o ∈ gv, ProdOk m o) ∧ m ≤ 4 ∧ al.length ≤ 18 ∧ gv.length ≤ 81 ∧ ∀ (r : Option Nat) (H' : Hp), Same H H' → (∀ k, r = some k → Holds al gv k) → Q (optV r) H'
theorem ok_fewest (T : Tx K mg) : FnOk P w K mg base CX0 2 T.f_fewest T.fd_fewest ["_law_menu", "_law_asked_here"] (sp_fewest K) := by
  refine T.F_fewest.ok sc_fewest (fun vs H Q E h => ?_) (fun cdv A outer s H vs Q E hr h => ?_)
  · obtain ⟨M, G, m, al, gv, rfl, _⟩ := h
    rfl
  · obtain ⟨M, G, m, al, gv, rfl, hM, hG, oka, okg, m4, la, lg, q⟩ := h
    refine ⟨_, (pss_cons (ps_set (i := 2) sc_fewest.nd rfl (by first | exact .inl rfl | exact .inr rfl) (pe_op op_sub (pe_op op_oneShl pe_int (pe_callB call_len_seq (by rfl) T.m_len PySem.boot_len (pa_cons (pv 1) pa_nil))) pe_int)) (pss_cons (ps_set (i := 3) sc_fewest.nd rfl (by first | exact .inl rfl | exact .inr rfl) (pe_lc (own := [("_law_product_here", 12)]) (by rfl) sc_fewest.nd (pi_list (pv 0)) (blkOk_by (own := [("_law_product_here", 12)]) (N := ["_law_menu", "_law_asked_here", "_law_whole", "_law_held", "_law_by", "_law_order", "_law_reached", "_law_many", "_law_later", "_law_got", "_law_at", "_law_have", "_law_product_here", "_law_k", "_law_some", "_law_one", "_law_few"]) (sc := defScope s_fewest) (by decide +kernel)) (fun _ _ _ _ _ => (pg_name (i := 12) sc_fewest.nd rfl (by first | exact .inl rfl | exact .inr rfl))) (fun _ _ _ _ _ => pts_nil) (fun _ _ _ _ _ => (pe_callB (show CallR _ _ (rSum K) from (cr_sum rfl)) (by rfl) T.m_sum (by decide +kernel) (pa_cons (pe_lc (own := [("_law_k", 13), ("_law_one", 15)]) (by rfl) sc_fewest.nd (show PI _ _ _ (iEnum K _) from pi_enum (by rfl) T.m_enumerate (pa_cons (pv 1) pa_nil)) (blkOk_by (own := [("_law_k", 13), ("_law_one", 15)]) (N := ["_law_menu", "_law_asked_here", "_law_whole", "_law_held", "_law_by", "_law_order", "_law_reached", "_law_many", "_law_later", "_law_got", "_law_at", "_law_have", "_law_product_here", "_law_k", "_law_some", "_law_one", "_law_few"]) (sc := { kind := PySem.ScopeKind.function, names := [ (PySem.Str.ofString ".0", PySem.NameKind.local), (PySem.Str.ofString "_law_product_here", PySem.NameKind.cell), (PySem.Str.ofString "sum", PySem.NameKind.globalImplicit), (PySem.Str.ofString "enumerate", PySem.NameKind.globalImplicit), (PySem.Str.ofString "_law_asked_here", PySem.NameKind.cell)], isGenerator := false, isCoroutine := false, more := [] : PySem.Scope }) (by decide +kernel)) (fun _ _ _ _ _ => (show PG _ _ (gTup K 2 _) from pg_tup rfl (pgs_cons (pg_name (i := 13) sc_fewest.nd rfl (by first | exact .inl rfl | exact .inr rfl)) (pgs_cons (pg_name (i := 15) sc_fewest.nd rfl (by first | exact .inl rfl | exact .inr rfl)) pgs_nil)))) (fun _ _ _ _ _ => (pts_one (pt_val (pe_call (ok_inside T) (hr.mono (by decide)) (by rfl) T.g_inside T.F_inside.kp T.b_inside .nil pass0 (pa_cons (pv 12) (pa_cons (pv 15) pa_nil)))))) (fun _ _ _ _ _ => (pe_op op_oneShl pe_int (pv 13)))) pa_nil))))) (pss_cons (ps_setLc (i := 4) (own := [("_law_k", 13)]) (by rfl) sc_fewest.nd rfl rfl (sw_true rfl rfl rfl (by decide +kernel)) (pi_range1 (by rfl) T.m_range (pa_cons (pe_callB call_len_seq (by rfl) T.m_len PySem.boot_len (pa_cons (pv 1) pa_nil)) pa_nil)) (blkOk_by (own := [("_law_k", 13)]) (N := ["_law_menu", "_law_asked_here", "_law_whole", "_law_held", "_law_by", "_law_order", "_law_reached", "_law_many", "_law_later", "_law_got", "_law_at", "_law_have", "_law_product_here", "_law_k", "_law_some", "_law_one", "_law_few"]) (sc := defScope s_fewest) (by decide +kernel)) (fun _ _ _ _ _ => (pg_name (i := 13) sc_fewest.nd rfl (by first | exact .inl rfl | exact .inr rfl))) (fun _ _ _ _ _ => pts_nil) (fun _ _ _ _ _ => (pe_lc (own := [("_law_have", 11)]) (by rfl) sc_fewest.nd (show PI _ _ _ (iList K _) from pi_list (pv 3)) (blkOk_by (own := [("_law_have", 11)]) (N := ["_law_menu", "_law_asked_here", "_law_whole", "_law_held", "_law_by", "_law_order", "_law_reached", "_law_many", "_law_later", "_law_got", "_law_at", "_law_have", "_law_product_here", "_law_k", "_law_some", "_law_one", "_law_few"]) (sc := { kind := PySem.ScopeKind.function, names := [ (PySem.Str.ofString ".0", PySem.NameKind.local), (PySem.Str.ofString "_law_k", PySem.NameKind.cell), (PySem.Str.ofString "_law_held", PySem.NameKind.cell)], isGenerator := false, isCoroutine := false, more := [] : PySem.Scope }) (by decide +kernel)) (fun _ _ _ _ _ => (pg_name (i := 11) sc_fewest.nd rfl (by first | exact .inl rfl | exact .inr rfl))) (fun _ _ _ _ _ => (pts_one (pt_cmpR op_eq (pe_op op_odd (pe_op op_shrN (pv 11) (pv 13)) pe_int) pe_int (nomark _)))) (fun _ _ _ _ _ => (pv 11))))) (pss_cons (ps_set (i := 5) sc_fewest.nd rfl (by first | exact .inl rfl | exact .inr rfl) (pe_callB (cr_sortedTn (d := 2) (by decide)) (by rfl) T.m_sorted (by decide +kernel) (pa_cons (pe_lc (own := [("_law_k", 13), ("_law_some", 14)]) (by rfl) sc_fewest.nd (pi_enum (by rfl) T.m_enumerate (pa_cons (pv 4) pa_nil)) (blkOk_by (own := [("_law_k", 13), ("_law_some", 14)]) (N := ["_law_menu", "_law_asked_here", "_law_whole", "_law_held", "_law_by", "_law_order", "_law_reached", "_law_many", "_law_later", "_law_got", "_law_at", "_law_have", "_law_product_here", "_law_k", "_law_some", "_law_one", "_law_few"]) (sc := defScope s_fewest) (by decide +kernel)) (fun _ _ _ _ _ => (show PG _ _ (gTup K 2 _) from pg_tup rfl (pgs_cons (pg_name (i := 13) sc_fewest.nd rfl (by first | exact .inl rfl | exact .inr rfl)) (pgs_cons (pg_name (i := 14) sc_fewest.nd rfl (by first | exact .inl rfl | exact .inr rfl)) pgs_nil)))) (fun _ _ _ _ _ => pts_nil) (fun _ _ _ _ _ => (pe_tup (pa_cons (pe_callB (show CallR _ _ (rLenK K) from call_len_seq) (by rfl) T.m_len PySem.boot_len (pa_cons (pv 14) pa_nil)) (pa_cons (pv 13) pa_nil))))) pa_nil))) (pss_cons (ps_set (i := 6) sc_fewest.nd rfl (by first | exact .inl rfl | exact .inr rfl) (pe_disp (pps_cons pe_int pe_bl pps_nil) (by rfl) (by rfl) (fun z => by cases z) (by decide))) (pss_cons (ps_set (i := 7) sc_fewest.nd rfl (by first | exact .inl rfl | exact .inr rfl) pe_int) (pss_cons (ps_while PassesOwn.never (pw_and (pt_cmpR (NeDc.op_neDE (EqS.u0 hr.units)) (pv 6) pe_dnewK (nomark _)) (pw_and1 (pt_cmp (pc_dnotin (hu_of hr) (pv 2) (pv 6))))).pt (pss_cons (ps_set (i := 8) sc_fewest.nd rfl (by first | exact .inl rfl | exact .inr rfl) pe_dnewK) (pss_cons (ps_lock (ps_for PassesOwn.never rfl (pi_keys (pv 6)) (pg_name (i := 9) sc_fewest.nd rfl (by first | exact .inl rfl | exact .inr rfl)) (pss_cons (ps_set (i := 10) sc_fewest.nd rfl (by first | exact .inl rfl | exact .inr rfl) (pe_ix ix_list (pe_lc (own := [("_law_few", 16), ("_law_k", 13)]) (by rfl) sc_fewest.nd (pi_list (pv 5)) (blkOk_by (own := [("_law_few", 16), ("_law_k", 13)]) (N := ["_law_menu", "_law_asked_here", "_law_whole", "_law_held", "_law_by", "_law_order", "_law_reached", "_law_many", "_law_later", "_law_got", "_law_at", "_law_have", "_law_product_here", "_law_k", "_law_some", "_law_one", "_law_few"]) (sc := defScope s_fewest) (by decide +kernel)) (fun _ _ _ _ _ => (show PG _ _ (gTup K 2 _) from pg_tup rfl (pgs_cons (pg_name (i := 16) sc_fewest.nd rfl (by first | exact .inl rfl | exact .inr rfl)) (pgs_cons (pg_name (i := 13) sc_fewest.nd rfl (by first | exact .inl rfl | exact .inr rfl)) pgs_nil)))) (fun _ _ _ _ _ => (pts_one (pt_cmpR op_eq (pe_op op_odd (pe_op op_shrN (pv 9) (pv 13)) pe_int) pe_int (nomark _)))) (fun _ _ _ _ _ => (pv 13))) pe_int (fun _ _ => rfl))) (pss_one (ps_for PassesOwn.never rfl (pi_list (pe_ix ix_list (pv 4) (pv 10) (fun _ _ => rfl))) (pg_name (i := 11) sc_fewest.nd rfl (by first | exact .inl rfl | exact .inr rfl)) (pss_one (ps_dput (hu_of hr) (pv 8) (pe_op op_or (pv 9) (pv 11)) pe_bl rfl))))))) (pss_cons (ps_set (i := 6) sc_fewest.nd rfl (by first | exact .inl rfl | exact .inr rfl) (pv 8)) (pss_one (ps_set (i := 7) sc_fewest.nd rfl (by first | exact .inl rfl | exact .inr rfl) (pe_op op_add (pv 7) pe_int))))))) (pss_cons (ps_if (pt_cmpR (NeDc.op_eqDE (EqS.u0 hr.units)) (pv 6) pe_dnewK (nomark _)) (pss_one (ps_ret pe_non)) pss_nil) (pss_one (ps_ret (pv 7))))))))))), ?_⟩
    have m6 : m ≤ 6 := by omega
    have lgV : (pVs gv).length = gv.length := by unfold pVs; rw [List.length_map]
    have lp : (pVs al).length = al.length := by unfold pVs; rw [List.length_map]
    refine ⟨.ref G, rfl, G, pVs gv, rfl, .inl (SqL.of hG), (pVs gv).length, rfl, rfl, by rw [lgV]; omega, _, _, rfl, rfl, ?_⟩
    rw [lgV]
    -- held
    refine ⟨.ref M, rfl, M, rfl, ⟨_, SqL.of hM⟩, fun A0 nA => ?_⟩
    refine lc_list (K := K) (a := M) (xs := pVs al) (fun j H' => Same H (hd1 A0 H') ∧ H' A0 = some (.lst ((((al.take j).map (maskP gv)).map fun x : Nat => (x : Int)).map V.int))) ⟨hd1_of (same_upd nA) nA, upd_same⟩ (fun j H' _ z => SqL.of (hd1_le _ _ (z.1 _ _ hM))) ?_ ?_
    · rintro j v H1 hv ⟨s1, hA⟩
      obtain ⟨p, hp, rfl⟩ := pV_at hv
      have okp := oka p (List.mem_of_getElem? hp)
      have hG1 := hd1_le _ _ (s1 _ _ hG)
      refine ⟨rfl, .ref G, rfl, G, pVs gv, rfl, SqL.of hG1, fun B nB => ?_⟩
      have AB : A0 ≠ B := ne_of_none hA nB
      refine lc_enum (K := K) (a := G) (xs := pVs gv) (fun i H' => Same H1 (hd1 B H') ∧ H' B = some (.lst ((bitsL (fun k => hall p (gv.getD k [])) i).map V.int))) ⟨hd1_of (same_upd nB) nB, upd_same⟩ (fun i H' _ z => SqL.of (hd1_le _ _ (z.1 _ _ hG1))) ?_ ?_
      · rintro i x T2 H2 hx nT ⟨s2, hB⟩
        obtain ⟨o, ho, rfl⟩ := pV_at hx
        have oko := okg o (List.mem_of_getElem? ho)
        have il := (List.getElem?_eq_some_iff.mp ho).1
        have s3 := same_upd (o := HO.tup [V.int (i : Nat), V.str (SX.S o)]) nT
        have h3 : upd H2 T2 (HO.tup [V.int (i : Nat), V.str (SX.S o)]) T2 = some (.tup [V.int (i : Nat), V.str (SX.S o)]) := upd_same
        generalize upd H2 T2 (HO.tup [V.int (i : Nat), V.str (SX.S o)]) = H3 at s3 h3 ⊢
        have ef : hall p (gv.getD i []) = hall p o := by rw [List.getD_eq_getElem?_getD, ho]; rfl
        have eq := bitsL_succ (fun k => hall p (gv.getD k [])) i
        simp only [ef] at eq
        refine ⟨T2, _, rfl, SqT.of h3, rfl, _, _, rfl, _, _, rfl, rfl, rfl, .str (SX.S p), rfl, .str (SX.S o), rfl, m, p, o, rfl, okp.1, oko.1, m6, fun H4 s4 => ⟨_, rfl, ite2 (fun e => ?_) (fun e => ?_)⟩⟩
        · have hB4 := s4 _ _ (s3 _ _ hB)
          refine ⟨.int (i : Nat), rfl, i, rfl, rfl, by omega, _, hB4, ?_, ((s2.trans (hd1_same s3)).trans (hd1_same s4)).trans hd1_upd, ?_⟩
          · rw [List.length_map]
            have := bitsL_len (fun k => hall p (gv.getD k [])) i
            exact Nat.lt_of_le_of_lt this (Nat.lt_of_lt_of_le (show _ < 256 by omega) (by decide))
          · rw [upd_same, eq, if_pos e, List.map_append]
            rfl
        · refine ⟨(s2.trans (hd1_same s3)).trans (hd1_same s4), ?_⟩
          rw [s4 _ _ (s3 _ _ hB), eq, if_neg e, List.append_nil]
      · rintro H2 ⟨s2, hB⟩
        rw [lgV] at hB
        refine ⟨B, _, rfl, SqL.of hB, ?_⟩
        rw [bitsL_sum]
        have jl := (List.getElem?_eq_some_iff.mp hp).1
        have s12 : Same H1 H2 := fun b o e => hd1_le _ _ (s2 _ _ e)
        refine ⟨_, s12 _ _ hA, ?_, (s1.trans (hd1_same s12)).trans hd1_upd, ?_⟩
        · rw [List.length_map, List.length_map, List.length_map, List.length_take]
          exact Nat.lt_of_lt_of_le (show _ < 256 by omega) (by decide)
        · rw [upd_same, List.take_add_one, hp, List.map_append, List.map_append, List.map_append]
          rfl
    rintro H1 ⟨s1', hA⟩
    rw [lp, List.take_length] at hA
    have s1 : Same H H1 := fun b o e => hd1_le _ _ (s1' _ _ e)
    have hG1 := s1 _ _ hG
    generalize eheld : al.map (maskP gv) = held at hA
    have heldlt : ∀ x ∈ held, x < 2 ^ gv.length := fun x hx => by
      rw [← eheld] at hx
      obtain ⟨p, _, rfl⟩ := List.mem_map.mp hx
      exact maskOf_lt _ _
    have lheld : held.length ≤ 18 := by rw [← eheld, List.length_map]; exact la
    -- by
    refine ⟨.ref G, rfl, G, pVs gv, rfl, .inl (SqL.of hG1), ((pVs gv).length : Int), rfl, by omega, by omega, fun C nC => ?_⟩
    have AC : A0 ≠ C := ne_of_none hA nC
    refine lc_range (lo := 0) (n := ((pVs gv).length : Int).toNat) (fun j H' => Same H1 (hd1 C H') ∧ ∃ as : List Addr, H' C = some (.lst (as.map V.ref)) ∧ as.length = j ∧ ∀ i a, as[i]? = some a → a ≠ C ∧ H' a = some (.lst (byV held i))) ⟨hd1_of (same_upd nC) nC, [], upd_same, rfl, fun i a z => by simp at z⟩ ?_ ?_
    · rintro j H2 hj ⟨s2, as, hC, las, has⟩
      rw [lgV] at hj
      have jn : j < gv.length := by simpa using hj
      have hA2 := hd1_le _ _ (s2 _ _ hA)
      refine ⟨rfl, .ref A0, rfl, A0, rfl, ⟨_, SqL.of hA2⟩, fun B nB => ?_⟩
      have CB : C ≠ B := ne_of_none hC nB
      refine lc_list (K := K) (a := A0) (xs := (held.map fun x : Nat => (x : Int)).map V.int) (fun i H' => Same H2 (hd1 B H') ∧ H' B = some (.lst ((((held.take i).filter fun x => x.testBit j).map fun x : Nat => (x : Int)).map V.int))) ⟨hd1_of (same_upd nB) nB, upd_same⟩ (fun i H' _ z => SqL.of (hd1_le _ _ (z.1 _ _ hA2))) ?_ ?_
      · rintro i v H3 hv ⟨s3, hB⟩
        rw [List.getElem?_map, List.getElem?_map] at hv
        obtain ⟨x, hx, rfl⟩ : ∃ x, held[i]? = some x ∧ v = .int (x : Int) := by
          cases e : held[i]? with
          | none => rw [e] at hv; cases hv
          | some x => rw [e] at hv; exact ⟨x, rfl, (Option.some.inj hv).symm⟩
        have eq := filter_snoc (f := fun x => x.testBit j) hx
        refine ⟨rfl, .int (x : Int), rfl, .int (0 + (j : Int)), rfl, (x : Int), j, rfl, by rw [Int.zero_add], x / 2 ^ j, by rw [Int.natCast_ediv, Int.natCast_pow]; rfl, rfl, rfl, _, rfl, ?_⟩
        rw [bit_dec]
        refine ite2 (fun e => ?_) (fun e => ?_)
        · refine ⟨.int (x : Int), rfl, _, hB, ?_, s3.trans hd1_upd, ?_⟩
          · rw [List.length_map, List.length_map]
            have := List.length_filter_le (fun x : Nat => x.testBit j) (held.take i)
            rw [List.length_take] at this
            exact Nat.lt_of_lt_of_le (show _ < 256 by omega) (by decide)
          · rw [upd_same, eq, if_pos e, List.map_append, List.map_append]
            rfl
        · refine ⟨s3, ?_⟩
          rw [hB, eq, if_neg e, List.append_nil]
      rintro H3 ⟨s3', hB⟩
      rw [List.length_map, List.length_map, List.take_length] at hB
      have s3 : Same H2 H3 := fun b o e => hd1_le _ _ (s3' _ _ e)
      refine ⟨_, s3 _ _ hC, ?_, (s2.trans (hd1_same s3)).trans hd1_upd, as ++ [B], ?_, by rw [List.length_append, las]; rfl, fun i a z => ?_⟩
      · rw [List.length_map, las]
        exact Nat.lt_of_lt_of_le (show _ < 256 by omega) (by decide)
      · rw [upd_same, List.map_append]
        rfl
      · rcases Nat.lt_or_ge i as.length with h | h
        · rw [List.getElem?_append_left h] at z
          obtain ⟨n1, h1⟩ := has i a z
          exact ⟨n1, by rw [upd_ne n1]; exact s3 _ _ h1⟩
        · rw [List.getElem?_append_right h] at z
          have ei : i - as.length = 0 := by
            have := (List.getElem?_eq_some_iff.mp z).1
            simpa using this
          rw [ei] at z
          cases z
          refine ⟨CB.symm, ?_⟩
          rw [upd_ne CB.symm, hB, show i = j by omega]
          rfl
    rintro H2 ⟨s2', as, hC, las, has⟩
    rw [lgV] at las
    have las : as.length = gv.length := by simpa using las
    have s2 : Same H1 H2 := fun b o e => hd1_le _ _ (s2' _ _ e)
    have byAt : ∀ i, i < gv.length → ∃ a, as[i]? = some a ∧ H2 a = some (.lst (byV held i)) := fun i hi => by
      have e : as[i]? = some as[i] := List.getElem?_eq_getElem _
      exact ⟨_, e, (has _ _ e).2⟩
    -- order
    refine ⟨.ref C, rfl, C, _, rfl, SqL.of hC, fun F nF => ?_⟩
    refine lc_enum (K := K) (a := C) (xs := as.map V.ref) (fun i H' => Same H2 (hd1 F H') ∧ ∃ us : List Addr, H' F = some (.lst (us.map V.ref)) ∧ us.length = i ∧ ∀ j a, us[j]? = some a → a ≠ F ∧ H' a = some (.tup [.int ((byV held j).length : Nat), .int (j : Nat)])) ⟨hd1_of (same_upd nF) nF, [], upd_same, rfl, fun i a z => by simp at z⟩ (fun i H' _ z => SqL.of (hd1_le _ _ (z.1 _ _ hC))) ?_ ?_
    · rintro i x T2 H3 hx nT ⟨s3, us, hF, lus, hus⟩
      rw [List.getElem?_map] at hx
      have il : i < gv.length := by
        rw [← las]
        cases e : as[i]? with
        | none => rw [e] at hx; cases hx
        | some a => exact (List.getElem?_eq_some_iff.mp e).1
      obtain ⟨a, ea, ha⟩ := byAt i il
      rw [ea] at hx
      obtain rfl := Option.some.inj hx
      have s4 := same_upd (o := HO.tup [V.int (i : Nat), V.ref a]) nT
      have h4 : upd H3 T2 (HO.tup [V.int (i : Nat), V.ref a]) T2 = some (.tup [V.int (i : Nat), V.ref a]) := upd_same
      generalize upd H3 T2 (HO.tup [V.int (i : Nat), V.ref a]) = H4 at s4 h4 ⊢
      have s24 := s3.trans (hd1_same s4)
      have ha4 := hd1_le _ _ (s24 _ _ ha)
      have hF4 := s4 _ _ hF
      refine ⟨T2, _, rfl, SqT.of h4, rfl, _, _, rfl, _, _, rfl, rfl, rfl, .ref a, rfl, a, _, rfl, .inl (SqL.of ha4), .int (i : Nat), rfl, by show 2 ≤ sizeLine; decide, fun q2 nq2 => ?_⟩
      have Fq : F ≠ q2 := ne_of_none hF4 nq2
      have s5 := same_upd (o := HO.tup [V.int ((byV held i).length : Nat), V.int (i : Nat)]) nq2
      refine ⟨_, s5 _ _ hF4, ?_, (s24.trans (hd1_same s5)).trans hd1_upd, us ++ [q2], ?_, by rw [List.length_append, lus]; rfl, fun j b z => ?_⟩
      · rw [List.length_map, lus]
        exact Nat.lt_of_lt_of_le (show _ < 256 by omega) (by decide)
      · rw [upd_same, List.map_append]
        rfl
      · rcases Nat.lt_or_ge j us.length with h | h
        · rw [List.getElem?_append_left h] at z
          obtain ⟨n1, h1⟩ := hus j b z
          exact ⟨n1, by rw [upd_ne n1]; exact s5 _ _ (s4 _ _ h1)⟩
        · rw [List.getElem?_append_right h] at z
          have ei : j - us.length = 0 := by
            have := (List.getElem?_eq_some_iff.mp z).1
            simpa using this
          rw [ei] at z
          cases z
          refine ⟨Fq.symm, ?_⟩
          rw [upd_ne Fq.symm, show j = i by omega]
          exact upd_same
    rintro H3 ⟨s3', us, hF, lus, hus⟩
    rw [List.length_map, las] at lus
    have s3 : Same H2 H3 := fun b o e => hd1_le _ _ (s3' _ _ e)
    refine ⟨F, us.map V.ref, kf48 H3, rfl, SqL.of hF, fun x hx => ?_, fun ys p _ perm np => ?_⟩
    · obtain ⟨t, ht, rfl⟩ := List.mem_map.mp hx
      obtain ⟨j, hj, ej⟩ := List.getElem_of_mem ht
      have h := (hus j t (by rw [List.getElem?_eq_getElem hj, ej])).2
      have e : kf48 H3 (.ref t) = [((byV held j).length : Int), (j : Int)] := by
        show (match H3 t with | some (.tup [.int a, .int b]) => [a, b] | _ => []) = _
        rw [h]
      refine ⟨t, rfl, ?_, by rw [e]; rfl⟩
      rw [e]
      exact SqT.of h
    have s4 := same_upd (o := HO.lst ys) np
    have hO : upd H3 p (HO.lst ys) p = some (.lst ys) := upd_same
    generalize upd H3 p (HO.lst ys) = H4 at s4 hO ⊢
    have ord1 : ∀ y ∈ ys, ∃ (t : Addr) (j : Nat) (c : Int), y = .ref t ∧ j < gv.length ∧ H4 t = some (.tup [.int c, .int (j : Nat)]) := fun y hy => by
      obtain ⟨t, ht, rfl⟩ := List.mem_map.mp (perm.mem_iff.mp hy)
      obtain ⟨j, hj, ej⟩ := List.getElem_of_mem ht
      exact ⟨t, j, _, rfl, by omega, s4 _ _ (hus j t (by rw [List.getElem?_eq_getElem hj, ej])).2⟩
    have ord2 : ∀ j, j < gv.length → ∃ (t : Addr) (c : Int), .ref t ∈ ys ∧ H4 t = some (.tup [.int c, .int (j : Nat)]) := fun j hj => by
      have e : us[j]? = some us[j] := List.getElem?_eq_getElem (by omega)
      exact ⟨us[j], _, perm.mem_iff.mpr (List.mem_map.mpr ⟨_, List.getElem_mem _, rfl⟩), s4 _ _ (hus j _ e).2⟩
    have lys : ys.length = gv.length := by rw [perm.length_eq, List.length_map, lus]
    have s04 : Same H H4 := ((s1.trans s2).trans s3).trans s4
    have hA4 := ((s2.trans s3).trans s4) _ _ hA
    have hC4 := (s3.trans s4) _ _ hC
    have by4 : ∀ i, i < gv.length → ∃ a, as[i]? = some a ∧ H4 a = some (.lst (byV held i)) := fun i hi => by
      obtain ⟨a, e, h⟩ := byAt i hi
      exact ⟨a, e, (s3.trans s4) _ _ h⟩
    intro R nR
    refine ⟨upd_same, [(.inl 0, .bl true)], rfl, by decide, ?_⟩
    have sR : Same H4 (upd (upd H4 R (HO.dK [])) R (HO.dK (mergeK [] [((Sum.inl 0 : Key), V.bl true)]))) := fun b o e => by
      rw [upd_ne (ne_of_none e nR), upd_ne (ne_of_none e nR)]
      exact e
    have hR0 : upd (upd H4 R (HO.dK [])) R (HO.dK (mergeK [] [((Sum.inl 0 : Key), V.bl true)])) R = some (.dK [((Sum.inl 0 : Key), V.bl true)]) := upd_same
    generalize upd (upd H4 R (HO.dK [])) R (HO.dK (mergeK [] [((Sum.inl 0 : Key), V.bl true)])) = H5 at sR hR0 ⊢
    have ew : ((2 : Int) ^ gv.length - 1) = ((2 ^ gv.length - 1 : Nat) : Int) := by
      have a : ((2 ^ gv.length : Nat) : Int) = (2 : Int) ^ gv.length := by rw [Int.natCast_pow]; rfl
      have b : 0 < 2 ^ gv.length := Nat.pow_pos (by decide)
      omega
    refine while_by (fun σ H' => ∃ (r : Nat) (R : Addr) (kvs : List (Key × V)) (ks : List Nat) (y8 y9 y10 y11 : Option V), σ = [some (.ref M), some (.ref G), some (.int ((2 : Int) ^ gv.length - 1)), some (.ref A0), some (.ref C), some (.ref p), some (.ref R), some (.int (r : Nat)), y8, y9, y10, y11, none, none, none, none, none] ∧ Same H4 H' ∧ H4 R = none ∧ H' R = some (.dK kvs) ∧ KvK kvs ks ∧ Keys held gv.length r ks) (fun σ _ => msr48 gv.length σ) ⟨0, R, _, [0], _, _, _, _, rfl, sR, nR, hR0, rfl, Keys.zero⟩ ?_ ?_
    rotate_left
    · intro σ H Q Q' hq h
      obtain ⟨x, ex, h⟩ := h
      refine ⟨x, ex, fun e0 ne0 => ?_⟩
      obtain ⟨a, b, kvs, e1, e2, h1, h2, k, ek, h3⟩ := h e0 ne0
      refine ⟨a, b, kvs, e1, e2, h1, h2, k, ek, ?_⟩
      cases k with
      | true =>
        rw [if_pos rfl] at h3 ⊢
        obtain ⟨y, ey, z, ez, a', o, ea, hd, k', ek', h4⟩ := h3
        exact ⟨y, ey, z, ez, a', o, ea, hd, k', ek', hq _ _ h4⟩
      | false =>
        rw [if_neg (by decide)] at h3 ⊢
        exact hq _ _ h3
    clear nR hR0 sR
    rintro σ H5 ⟨r, R, kvs, ks, y8, y9, y10, y11, rfl, s5, nR, hR, kk, kok⟩
    have s05 := s04.trans s5
    have lkv : ∀ {r kvs ks}, KvK kvs ks → Keys held gv.length r ks → kvs.length < sizeLine := fun a b => by
      rw [a.len]
      have c := b.few
      have d : 2 ^ held.length ≤ 2 ^ 18 := Nat.pow_le_pow_right (by decide) lheld
      exact Nat.lt_of_le_of_lt (Nat.le_trans c d) (by decide)
    refine ⟨.ref R, rfl, fun e0 ne0 => ?_⟩
    have s6 := same_upd (o := HO.dK []) ne0
    refine ⟨R, e0, kvs, rfl, rfl, s6 _ _ hR, upd_same, _, rfl, ?_⟩
    generalize upd H5 e0 (HO.dK []) = H6 at s6 ⊢
    have hR6 := s6 _ _ hR
    have s46 := s5.trans s6
    refine ite2 (fun z => ?_) (fun z => ?_)
    · refine ⟨.int ((2 : Int) ^ gv.length - 1), rfl, .ref R, rfl, R, valV kvs (Sum.inl ((2 ^ gv.length - 1 : Nat) : Int)), rfl, by rw [ew]; exact DGet.k (k := Sum.inl ((2 ^ gv.length - 1 : Nat) : Int)) hR6, _, rfl, ?_⟩
      rw [kk.isSome]
      refine ite2 (fun z5 => ?_) (fun z5 => ?_)
      · have out : 2 ^ gv.length - 1 ∉ ks := by simpa using z5
        have kne : ks ≠ [] := fun y => by
          have : kvs = [] := List.length_eq_zero_iff.mp (by rw [kk.len, y]; rfl)
          rw [this] at z
          cases z
        have rn := kok.round kne
        intro D nD
        have nD4 := noneS s46 nD
        have nDR : R ≠ D := ne_of_none hR6 nD
        have s7 := same_upd (o := HO.dK []) nD
        have hD7 : upd H6 D (HO.dK []) D = some (.dK []) := upd_same
        generalize upd H6 D (HO.dK []) = H7 at s7 hD7 ⊢
        have hR7 := s7 _ _ hR6
        have s47 := s46.trans s7
        refine ⟨R, .dK kvs, hR7, trivial, fun od => ?_⟩
        have sF : Same H4 (upd H7 R (.frz od (.dK kvs))) := fun b o e => by
          rw [upd_ne (ne_of_none e nR)]
          exact s47 _ _ e
        have hRF : upd H7 R (.frz od (.dK kvs)) R = some (.frz od (.dK kvs)) := upd_same
        have hDF : upd H7 R (.frz od (.dK kvs)) D = some (.dK []) := by rw [upd_ne (Ne.symm nDR)]; exact hD7
        generalize upd H7 R (.frz od (.dK kvs)) = H8 at sF hRF hDF ⊢
        refine ⟨.ref R, rfl, R, od, rfl, .inl ⟨kvs, hRF, ?_⟩⟩
        refine for_it (walk_keys (d := R) (o := od) (kvs := kvs)) (fun i σ H' => ∃ (y9 y10 y11 : Option V) (kv2 : List (Key × V)) (ks2 : List Nat), σ = [some (.ref M), some (.ref G), some (.int ((2 : Int) ^ gv.length - 1)), some (.ref A0), some (.ref C), some (.ref p), some (.ref R), some (.int (r : Nat)), some (.ref D), y9, y10, y11, none, none, none, none, none] ∧ Same H4 H' ∧ H' R = some (.frz od (.dK kvs)) ∧ H' D = some (.dK kv2) ∧ KvK kv2 ks2 ∧ Keys held gv.length (r + 1) ks2) ⟨_, _, _, [], [], rfl, sF, hRF, hDF, rfl, List.nodup_nil, fun k hk => by cases hk⟩ (fun i σ H' _ ⟨_, _, _, _, _, _, _, h, _⟩ => h) ?_ ?_
        · rintro i x σ H9z H9 il ⟨y9, y10, y11, kv2, ks2, rfl, s9, hR9, hD9, kk2, kok2⟩ ⟨rfl, k, v, hk, rfl⟩
          obtain ⟨g, hg, rfl⟩ : ∃ g : Nat, g ∈ ks ∧ k = Sum.inl (g : Int) := by
            have m1 : k ∈ kvs.map (·.1) := List.mem_map.mpr ⟨_, List.mem_of_getElem? hk, rfl⟩
            rw [kk] at m1
            obtain ⟨g, hg, e⟩ := List.mem_map.mp m1
            exact ⟨g, hg, e.symm⟩
          have gok := kok.2 g hg
          obtain ⟨a0, a0n, a0g⟩ := free_bit gok.1 fun y => out (y ▸ hg)
          have hO9 := s9 _ _ hO
          refine ⟨.ref p, rfl, p, rfl, ⟨_, SqL.of hO9⟩, fun L nL => ?_⟩
          refine lc_list (K := K) (a := p) (xs := ys) (fun i H' => Same H9 (hd1 L H') ∧ ∃ zs : List Nat, H' L = some (.lst ((zs.map fun x : Nat => (x : Int)).map V.int)) ∧ zs.length ≤ i ∧ (∀ z ∈ zs, z < gv.length ∧ g.testBit z = false) ∧ ∀ (t : Addr) (c : Int) (j : Nat), V.ref t ∈ ys.take i → H4 t = some (.tup [.int c, .int (j : Nat)]) → g.testBit j = false → zs ≠ []) ⟨hd1_of (same_upd nL) nL, [], upd_same, Nat.zero_le _, (fun z hz => by cases hz), fun t c j m => by simp at m⟩ (fun i H' _ z => SqL.of (hd1_le _ _ (z.1 _ _ hO9))) ?_ ?_
          · rintro i2 y H10 hy ⟨s10, zs, hL, lzs, hz, hzc⟩
            obtain ⟨t, j, c, rfl, jn, ht⟩ := ord1 y (List.mem_of_getElem? hy)
            have il2 := (List.getElem?_eq_some_iff.mp hy).1
            have ht10 := hd1_le _ _ (s10 _ _ (s9 _ _ ht))
            have etk : ys.take (i2 + 1) = ys.take i2 ++ [V.ref t] := by rw [List.take_add_one, hy]; rfl
            refine ⟨t, _, rfl, SqT.of ht10, rfl, _, _, rfl, _, _, rfl, rfl, rfl, .int (g : Int), rfl, .int (j : Nat), rfl, (g : Int), j, rfl, rfl, g / 2 ^ j, by rw [Int.natCast_ediv, Int.natCast_pow]; rfl, rfl, rfl, _, rfl, ?_⟩
            rw [bit_dec0]
            refine ite2 (fun e => ?_) (fun e => ?_)
            · refine ⟨.int (j : Nat), rfl, _, hL, ?_, s10.trans hd1_upd, zs ++ [j], ?_, by rw [List.length_append]; exact Nat.succ_le_succ lzs, ?_, fun _ _ _ _ _ _ y => by simp at y⟩
              · rw [List.length_map, List.length_map]
                exact Nat.lt_of_le_of_lt lzs (Nat.lt_of_lt_of_le (show _ < 256 by omega) (by decide))
              · rw [upd_same, List.map_append, List.map_append]
                rfl
              · intro z6 hz6
                rcases List.mem_append.mp hz6 with hz6 | hz6
                · exact hz z6 hz6
                · rw [List.mem_singleton.mp hz6]
                  exact ⟨jn, by simpa using e⟩
            · refine ⟨s10, zs, hL, by omega, hz, fun t' c' j' m ht' hg' => ?_⟩
              rw [etk] at m
              rcases List.mem_append.mp m with m | m
              · exact hzc t' c' j' m ht' hg'
              · have et : t' = t := V.ref.inj (List.mem_singleton.mp m)
                rw [et, ht] at ht'
                have ej : (j : Int) = (j' : Int) := by
                  have := HO.tup.inj (Option.some.inj ht')
                  simp at this
                  omega
                rw [show j' = j by omega] at hg'
                rw [hg'] at e
                exact absurd rfl e
          rintro H10 ⟨s10', zs, hL, _, hz, hzc⟩
          rw [List.take_length] at hzc
          have s10 : Same H9 H10 := fun b o e => hd1_le _ _ (s10' _ _ e)
          obtain ⟨ta, ca, mta, hta⟩ := ord2 a0 a0n
          have zne := hzc ta ca a0 mta hta a0g
          obtain ⟨z7, zr, rfl⟩ := List.exists_cons_of_ne_nil zne
          obtain ⟨z7n, z7g⟩ := hz z7 List.mem_cons_self
          obtain ⟨ba, eba, hba⟩ := by4 z7 z7n
          have s410 := s9.trans s10
          refine ⟨L, _, 0, .int (z7 : Int), rfl, rfl, SqL.of hL, at_hd, ?_⟩
          refine ⟨.ref C, rfl, .int (z7 : Int), rfl, C, _, (z7 : Int), .ref ba, rfl, rfl, SqL.of (s410 _ _ hC4), atI_nat (by rw [List.getElem?_map, eba]; rfl), ba, rfl, ⟨_, SqL.of (s410 _ _ hba)⟩, ?_⟩
          refine for_list (K := K) (a := ba) (xs := byV held z7) (fun i2 σ H' => ∃ (y11 : Option V) (kv2 : List (Key × V)) (ks2 : List Nat), σ = [some (.ref M), some (.ref G), some (.int ((2 : Int) ^ gv.length - 1)), some (.ref A0), some (.ref C), some (.ref p), some (.ref R), some (.int (r : Nat)), some (.ref D), some (.int (g : Int)), some (.int (z7 : Int)), y11, none, none, none, none, none] ∧ Same H4 H' ∧ H' R = some (.frz od (.dK kvs)) ∧ H' D = some (.dK kv2) ∧ KvK kv2 ks2 ∧ Keys held gv.length (r + 1) ks2) ⟨_, kv2, ks2, rfl, s410, s10 _ _ hR9, s10 _ _ hD9, kk2, kok2⟩ (fun i σ H' _ ⟨_, _, _, _, s, _⟩ => SqL.of (s _ _ hba)) ?_ ?_
          · rintro i2 y σ H11 hy ⟨y11, kv3, ks3, rfl, s11, hR11, hD11, kk3, kok3⟩
            obtain ⟨h, hh, hbit, rfl⟩ : ∃ h : Nat, h ∈ held ∧ h.testBit z7 = true ∧ y = .int (h : Int) := by
              have m1 := List.mem_of_getElem? hy
              unfold byV at m1
              obtain ⟨x1, hx1, rfl⟩ := List.mem_map.mp m1
              obtain ⟨x2, hx2, rfl⟩ := List.mem_map.mp hx1
              exact ⟨x2, (List.mem_filter.mp hx2).1, (List.mem_filter.mp hx2).2, rfl⟩
            have eor : Builtin.bitOr (g : Int) (h : Int) = ((g ||| h : Nat) : Int) := by
              rw [bitOr_nn (Int.natCast_nonneg _) (Int.natCast_nonneg _), Int.toNat_natCast, Int.toNat_natCast]
            obtain ⟨ks4, kk4, kok4⟩ := kk3.put kok3 (v := .bl true) (gok.or hh (heldlt h hh) z7n z7g hbit)
            refine ⟨.ref D, rfl, .int (g : Int), rfl, .int (h : Int), rfl, _, _, rfl, rfl, D, upd H11 D (.dK (putK kv3 (Sum.inl ((g ||| h : Nat) : Int)) (.bl true))), rfl, ?_, ?_⟩
            · show DPut _ _ (V.int (Builtin.bitOr (g : Int) (h : Int))) _ _
              rw [eor]
              exact DPut.k (k := Sum.inl ((g ||| h : Nat) : Int)) hD11 (lkv kk3 kok3)
            · refine ⟨_, _, ks4, rfl, fun b o e => ?_, ?_, upd_same, kk4, kok4⟩
              · rw [upd_ne (ne_of_none e nD4)]
                exact s11 _ _ e
              · rw [upd_ne nDR]
                exact hR11
          · rintro σ H11 ⟨y11, kv3, ks3, rfl, s11, hR11, hD11, kk3, kok3⟩
            exact ⟨_, _, _, kv3, ks3, rfl, s11, hR11, hD11, kk3, kok3⟩
        · rintro σ H9 ⟨y9, y10, y11, kv2, ks2, rfl, s9, hR9, hD9, kk2, kok2⟩
          refine ⟨hR9, ?_⟩
          have s10 : Same H4 (upd H9 R (.dK kvs)) := fun b o e => by
            rw [upd_ne (ne_of_none e nR)]
            exact s9 _ _ e
          refine ⟨.ref D, rfl, .int (r : Nat), rfl, _, _, rfl, rfl, ⟨r + 1, D, kv2, ks2, _, _, _, _, rfl, s10, nD4, by rw [upd_ne (Ne.symm nDR)]; exact hD9, kk2, kok2⟩, ?_⟩
          show gv.length + 1 - ((r : Int) + 1).toNat < gv.length + 1 - ((r : Nat) : Int).toNat
          omega
      · have inn : 2 ^ gv.length - 1 ∈ ks := by simpa using z5
        refine ⟨.ref R, rfl, fun e1 ne1 => ?_⟩
        have s7 := same_upd (o := HO.dK []) ne1
        have s07 := (s05.trans s6).trans s7
        refine ⟨R, e1, kvs, rfl, rfl, s7 _ _ hR6, upd_same, _, rfl, ite2 (fun y => ?_) (fun _ => ?_)⟩
        · rw [y] at z
          cases z
        exact ⟨.int (r : Nat), rfl, q (some r) _ s07 fun k e => by cases e; rw [← eheld] at kok; exact kok.whole inn⟩
    · refine ⟨.ref R, rfl, fun e1 ne1 => ?_⟩
      have s7 := same_upd (o := HO.dK []) ne1
      have s07 := (s05.trans s6).trans s7
      refine ⟨R, e1, kvs, rfl, rfl, s7 _ _ hR6, upd_same, _, rfl, ite2 (fun _ => ?_) (fun y => ?_)⟩
      · exact q none _ s07 fun k e => by cases e
      · exact absurd (by simpa using z) y

end
end Gk

--@NEST
set_option Elab.async false
set_option linter.all false
set_option maxRecDepth 100000
set_option maxHeartbeats 1000000
set_option pp.maxSteps 1500
set_option pp.deepTerms false
namespace Gk
open PySem PySem.Spec PyProof.Rows L2
section
variable {P : Program} {w : World} {K : PySem.W.Frag} {mg : Str → Option Value} {base : Heap}
/-! ### there are at most 18 greatest allowed products of up to four inputs -/
theorem hall_iff : ∀ {p q : List Nat}, p.length = q.length → (hall p q = true ↔ ∀ i, i < p.length → (p.getD i 0 = 45 ∨ p.getD i 0 = q.getD i 0))
  | [], [], _ => by simp [hall]
  | a :: p, b :: q, l => by
    have ih := hall_iff (p := p) (q := q) (by simpa using l)
    show ((decide (a = 45) || decide (a = b)) && hall p q) = true ↔ _
    rw [Bool.and_eq_true, ih]
    constructor
    · rintro ⟨h0, h⟩ i hi
      cases i with
      | zero => simpa using h0
      | succ i => simpa using h i (by simpa using hi)
    · intro h
      exact ⟨by simpa using h 0 (by simp), fun i hi => by simpa using h (i + 1) (by simpa using hi)⟩
  | [], _ :: _, l => by cases l
  | _ :: _, [], l => by cases l
theorem meet_iff : ∀ {p q : List Nat}, p.length = q.length → (meetM p q = true ↔ ∀ i, i < p.length → (p.getD i 0 = 45 ∨ q.getD i 0 = 45 ∨ p.getD i 0 = q.getD i 0))
  | [], [], _ => by simp [meetM]
  | a :: p, b :: q, l => by
    have ih := meet_iff (p := p) (q := q) (by simpa using l)
    show ((decide (a = 45) || decide (b = 45) || decide (a = b)) && meetM p q) = true ↔ _
    rw [Bool.and_eq_true, ih]
    constructor
    · rintro ⟨h0, h⟩ i hi
      cases i with
      | zero => simpa [or_assoc] using h0
      | succ i => simpa using h i (by simpa using hi)
    · intro h
      exact ⟨by simpa [or_assoc] using h 0 (by simp), fun i hi => by simpa using h (i + 1) (by simpa using hi)⟩
  | [], _ :: _, l => by cases l
  | _ :: _, [], l => by cases l
theorem hall_trans {p q r : List Nat} (l1 : p.length = q.length) (l2 : q.length = r.length) (h1 : hall p q = true) (h2 : hall q r = true) : hall p r = true := by
  rw [hall_iff l1] at h1
  rw [hall_iff l2] at h2
  rw [hall_iff (l1.trans l2)]
  intro i hi
  rcases h1 i hi with a | a
  · exact .inl a
  · rcases h2 i (by omega) with b | b
    · exact .inl (by rw [a, b])
    · exact .inr (by rw [a, b])
theorem why_false {m : Nat} {bs : List Bool} {cs : List Ch} {p : List Nat} : (whyM m bs cs p).isNone = false ↔ (∃ z ∈ (rowsI m).zip bs, (!z.2 && hrow p z.1) = true) ∨ ∃ c ∈ cs, atM bs p c.1 c.2 = false := by
  unfold whyM
  cases e : ((rowsI m).zip bs).find? (fun z => !z.2 && hrow p z.1) with
  | some z =>
    exact ⟨fun _ => .inl ⟨z, List.mem_of_find?_eq_some e, List.find?_some (p := fun z : List Int × Bool => !z.2 && hrow p z.1) e⟩, fun _ => rfl⟩
  | none =>
    have n := List.find?_eq_none.mp e
    constructor
    · intro h
      refine .inr (Classical.byContradiction fun k => ?_)
      have : (cs.findIdx? fun c => !atM bs p c.1 c.2) = none := List.findIdx?_eq_none_iff.mpr fun c hc => by
        cases e2 : atM bs p c.1 c.2 with
        | true => rfl
        | false => exact absurd ⟨c, hc, e2⟩ k
      rw [show (((cs.findIdx? fun c => !atM bs p c.1 c.2).map Sum.inr : Why)).isNone = true from by rw [this]; rfl] at h
      cases h
    · rintro (⟨z, hz, h⟩ | ⟨c, hc, h⟩)
      · exact absurd h (n z hz)
      · cases e2 : (cs.findIdx? fun c => !atM bs p c.1 c.2) with
        | none =>
          have := List.findIdx?_eq_none_iff.mp e2 c hc
          rw [h] at this
          cases this
        | some k => rfl
def Vtx (m : Nat) (x : List Nat) : Prop := x.length = m ∧ ∀ i, i < m → x.getD i 0 = 48 ∨ x.getD i 0 = 49
theorem rowS_getD {r : List Int} {i : Nat} (h : i < r.length) : (rowS r).getD i 0 = wS (r.getD i 0) := by
  unfold rowS
  rw [List.getD_eq_getElem?_getD, List.getD_eq_getElem?_getD, List.getElem?_map, List.getElem?_eq_getElem h]
  rfl
theorem wS_two (b : Int) : wS b = 48 ∨ wS b = 49 := by
  unfold wS
  split
  · exact .inr rfl
  · exact .inl rfl
theorem row_vtx {m : Nat} {r : List Int} (l : r.length = m) : Vtx m (rowS r) :=
  ⟨by unfold rowS; rw [List.length_map, l], fun i hi => by rw [rowS_getD (by omega)]; exact wS_two _⟩
theorem cube_getD {m : Nat} {a b : List Int} (la : a.length = m) (lb : b.length = m) {i : Nat} (h : i < m) : (cubeM a b).getD i 0 = 45 ∨ (cubeM a b).getD i 0 = 48 ∨ (cubeM a b).getD i 0 = 49 := by
  have hz : (a.zip b)[i]? = some (a[i]'(by omega), b[i]'(by omega)) := by rw [List.getElem?_zip_eq_some]; exact ⟨List.getElem?_eq_getElem _, List.getElem?_eq_getElem _⟩
  unfold cubeM
  rw [List.getD_eq_getElem?_getD, List.getElem?_map, hz]
  show (if a[i] = b[i] then wS a[i] else 45) = 45 ∨ (if a[i] = b[i] then wS a[i] else 45) = 48 ∨ (if a[i] = b[i] then wS a[i] else 45) = 49
  by_cases e : a[i] = b[i]
  · rw [if_pos e]
    exact .inr (wS_two _)
  · rw [if_neg e]
    exact .inl rfl
def vtxOf (m : Nat) (p c v : List Nat) : List Nat := (List.range m).map fun i => if p.getD i 0 ≠ 45 then p.getD i 0 else if c.getD i 0 ≠ 45 then c.getD i 0 else v.getD i 0
theorem vtxOf_at {m : Nat} {p c v : List Nat} {i : Nat} (h : i < m) : (vtxOf m p c v).getD i 0 = if p.getD i 0 ≠ 45 then p.getD i 0 else if c.getD i 0 ≠ 45 then c.getD i 0 else v.getD i 0 := by
  unfold vtxOf
  rw [List.getD_eq_getElem?_getD, List.getElem?_map, List.getElem?_range h]
  rfl
theorem prod_at {m : Nat} {p : List Nat} (ok : ProdOk m p) {i : Nat} (h : i < m) : p.getD i 0 = 45 ∨ p.getD i 0 = 48 ∨ p.getD i 0 = 49 := by
  have e : p[i]? = some (p[i]'(by rw [ok.1]; exact h)) := List.getElem?_eq_getElem _
  rw [List.getD_eq_getElem?_getD, e]
  exact ok.2 _ (List.getElem_mem _)
theorem kill {m : Nat} {bs : List Bool} {cs : List Ch} {p : List Nat} (m6 : m ≤ 6) (okc : ∀ c ∈ cs, ChOk m c.1 c.2) (okp : ProdOk m p) (h : (whyM m bs cs p).isNone = false) :
    ∃ x, Vtx m x ∧ hall p x = true ∧ ∀ p', ProdOk m p' → hall p p' = true → hall p' x = true → (whyM m bs cs p').isNone = false := by
  rcases why_false.mp h with ⟨z, hz, e⟩ | ⟨c, hc, e⟩
  · rw [Bool.and_eq_true] at e
    have lr := (rowsI_ok m6 z.1 (List.of_mem_zip hz).1).1
    refine ⟨rowS z.1, row_vtx lr, e.2, fun p' _ _ h2 => why_false.mpr (.inl ⟨z, hz, ?_⟩)⟩
    rw [Bool.and_eq_true]
    exact ⟨e.1, h2⟩
  · have ok := okc c hc
    have lc : (cubeM c.1 c.2).length = m := cube_len ok
    have va := row_vtx ok.la
    unfold atM at e
    rw [Bool.or_eq_false_iff, Bool.or_eq_false_iff, Bool.or_eq_false_iff] at e
    obtain ⟨⟨⟨e1, e2⟩, e3⟩, e4⟩ := e
    have mt : meetM p (cubeM c.1 c.2) = true := by cases q : meetM p (cubeM c.1 c.2) with
      | true => rfl
      | false => rw [q] at e4; cases e4
    rw [meet_iff (by rw [okp.1, lc])] at mt
    have lx : (vtxOf m p (cubeM c.1 c.2) (rowS c.1)).length = m := by unfold vtxOf; rw [List.length_map, List.length_range]
    have cx : ∀ i, i < m → (cubeM c.1 c.2).getD i 0 = 45 ∨ (cubeM c.1 c.2).getD i 0 = (vtxOf m p (cubeM c.1 c.2) (rowS c.1)).getD i 0 := fun i hi => by
      rw [vtxOf_at hi]
      rcases mt i (by rw [okp.1]; exact hi) with y | y | y
      · by_cases k : (cubeM c.1 c.2).getD i 0 = 45
        · exact .inl k
        · rw [if_neg (fun z => z y), if_pos k]
          exact .inr rfl
      · exact .inl y
      · by_cases k : (cubeM c.1 c.2).getD i 0 = 45
        · exact .inl k
        · rw [if_pos (by rw [y]; exact k)]
          exact .inr y.symm
    refine ⟨vtxOf m p (cubeM c.1 c.2) (rowS c.1), ⟨lx, fun i hi => ?_⟩, ?_, fun p' okp' h1 h2 => why_false.mpr (.inr ⟨c, hc, ?_⟩)⟩
    · rw [vtxOf_at hi]
      rcases prod_at okp hi with y | y | y
      · rw [if_neg (fun z => z y)]
        rcases cube_getD ok.la ok.lb hi with k | k | k
        · rw [if_neg (fun z => z k)]
          exact va.2 i hi
        · rw [if_pos (by rw [k]; decide)]
          exact .inl k
        · rw [if_pos (by rw [k]; decide)]
          exact .inr k
      · rw [if_pos (by rw [y]; decide)]
        exact .inl y
      · rw [if_pos (by rw [y]; decide)]
        exact .inr y
    · rw [hall_iff (by rw [okp.1, lx])]
      intro i hi
      rw [vtxOf_at (by rw [← okp.1]; exact hi)]
      by_cases k : p.getD i 0 = 45
      · exact .inl k
      · rw [if_pos k]
        exact .inr rfl
    · have up : ∀ r : List Int, r.length = m → hrow p' r = true → hrow p r = true := fun r lr hr => hall_trans (by rw [okp.1, okp'.1]) (by rw [okp'.1]; exact (row_vtx lr).1.symm) h1 hr
      have mt' : meetM p' (cubeM c.1 c.2) = true := by
        rw [meet_iff (by rw [okp'.1, lc])]
        intro i hi
        rw [okp'.1] at hi
        rw [hall_iff (by rw [okp'.1, lx])] at h2
        rcases h2 i (by rw [okp'.1]; exact hi) with y | y
        · exact .inl y
        · rcases cx i hi with k | k
          · exact .inr (.inl k)
          · exact .inr (.inr (by rw [y, k]))
      have k2 : (oneB bs c.1 && hrow p' c.1) = false := by
        cases o : oneB bs c.1 with
        | false => rfl
        | true =>
          rw [o, Bool.true_and] at e2
          cases o2 : hrow p' c.1 with
          | false => rfl
          | true => rw [up _ ok.la o2] at e2; cases e2
      have k3 : (oneB bs c.2 && hrow p' c.2) = false := by
        cases o : oneB bs c.2 with
        | false => rfl
        | true =>
          rw [o, Bool.true_and] at e3
          cases o2 : hrow p' c.2 with
          | false => rfl
          | true => rw [up _ ok.lb o2] at e3; cases e3
      unfold atM
      rw [e1, k2, k3, mt']
      rfl
def P2 : List (List Nat) := [[45, 45], [45, 48], [45, 49], [48, 45], [48, 48], [48, 49], [49, 45], [49, 48], [49, 49]]
def V2 : List (List Nat) := [[48, 48], [48, 49], [49, 48], [49, 49]]
def kB (A : List Nat → Bool) : Bool := P2.all fun f => A f || V2.any fun x => hall f x && P2.all fun f' => !(hall f f' && hall f' x) || !A f'
def topB (A : List Nat → Bool) (f : List Nat) : Bool := A f && P2.all fun f' => decide (f' = f) || !hall f' f || !A f'
def asF (a b c d e f g h i : Bool) (p : List Nat) : Bool :=
  if p = [45, 45] then a else if p = [45, 48] then b else if p = [45, 49] then c else if p = [48, 45] then d else if p = [48, 48] then e else if p = [48, 49] then f else if p = [49, 45] then g else if p = [49, 48] then h else if p = [49, 49] then i else false
theorem nine : ∀ a b c d e f g h i : Bool, kB (asF a b c d e f g h i) = true → (P2.filter (topB (asF a b c d e f g h i))).length ≤ 2 := by decide +kernel
theorem asF_is (A : List Nat → Bool) : ∀ p ∈ P2, asF (A [45, 45]) (A [45, 48]) (A [45, 49]) (A [48, 45]) (A [48, 48]) (A [48, 49]) (A [49, 45]) (A [49, 48]) (A [49, 49]) p = A p := by
  intro p hp
  simp only [P2, List.mem_cons, List.not_mem_nil, or_false] at hp
  rcases hp with rfl | rfl | rfl | rfl | rfl | rfl | rfl | rfl | rfl <;> rfl
theorem all_cong {α : Type} {f g : α → Bool} {l : List α} (h : ∀ x ∈ l, f x = g x) : l.all f = l.all g := by
  rw [Bool.eq_iff_iff, List.all_eq_true, List.all_eq_true]
  exact ⟨fun k x hx => by rw [← h x hx]; exact k x hx, fun k x hx => by rw [h x hx]; exact k x hx⟩
theorem any_cong {α : Type} {f g : α → Bool} {l : List α} (h : ∀ x ∈ l, f x = g x) : l.any f = l.any g := by
  rw [Bool.eq_iff_iff, List.any_eq_true, List.any_eq_true]
  exact ⟨fun ⟨x, hx, k⟩ => ⟨x, hx, by rw [← h x hx]; exact k⟩, fun ⟨x, hx, k⟩ => ⟨x, hx, by rw [h x hx]; exact k⟩⟩
theorem top_two (A : List Nat → Bool) (h : kB A = true) : (P2.filter (topB A)).length ≤ 2 := by
  have e := asF_is A
  have n := nine (A [45, 45]) (A [45, 48]) (A [45, 49]) (A [48, 45]) (A [48, 48]) (A [48, 49]) (A [49, 45]) (A [49, 48]) (A [49, 49])
  revert n e
  generalize asF (A [45, 45]) (A [45, 48]) (A [45, 49]) (A [48, 45]) (A [48, 48]) (A [48, 49]) (A [49, 45]) (A [49, 48]) (A [49, 49]) = B
  intro e n
  have k : kB B = kB A := by
    unfold kB
    refine all_cong fun f hf => ?_
    rw [e f hf]
    congr 1
    refine any_cong fun x _ => ?_
    congr 1
    exact all_cong fun f' hf' => by rw [e f' hf']
  have t : P2.filter (topB B) = P2.filter (topB A) := by
    refine List.filter_congr fun f hf => ?_
    unfold topB
    rw [e f hf]
    congr 1
    exact all_cong fun f' hf' => by rw [e f' hf']
  rw [k, t] at n
  exact n h
theorem flat_two {α β : Type} (g : α → List β) : ∀ S : List α, (∀ s ∈ S, (g s).length ≤ 2) → (S.flatMap g).length ≤ 2 * S.length
  | [], _ => Nat.le_refl _
  | s :: r, h => by
    have a := h s List.mem_cons_self
    have b := flat_two g r fun x hx => h x (List.mem_cons_of_mem _ hx)
    rw [List.flatMap_cons, List.length_append, List.length_cons]
    omega
theorem hall_app {f g s t : List Nat} (l : f.length = g.length) : hall (f ++ s) (g ++ t) = (hall f g && hall s t) := by
  unfold hall
  rw [List.zip_append l, List.all_append]
theorem hall_self : ∀ s : List Nat, hall s s = true
  | [] => rfl
  | a :: s => by
    show ((decide (a = 45) || decide (a = a)) && hall s s) = true
    rw [hall_self s, decide_eq_true (rfl : a = a), Bool.or_true]
    rfl
theorem vtx_two {m : Nat} {x : List Nat} (h : Vtx (2 + m) x) : x.take 2 ∈ V2 := by
  match x, h with
  | a :: b :: r, h =>
    have h0 : a = 48 ∨ a = 49 := h.2 0 (by omega)
    have h1 : b = 48 ∨ b = 49 := h.2 1 (by omega)
    show [a, b] ∈ V2
    rcases h0 with rfl | rfl <;> rcases h1 with rfl | rfl <;> decide
  | [a], h => exact absurd h.1 (by show ¬ 1 = 2 + m; omega)
  | [], h => exact absurd h.1 (by show ¬ 0 = 2 + m; omega)
theorem P2_ok {f s : List Nat} {m : Nat} (hf : f ∈ P2) (hs : ProdOk m s) : ProdOk (2 + m) (f ++ s) ∧ f.length = 2 := by
  have a : (P2.all fun f => decide (f.length = 2) && f.all fun c => decide (c = 45) || decide (c = 48) || decide (c = 49)) = true := by decide
  have b := List.all_eq_true.mp a f hf
  rw [Bool.and_eq_true] at b
  have lf := of_decide_eq_true b.1
  refine ⟨⟨by rw [List.length_append, lf, hs.1], fun c hc => ?_⟩, lf⟩
  rcases List.mem_append.mp hc with hc | hc
  · have k := List.all_eq_true.mp b.2 c hc
    unfold SgOk
    simpa [or_assoc] using k
  · exact hs.2 c hc
theorem group {m : Nat} {bs : List Bool} {cs : List Ch} {s : List Nat} (m6 : 2 + m ≤ 6) (okc : ∀ c ∈ cs, ChOk (2 + m) c.1 c.2) (hs : ProdOk m s) : kB (fun f => (whyM (2 + m) bs cs (f ++ s)).isNone) = true := by
  refine List.all_eq_true.mpr fun f hf => ?_
  show ((whyM (2 + m) bs cs (f ++ s)).isNone || V2.any fun x => hall f x && P2.all fun f' => !(hall f f' && hall f' x) || !(whyM (2 + m) bs cs (f' ++ s)).isNone) = true
  obtain ⟨okf, lf⟩ := P2_ok hf hs
  cases e : (whyM (2 + m) bs cs (f ++ s)).isNone with
  | true => rfl
  | false =>
    rw [Bool.false_or]
    obtain ⟨x, vx, h1, h2⟩ := kill m6 okc okf e
    have lx : (x.take 2).length = 2 := by rw [List.length_take, vx.1]; omega
    have ex : x = x.take 2 ++ x.drop 2 := (List.take_append_drop 2 x).symm
    rw [ex, hall_app (by rw [lf, lx]), Bool.and_eq_true] at h1
    refine List.any_eq_true.mpr ⟨x.take 2, vtx_two vx, ?_⟩
    rw [Bool.and_eq_true]
    refine ⟨h1.1, List.all_eq_true.mpr fun f' hf' => ?_⟩
    obtain ⟨okf', lf'⟩ := P2_ok hf' hs
    cases e2 : hall f f' && hall f' (x.take 2) with
    | false => rfl
    | true =>
      rw [Bool.and_eq_true] at e2
      have := h2 (f' ++ s) okf' (by rw [hall_app (by rw [lf, lf']), e2.1, hall_self]; rfl) (by rw [ex, hall_app (by rw [lf', lx]), e2.2, h1.2]; rfl)
      rw [this]
      rfl
theorem great_few {m : Nat} {bs : List Bool} {cs : List Ch} (m6 : 2 + m ≤ 6) (m4 : 2 + m ≤ 4) (okc : ∀ c ∈ cs, ChOk (2 + m) c.1 c.2) : (greatM (2 + m) bs cs).length ≤ 2 * (prodsU m).length := by
  have nd : (greatM (2 + m) bs cs).Nodup := (prodsU_nodup m4).sublist (List.filter_sublist.trans List.filter_sublist)
  have sub : greatM (2 + m) bs cs ⊆ (prodsU m).flatMap fun s => (P2.filter (topB fun f => (whyM (2 + m) bs cs (f ++ s)).isNone)).map fun f => f ++ s := fun p hp => by
    have h1 := List.mem_filter.mp hp
    have h2 := List.mem_filter.mp h1.1
    have okp := prodsU_ok p h2.1
    have e : p = p.take 2 ++ p.drop 2 := (List.take_append_drop 2 p).symm
    have ld : ProdOk m (p.drop 2) := ⟨by rw [List.length_drop, okp.1]; omega, fun c hc => okp.2 c (List.mem_of_mem_drop hc)⟩
    have t2 : p.take 2 ∈ P2 := by
      have k : ProdOk 2 (p.take 2) := ⟨by rw [List.length_take, okp.1]; omega, fun c hc => okp.2 c (List.mem_of_mem_take hc)⟩
      have := prodsU_mem k
      have q : prodsU 2 = P2 := by decide +kernel
      rw [q] at this
      exact this
    refine List.mem_flatMap.mpr ⟨p.drop 2, prodsU_mem ld, List.mem_map.mpr ⟨p.take 2, List.mem_filter.mpr ⟨t2, ?_⟩, e.symm⟩⟩
    unfold topB
    rw [Bool.and_eq_true]
    refine ⟨by show (whyM (2 + m) bs cs (p.take 2 ++ p.drop 2)).isNone = true; rw [← e]; exact h2.2, List.all_eq_true.mpr fun f' hf' => ?_⟩
    obtain ⟨okf', lf'⟩ := P2_ok hf' ld
    cases d : decide (f' = p.take 2) with
    | true => rfl
    | false =>
      rw [Bool.false_or]
      cases hh : hall f' (p.take 2) with
      | false => rfl
      | true =>
        show (!true || !(whyM (2 + m) bs cs (f' ++ p.drop 2)).isNone) = true
        cases aa : (whyM (2 + m) bs cs (f' ++ p.drop 2)).isNone with
        | false => rfl
        | true =>
          have n := h1.2
          have : ((allowedM (2 + m) bs cs).any fun o => !decide (o = p) && hall o p) = true := by
            refine List.any_eq_true.mpr ⟨f' ++ p.drop 2, List.mem_filter.mpr ⟨prodsU_mem okf', aa⟩, ?_⟩
            rw [Bool.and_eq_true]
            constructor
            · have : f' ++ p.drop 2 ≠ p := fun z => by
                have := List.append_inj_left (z.trans e) (by rw [lf', List.length_take, okp.1]; omega)
                exact of_decide_eq_false d this
              simpa using this
            · rw [e, hall_app (by rw [lf', List.length_take, okp.1]; omega), hh]
              simp [hall_self]
          rw [this] at n
          cases n
  have a := nd.length_le_of_subset sub
  refine Nat.le_trans a (flat_two _ _ fun s hs => ?_)
  rw [List.length_map]
  exact top_two _ (group m6 okc (prodsU_ok s hs))
theorem great18 {m : Nat} {bs : List Bool} {cs : List Ch} (ok : WishOk m bs cs) : (greatM m bs cs).length ≤ 18 := by
  have m4 := ok.m4
  match m, ok with
  | 0, ok => exact absurd ok.m1 (by omega)
  | 1, ok => exact Nat.le_trans (Nat.le_trans (List.length_filter_le _ _) (List.length_filter_le _ _)) (by decide +kernel)
  | k + 2, ok =>
    have := great_few (m := k) (bs := bs) (cs := cs) (by omega) (by omega) (by rw [Nat.add_comm]; exact ok.oc)
    rw [Nat.add_comm] at this
    have l := prodsU_len k
    have l2 : 3 ^ k ≤ 3 ^ 2 := Nat.pow_le_pow_right (by decide) (by omega)
    omega

/-! ### no paper shows more than the fewest -/
theorem apart_le {al gv os : List (List Nat)} {n r : Nat} (nd : os.Nodup) (h : apartF al gv (.tuple (os.map fun o => .str (SX.S o))) = some n) (c : Holds al gv r) : n ≤ r := by
  obtain ⟨qs, lq, hq, hc⟩ := c
  have h' : (if ((os.map fun o => PyData.str (SX.S o)).all (txG gv) && (risesT (os.map fun o => PyData.str (SX.S o)) && !(al.any fun p => decide (1 < ((os.map fun o => PyData.str (SX.S o)).filter (holdsD p)).length)))) = true then some (os.map fun o => PyData.str (SX.S o)).length else none) = some n := h
  by_cases e : ((os.map fun o => PyData.str (SX.S o)).all (txG gv) && (risesT (os.map fun o => PyData.str (SX.S o)) && !(al.any fun p => decide (1 < ((os.map fun o => PyData.str (SX.S o)).filter (holdsD p)).length)))) = true
  · rw [if_pos e, List.length_map] at h'
    have en := Option.some.inj h'
    rw [Bool.and_eq_true, Bool.and_eq_true] at e
    obtain ⟨e1, _, e3⟩ := e
    have inG : ∀ o ∈ os, o ∈ gv := fun o ho => by
      obtain ⟨o', ho', z⟩ := txG_some (List.all_eq_true.mp e1 _ (List.mem_map.mpr ⟨o, ho, rfl⟩))
      have : SX.S o = SX.S o' := PyData.str.inj z
      rw [SX.S_inj this]
      exact ho'
    have lt : ∀ o ∈ os, (qs.findIdx fun q => hall q o) < qs.length := fun o ho => by
      obtain ⟨q, hq', k⟩ := hc o (inG o ho)
      exact List.findIdx_lt_length_of_exists ⟨q, hq', k⟩
    have at' : ∀ o ∈ os, ∀ h, hall (qs[(qs.findIdx fun q => hall q o)]'h) o = true := fun o ho h => List.findIdx_getElem (w := h)
    have inj : ∀ o ∈ os, ∀ o' ∈ os, (qs.findIdx fun q => hall q o) = (qs.findIdx fun q => hall q o') → o = o' := fun o ho o' ho' z => Classical.byContradiction fun ne => by
      have l1 := lt o ho
      have k1 := at' o ho l1
      have k2 := at' o' ho' (by rw [← z]; exact l1)
      have k2' : hall (qs[(qs.findIdx fun q => hall q o)]'l1) o' = true := by
        simp only [z]
        exact k2
      have qa := hq _ (List.getElem_mem l1)
      have two : 2 ≤ (os.filter fun x => hall (qs[(qs.findIdx fun q => hall q o)]'l1) x).length := by
        have : [o, o'].Nodup := by simp [ne]
        refine this.length_le_of_subset (l₂ := os.filter fun x => hall (qs[(qs.findIdx fun q => hall q o)]'l1) x) fun x hx => ?_
        rcases List.mem_cons.mp hx with rfl | hx
        · exact List.mem_filter.mpr ⟨ho, k1⟩
        · rw [List.mem_singleton.mp hx]
          exact List.mem_filter.mpr ⟨ho', k2'⟩
      have : (al.any fun p => decide (1 < ((os.map fun o => PyData.str (SX.S o)).filter (holdsD p)).length)) = true := by
        refine List.any_eq_true.mpr ⟨_, qa, decide_eq_true ?_⟩
        rw [List.filter_map, List.length_map]
        exact two
      rw [this] at e3
      cases e3
    have ndI : (os.map fun o => qs.findIdx fun q => hall q o).Nodup := by
      rw [List.Nodup, List.pairwise_map]
      exact List.Pairwise.imp_of_mem (fun {a b} ha hb ne z => ne (inj a ha b hb z)) nd
    have := ndI.length_le_of_subset (l₂ := List.range qs.length) fun k hk => by
      obtain ⟨o, ho, rfl⟩ := List.mem_map.mp hk
      exact List.mem_range.mpr (lt o ho)
    rw [List.length_map, List.length_range] at this
    omega
  · rw [if_neg e] at h'
    cases h'
theorem shown_le {al : List (List Nat)} {m : Nat} (m4 : m ≤ 4) : ∀ (e : Nat) (gv : List (List Nat)) (p : Pp) (n r : Nat), p.ok m → shownF al e gv p.d = some n → Holds al gv r → n ≤ r
  | 0, _, _, _, _, _, h, _ => by cases h
  | e + 1, gv, .ap os, n, r, ok, h, c => by
    have h' : (if sB apS (.str apS) = true then apartF al gv (.tuple (os.map fun o => .str (SX.S o))) else none) = some n := h
    rw [if_pos (sB_self apS)] at h'
    exact apart_le ((prodsU_nodup m4).sublist ok) h' c
  | e + 1, gv, .ca o ps, n, r, ok, h, c => by
    have h' : (if sB caS (.str caS) = true then caseF al (shownF al e) gv (.str (SX.S o)) (.tuple (Pp.ds ps)) else none) = some n := h
    rw [if_pos (sB_self caS)] at h'
    have h2 : (if txG gv (.str (SX.S o)) = true then (if ((al.filter fun p => hall p o).isEmpty || decide ((Pp.ds ps).length ≠ (al.filter fun p => hall p o).length)) = true then none else minO (((al.filter fun p => hall p o).zip (Pp.ds ps)).map fun z => shownF al e (unheldM gv [z.1]) z.2)) else none) = some n := h'
    by_cases t : txG gv (.str (SX.S o)) = true
    · rw [if_pos t] at h2
      by_cases k : ((al.filter fun p => hall p o).isEmpty || decide ((Pp.ds ps).length ≠ (al.filter fun p => hall p o).length)) = true
      · rw [if_pos k] at h2
        cases h2
      · rw [if_neg k] at h2
        have k' := Bool.eq_false_iff.mpr k
        rw [Bool.or_eq_false_iff] at k'
        have len : (Pp.ds ps).length = (al.filter fun p => hall p o).length := Classical.byContradiction fun z => by
          have := of_decide_eq_false k'.2
          exact this z
        obtain ⟨o', ho', z⟩ := txG_some t
        have eo : o = o' := SX.S_inj (PyData.str.inj z)
        rw [← eo] at ho'
        obtain ⟨qs, lq, hq, hc⟩ := c
        obtain ⟨q, mq, hqo⟩ := hc o ho'
        have mh : q ∈ al.filter fun p => hall p o := List.mem_filter.mpr ⟨hq q mq, hqo⟩
        obtain ⟨j, jl, ej⟩ := List.getElem_of_mem mh
        have ljp : j < ps.length := by rw [Pp.ds_map, List.length_map] at len; omega
        have hz : ((al.filter fun p => hall p o).zip (Pp.ds ps))[j]? = some (q, (ps[j]'ljp).d) := by
          rw [List.getElem?_zip_eq_some, List.getElem?_eq_getElem jl, ej, Pp.ds_map, List.getElem?_map, List.getElem?_eq_getElem ljp]
          exact ⟨rfl, rfl⟩
        generalize ens : (((al.filter fun p => hall p o).zip (Pp.ds ps)).map fun z => shownF al e (unheldM gv [z.1]) z.2) = ns at h2
        have mn : shownF al e (unheldM gv [q]) (ps[j]'ljp).d ∈ ns := by
          rw [← ens]
          exact List.mem_map.mpr ⟨_, List.mem_of_getElem? hz, rfl⟩
        have h3 : (if ns.any Option.isNone = true then none else some (1 + minL (ns.filterMap id))) = some n := h2
        by_cases w : ns.any Option.isNone = true
        · rw [if_pos w] at h3
          cases h3
        · rw [if_neg w] at h3
          have en := Option.some.inj h3
          cases sj : shownF al e (unheldM gv [q]) (ps[j]'ljp).d with
          | none => exact absurd (List.any_eq_true.mpr ⟨_, mn, by rw [sj]; rfl⟩) w
          | some nj =>
            rw [sj] at mn
            have le := minL_le (List.mem_filterMap.mpr ⟨_, mn, rfl⟩ : nj ∈ ns.filterMap id)
            have cov : Holds al (unheldM gv [q]) (r - 1) := by
              refine ⟨qs.erase q, by rw [List.length_erase_of_mem mq, lq], fun x hx => hq x (List.mem_of_mem_erase hx), fun o2 ho2 => ?_⟩
              have f := List.mem_filter.mp ho2
              obtain ⟨q2, mq2, hq2⟩ := hc o2 f.1
              have ne : q2 ≠ q := fun y => by
                have := f.2
                rw [List.any_cons, ← y, hq2] at this
                cases this
              exact ⟨q2, (List.mem_erase_of_ne ne).mpr mq2, hq2⟩
            have rp : 1 ≤ r := by rw [← lq]; exact List.length_pos_of_mem mq
            have := shown_le m4 e _ _ nj (r - 1) (Pp.oks_all ok.2 _ (List.getElem_mem ljp)) sj cov
            omega
    · rw [if_neg t] at h2
      cases h2

end
end Gk

--@NEST
set_option Elab.async false
set_option linter.all false
set_option maxRecDepth 100000
set_option maxHeartbeats 1000000
set_option pp.maxSteps 1500
set_option pp.deepTerms false
namespace Gk
open PySem PySem.Spec PyProof.Rows L2
section
variable {P : Program} {w : World} {K : PySem.W.Frag} {mg : Str → Option Value} {base : Heap}
/-! ### the law -/
theorem Tabs.fr {H H' : Hp} {d l : Addr} {n : Int} {Ps : List Addr} (D : DeckG H d l n) (f : Fr d l H H') (t : Tabs H Ps) : Tabs H' Ps := fun P hP => by
  obtain ⟨ne, cs, y, w, hd, hl, r⟩ := D
  exact tab_fr (fun b o n1 n2 e => f b o (fun z => n2 _ (by rw [z, hd] at e; exact (Option.some.inj e).symm)) (fun z => n1 _ (by rw [z, hl] at e; exact (Option.some.inj e).symm)) e) (t P hP)
theorem asked_sub {m : Nat} {bs : List Bool} {cs : List Ch} : (askedM m bs cs).Sublist (prodsU m) := List.filter_sublist
mutual
theorem Pp.sh {H : Hp} : ∀ (p : Pp) {v : V}, Tk H v p.d → Sh H v p.d
  | .ap os, v, t => by
    obtain ⟨a, xs, rfl, ha, tx⟩ := t.tup_inv
    match xs, tx with
    | [v0, v1], .cons t0 (.cons t1 .nil) =>
      obtain rfl := Tk.str_inv48 t0
      obtain ⟨b, ys, rfl, hb, ty⟩ := t1.tup_inv
      have e := TkAll.texts os ty
      subst e
      exact .tup ha (.cons (.str _) (.cons (.tup hb (ShAll.strs os)) .nil))
  | .ca o ps, v, t => by
    obtain ⟨a, xs, rfl, ha, tx⟩ := t.tup_inv
    match xs, tx with
    | [v0, v1, v2], .cons t0 (.cons t1 (.cons t2 .nil)) =>
      obtain rfl := Tk.str_inv48 t0
      obtain rfl := Tk.str_inv48 t1
      obtain ⟨b, ys, rfl, hb, ty⟩ := t2.tup_inv
      exact .tup ha (.cons (.str _) (.cons (.str _) (.cons (.tup hb (Pp.shs ps ty)) .nil)))
theorem Pp.shs {H : Hp} : ∀ (ps : List Pp) {xs : List V}, TkAll H xs (Pp.ds ps) → ShAll H xs (Pp.ds ps)
  | [], _, .nil => .nil
  | p :: r, _, .cons h t => .cons (Pp.sh p h) (Pp.shs r t)
end
theorem depth_strs1 (x : Str) : (PyData.str x).depth ≤ 1 := by show 0 ≤ 1; omega
mutual
theorem Pp.depth : ∀ p : Pp, p.d.depth ≤ 2 * p.dep + 1
  | .ap os => by
    have a := depth_strs os
    have b : (PyData.str apS).depth ≤ 1 := depth_strs1 _
    show max (PyData.str apS).depth (max (PyData.depthAll (os.map fun o => PyData.str (SX.S o)) + 1) 0) + 1 ≤ 2 * 1 + 1
    omega
  | .ca o ps => by
    have a := Pp.depths ps
    have b : (PyData.str caS).depth ≤ 1 := depth_strs1 _
    have c : (PyData.str (SX.S o)).depth ≤ 1 := depth_strs1 _
    show max (PyData.str caS).depth (max (PyData.str (SX.S o)).depth (max (PyData.depthAll (Pp.ds ps) + 1) 0)) + 1 ≤ 2 * (Pp.deps ps + 1) + 1
    omega
theorem Pp.depths : ∀ ps : List Pp, PyData.depthAll (Pp.ds ps) ≤ 2 * Pp.deps ps + 1
  | [] => Nat.zero_le _
  | p :: r => by
    have a := Pp.depth p
    have b := Pp.depths r
    show max p.d.depth (PyData.depthAll (Pp.ds r)) ≤ 2 * max p.dep (Pp.deps r) + 1
    omega
end
def optD : Option Nat → PyData
  | none => .none
  | some n => .int (n : Nat)
theorem optSh {H : Hp} : ∀ x : Option Nat, Sh H (optV x) (optD x)
  | none => .non
  | some n => .int _
theorem optDp {K : PySem.W.Frag} {H : Hp} : ∀ x : Option Nat, Dp K H (optV x) (optD x)
  | none => .non
  | some n => .int _
theorem optBool (x : Option Nat) : isBoolD (optD x) = false := by cases x <;> rfl
theorem optShp (x : Option Nat) : SeqAt.shaped (optD x) = true := by cases x <;> rfl
theorem optEqv (x : Option Nat) : PyData.eqv (optD x) (optD x) = true := by
  cases x with
  | none => rfl
  | some n => show decide _ = true; simp
def sp_law (K : PySem.W.Frag) (Ps : List Addr) : Sp := fun vs H Q _ => ∃ (a : Addr) (ns : List Int), vs = [.ref a] ∧ SqL K H a (ns.map V.int) ∧ ns.length ≤ 63 ∧ Tabs H Ps ∧ ∀ H', Q (.bl true) H'
theorem ok_law (T : Tx K mg) (B : Tb base T) : FnOk P w K mg base CX0 44 T.f_law T.fd_law ["_law_script"] (sp_law K T.tabs) := by
  refine T.F_law.ok sc_law (fun vs H Q E h => ?_) (fun cdv A outer s H vs Q E hr h => ?_)
  · obtain ⟨a, ns, rfl, _⟩ := h
    rfl
  · obtain ⟨a, ns, rfl, hS, hlen, tabs, q⟩ := h
    refine ⟨_, (pss_cons (ps_set (i := 1) sc_law.nd rfl (by first | exact .inl rfl | exact .inr rfl) (pe_call (ok_deck T) (hr.mono (by decide)) (by rfl) T.g_deck T.F_deck.kp T.b_deck .nil pass0 (pa_cons (pv 0) pa_nil))) (pss_cons (ps_for PassesOwn.never rfl (pi_range1 (by rfl) T.m_range (pa_cons pe_int pa_nil)) (pg_name (i := 2) sc_law.nd rfl (by first | exact .inl rfl | exact .inr rfl)) (pss_cons (ps_set (i := 3) sc_law.nd rfl (by first | exact .inl rfl | exact .inr rfl) (pe_call (ok_wish T) (hr.mono (by decide)) (by rfl) T.g_wish T.F_wish.kp T.b_wish .nil pass0 (pa_cons (pv 1) (pa_cons pe_int pa_nil)))) (pss_cons (ps_set (i := 4) sc_law.nd rfl (by first | exact .inl rfl | exact .inr rfl) (pe_call (ok_greatest T) (hr.mono (by decide)) (by rfl) T.g_greatest T.F_greatest.kp T.b_greatest .nil pass0 (pa_cons (pv 3) pa_nil))) (pss_cons (ps_set (i := 5) sc_law.nd rfl (by first | exact .inl rfl | exact .inr rfl) (pe_call (ok_given T) (hr.mono (by decide)) (by rfl) T.g_given T.F_given.kp T.b_given .nil pass0 (pa_cons (pv 1) (pa_cons (pe_call (ok_asked T) (hr.mono (by decide)) (by rfl) T.g_asked T.F_asked.kp T.b_asked .nil pass0 (pa_cons (pv 3) pa_nil)) pa_nil)))) (pss_cons (ps_set (i := 6) sc_law.nd rfl (by first | exact .inl rfl | exact .inr rfl) (pe_call (ok_fewest T) (hr.mono (by decide)) (by rfl) T.g_fewest T.F_fewest.kp T.b_fewest .nil pass0 (pa_cons (pv 4) (pa_cons (pv 5) pa_nil)))) (pss_one (ps_for PassesOwn.never rfl (pi_range1 (by rfl) T.m_range (pa_cons pe_int pa_nil)) (pg_name (i := 7) sc_law.nd rfl (by first | exact .inl rfl | exact .inr rfl)) (pss_cons (ps_set (i := 8) sc_law.nd rfl (by first | exact .inl rfl | exact .inr rfl) (pe_call (ok_paper T) (hr.mono (by decide)) (by rfl) T.g_paper T.F_paper.kp T.b_paper .nil pass0 (pa_cons (pv 1) (pa_cons (pv 4) (pa_cons (pv 5) (pa_cons (pe_op op_add pe_int (pe_call (ok_next T) (hr.mono (by decide)) (by rfl) T.g_next T.F_next.kp T.b_next .nil pass0 (pa_cons (pv 1) (pa_cons pe_int pa_nil)))) pa_nil)))))) (pss_cons (ps_set (i := 9) sc_law.nd rfl (by first | exact .inl rfl | exact .inr rfl) (pe_call (ok_shown T) (hr.mono (by decide)) (by rfl) T.g_shown T.F_shown.kp T.b_shown .nil pass0 (pa_cons (pv 4) (pa_cons (pv 5) (pa_cons (pv 8) pa_nil))))) (pss_cons (ps_for PassesOwn.never rfl (pi_range1 (by rfl) T.m_range (pa_cons pe_int pa_nil)) (pg_name (i := 10) sc_law.nd rfl (by first | exact .inl rfl | exact .inr rfl)) (pss_cons (ps_set (i := 11) sc_law.nd rfl (by first | exact .inl rfl | exact .inr rfl) (pe_call (ok_shown_by T B) (hr.mono (by decide)) (by rfl) T.g_shown_by T.F_shown_by.kp T.b_shown_by .nil pass0 (pa_cons (pv 3) (pa_cons (pe_callTy call_tuple_of (by rfl) T.m_tuple (by decide +kernel) (pa_cons (pv 5) pa_nil)) (pa_cons (pv 8) pa_nil))))) (pss_one (ps_if (pw_or (pt_val (pe_callB call_isi (by rfl) T.m_isinstance (by decide +kernel) (pa_cons (pv 11) (pa_cons (pe_bltn (v := .ty "bool") (u := .type "bool") (by rfl) T.m_bool (by decide +kernel) rfl) pa_nil)))) (pw_or1 (pt_cmpR (op_neD hr.units) (pv 11) (pv 9) (nomark _)))).pt (pss_one (ps_ret pe_bl)) pss_nil)))) (pss_one (ps_if (pw_and (pt_cmpR op_notN (pv 9) pe_non (nomark _)) (pw_and (pt_cmpR op_notN (pv 6) pe_non (nomark _)) (pw_and1 (pt_cmpR op_gt (pv 9) (pv 6) (nomark _))))).pt (pss_one (ps_ret pe_bl)) pss_nil)))))))))))) (pss_one (ps_ret pe_bl)))), ?_⟩
    refine ⟨.ref a, rfl, a, ns, rfl, hS, hlen, fun H1 d l s1 D1 => ?_⟩
    have tab1 := (Gr.of s1).tabs tabs
    refine ⟨2, rfl, by decide, by decide, ?_⟩
    refine for_range (lo := 0) (n := (2 : Int).toNat) (fun j σ H' => ∃ y2 y3 y4 y5 y6 y7 y8 y9 y10 y11 : Option V, σ = [some (.ref a), some (.ref d), y2, y3, y4, y5, y6, y7, y8, y9, y10, y11] ∧ DeckG H' d l (40000000 * j) ∧ Tabs H' T.tabs) ⟨_, _, _, _, _, _, _, _, _, _, rfl, D1.mono (by omega), tab1⟩ ?_ ?_
    · rintro j σ H2 hj ⟨y2, y3, y4, y5, y6, y7, y8, y9, y10, y11, rfl, D2, tab2⟩
      have hj2 : j < 2 := hj
      refine ⟨.ref d, rfl, d, l, _, 12, rfl, D2, by omega, by decide, by decide, fun wa m bs cs H3 D3 fr3 nwa tw ok => ?_⟩
      have tab3 := Tabs.fr D2 fr3 tab2
      have m4 := ok.m4
      refine ⟨.ref wa, rfl, wa, m, bs, cs, rfl, tw, ok, fun M H4 nM s4 hM => ?_⟩
      obtain ⟨Md, Ml⟩ := D3.off nM
      have D4 := D3.same s4
      have tw4 := tw.same s4
      refine ⟨.ref d, rfl, .ref wa, rfl, wa, m, bs, cs, rfl, tw4, ok, fun A5 H5 nA s5 hA => ?_⟩
      obtain ⟨Ad, Al⟩ := D4.off nA
      have D5 := D4.same s5
      refine ⟨d, l, A5, _, m, askedM m bs cs, rfl, D5, by omega, hA, Ad, Al, asked_sub, m4, fun G gv H6 D6 fr6 hG Gd Gl sg => ?_⟩
      have sub := sg.trans asked_sub
      have hM6 := fr6 _ _ Md Ml (s5 _ _ hM)
      have tw6 := (tw4.same s5).ts (Fr.tsG D5 fr6) (noL_wish m bs cs)
      have tab6 := Tabs.fr D5 fr6 ((Gr.of (s4.trans s5)).tabs tab3)
      have okal : ∀ p ∈ greatM m bs cs, ProdOk m p := fun p hp => prodsU_ok p (List.mem_filter.mp (List.mem_filter.mp hp).1).1
      have lal : (greatM m bs cs).length ≤ 18 := great18 ok
      have lgv : gv.length ≤ 81 := Nat.le_trans sub.length_le (prodsU_81 m4)
      have okgv : ∀ o ∈ gv, ProdOk m o := fun o ho => prodsU_ok o (sub.subset ho)
      refine ⟨.ref M, rfl, .ref G, rfl, M, G, m, greatM m bs cs, gv, rfl, hM6, hG, okal, okgv, m4, lal, lgv, fun fw H7 s7 hfw => ?_⟩
      have D7 := D6.same s7
      have tab7 := (Gr.of s7).tabs tab6
      have tw7 := tw6.same s7
      have hM7 := s7 _ _ hM6
      have hG7 := s7 _ _ hG
      clear hM6 hG tw6 tab6 D6 fr6 s7 hA D5 s5 hM s4 D4 tw4 nM nA
      generalize eal : greatM m bs cs = al at hM7 okal lal hfw
      refine ⟨8, rfl, by decide, by decide, ?_⟩
      refine for_range (lo := 0) (n := (8 : Int).toNat) (fun k σ H' => ∃ y7 y8 y9 y10 y11 : Option V, σ = [some (.ref a), some (.ref d), some (.int (0 + (j : Int))), some (.ref wa), some (.ref M), some (.ref G), some (optV fw), y7, y8, y9, y10, y11] ∧ DeckG H' d l (40000000 * j + 1000 + 4000001 * k) ∧ Tabs H' T.tabs ∧ Tk H' (.ref wa) (wishD m bs cs) ∧ H' M = some (.lst (pVs al)) ∧ H' G = some (.lst (pVs gv))) ⟨_, _, _, _, _, rfl, D7.mono (by omega), tab7, tw7, hM7, hG7⟩ ?_ ?_
      · clear D7 tab7 tw7 hM7 hG7
        rintro k σ H8 hk ⟨y7, y8, y9, y10, y11, rfl, D8, tab8, tw8, hM8, hG8⟩
        have hk8 : k < 8 := hk
        refine ⟨.ref d, rfl, .ref M, rfl, .ref G, rfl, .ref d, rfl, d, l, 2, _, rfl, D8, by omega, by decide, by decide, fun H9 dp D9 fr9 dp0 dp1 => ?_⟩
        have tab9 := Tabs.fr D8 fr9 tab8
        have b2 : bdP 2 ≤ 4000000 := bdP_le (Nat.le_refl _)
        refine ⟨_, _, rfl, rfl, d, l, M, G, _, m, (1 + dp).toNat, al, gv, by show [V.ref d, V.ref M, V.ref G, V.int (1 + dp)] = _; rw [Int.toNat_of_nonneg (by omega)], (by show (1 + dp).toNat ≤ 2; omega), D9, (by show 40000000 * (j : Int) + 1000 + 4000001 * (k : Int) + 1 + ((bdP 2 : Nat) : Int) < 900000000; omega), fr9 _ _ Md Ml hM8, Md, Ml, fr9 _ _ Gd Gl hG8, Gd, Gl, okal, by omega, sub, m4, fun v p H10 D10 fr10 tk nl okp dep wt => ?_⟩
        replace dep : p.dep ≤ 3 := dep
        replace D10 : DeckG H10 d l (40000000 * (j : Int) + 1000 + 4000001 * (k : Int) + 1 + 4000000) := D10.mono (by show 40000000 * (j : Int) + 1000 + 4000001 * (k : Int) + 1 + ((bdP 2 : Nat) : Int) ≤ _; omega)
        have f810 := fr9.trans fr10
        have tab10 := Tabs.fr D9 fr10 tab9
        have hM10 := f810 _ _ Md Ml hM8
        have hG10 := f810 _ _ Gd Gl hG8
        have tw10 := tw8.ts (Fr.tsG D8 f810) (noL_wish m bs cs)
        have wt12 : p.d.weight ≤ 10 ^ 12 := Nat.le_trans wt (by decide)
        have dp8 : p.d.depth ≤ 8 := Nat.le_trans (Pp.depth p) (by omega)
        refine ⟨.ref M, rfl, .ref G, rfl, v, rfl, M, G, v, m, al, gv, p, rfl, hM10, hG10, tk, okp, (by show p.dep ≤ 8; omega), okal, sub, m4, by omega, fun H11 s11 => ?_⟩
        generalize edu : shownF al 8 gv p.d = du
        have D11 := D10.same s11
        have tab11 := (Gr.of s11).tabs tab10
        have hM11 := s11 _ _ hM10
        have hG11 := s11 _ _ hG10
        have tw11 := tw10.same s11
        have tk11 := tk.same s11
        refine ⟨2, rfl, by decide, by decide, ?_⟩
        refine for_range (lo := 0) (n := (2 : Int).toNat) (fun i σ H' => ∃ y10 y11 : Option V, σ = [some (.ref a), some (.ref d), some (.int (0 + (j : Int))), some (.ref wa), some (.ref M), some (.ref G), some (optV fw), some (.int (0 + (k : Int))), some v, some (optV du), y10, y11] ∧ Gr H11 H') ⟨_, _, rfl, Gr.refl⟩ ?_ ?_
        · rintro i σ H12 hi ⟨y10, y11, rfl, g12⟩
          refine ⟨.ref wa, rfl, .ref G, rfl, G, pVs gv, rfl, .inl ⟨SqL.of (g12.lst hG11), fun t nt => ?_⟩⟩
          have g13 := g12.trans (Gr.none (o := .tup (pVs gv)) nt)
          refine ⟨v, rfl, wa, t, v, m, bs, cs, gv, p.d, rfl, tw11.gr g13, ok, upd_same, okgv, by omega, (Pp.sh p tk11).gr g13, wt12, dp8, g13.tabs tab11, fun H14 g14 => ?_⟩
          rw [eal, edu]
          have g15 := g13.trans g14
          refine ⟨optV du, rfl, _, _, _, _, _, rfl, .ty _, (optSh du).ty, kit_ty (kitBool _), _, rfl, ?_⟩
          rw [optBool]
          refine iteF ?_
          refine ⟨optV du, rfl, optV du, rfl, optD du, optD du, optDp du, optDp du, optShp du, optShp du, _, rfl, ?_⟩
          rw [optEqv]
          refine iteF ?_
          exact ⟨_, _, rfl, g15⟩
        · rintro σ H12 ⟨y10, y11, rfl, g12⟩
          have fin : ∃ z7 z8 z9 z10 z11 : Option V, [some (.ref a), some (.ref d), some (.int (0 + (j : Int))), some (.ref wa), some (.ref M), some (.ref G), some (optV fw), some (.int (0 + (k : Int))), some v, some (optV du), y10, y11] = [some (.ref a), some (.ref d), some (.int (0 + (j : Int))), some (.ref wa), some (.ref M), some (.ref G), some (optV fw), z7, z8, z9, z10, z11] ∧ DeckG H12 d l (40000000 * j + 1000 + 4000001 * ((k + 1 : Nat) : Int)) ∧ Tabs H12 T.tabs ∧ Tk H12 (.ref wa) (wishD m bs cs) ∧ H12 M = some (.lst (pVs al)) ∧ H12 G = some (.lst (pVs gv)) :=
            ⟨_, _, _, _, _, rfl, (D11.gr g12).mono (by push_cast; omega), g12.tabs tab11, tw11.gr g12, g12.lst hM11, g12.lst hG11⟩
          refine ⟨optV du, rfl, rfl, _, rfl, ?_⟩
          cases du with
          | none => exact iteF (iteF fin)
          | some x =>
            refine iteT ⟨optV fw, rfl, rfl, _, rfl, ?_⟩
            cases fw with
            | none => exact iteF (iteF fin)
            | some r =>
              refine iteT ⟨.int (x : Nat), rfl, .int (r : Nat), rfl, _, _, rfl, rfl, _, rfl, ite2 (fun z => ?_) (fun _ => fin)⟩
              have le := shown_le m4 8 gv p x r okp edu (hfw r rfl)
              have lt := of_decide_eq_true z
              omega
      · rintro σ H8 ⟨y7, y8, y9, y10, y11, rfl, D8, tab8, _⟩
        exact ⟨_, _, _, _, _, _, _, _, _, _, rfl, D8.mono (by push_cast; omega), tab8⟩
    · rintro σ H2 _
      exact q H2

end
def d_choices_of : He.DefD := ⟨("choices_of", none), "choices_of", "choices_of", defArgs s_choices_of, defBody s_choices_of, defScope s_choices_of, [], []⟩
def d_rows_of : He.DefD := ⟨("rows_of", none), "rows_of", "rows_of", defArgs s_rows_of, defBody s_rows_of, defScope s_rows_of, [], []⟩
def d_table_worth : He.DefD := ⟨("table_worth", none), "table_worth", "table_worth", defArgs s_table_worth, defBody s_table_worth, defScope s_table_worth, [], []⟩
def d_show_row : He.DefD := ⟨("show_row", none), "show_row", "show_row", defArgs s_show_row, defBody s_show_row, defScope s_show_row, [], []⟩
def d_is_product : He.DefD := ⟨("is_product", none), "is_product", "is_product", defArgs s_is_product, defBody s_is_product, defScope s_is_product, [], []⟩
def d_holds_row : He.DefD := ⟨("holds_row", none), "holds_row", "holds_row", defArgs s_holds_row, defBody s_holds_row, defScope s_holds_row, [], []⟩
def d_holds_all : He.DefD := ⟨("holds_all", none), "holds_all", "holds_all", defArgs s_holds_all, defBody s_holds_all, defScope s_holds_all, [], []⟩
def d_meet : He.DefD := ⟨("meet", none), "meet", "meet", defArgs s_meet, defBody s_meet, defScope s_meet, [], []⟩
def d_cube_of : He.DefD := ⟨("cube_of", none), "cube_of", "cube_of", defArgs s_cube_of, defBody s_cube_of, defScope s_cube_of, [], []⟩
def d_unheld : He.DefD := ⟨("unheld", none), "unheld", "unheld", defArgs s_unheld, defBody s_unheld, defScope s_unheld, [], []⟩
def d_is_allowed : He.DefD := ⟨("is_allowed", none), "is_allowed", "is_allowed", defArgs s_is_allowed, defBody s_is_allowed, defScope s_is_allowed, [], []⟩
def d_why_not : He.DefD := ⟨("why_not", none), "why_not", "why_not", defArgs s_why_not, defBody s_why_not, defScope s_why_not, [], []⟩
def d_is_allowed_at : He.DefD := ⟨("is_allowed_at", none), "is_allowed_at", "is_allowed_at", defArgs s_is_allowed_at, defBody s_is_allowed_at, defScope s_is_allowed_at, [], []⟩
def d_ones_of : He.DefD := ⟨("ones_of", none), "ones_of", "ones_of", defArgs s_ones_of, defBody s_ones_of, defScope s_ones_of, [], []⟩
def d_allowed_of : He.DefD := ⟨("allowed_of", none), "allowed_of", "allowed_of", defArgs s_allowed_of, defBody s_allowed_of, defScope s_allowed_of, [], []⟩
def d_greatest_allowed : He.DefD := ⟨("greatest_allowed", none), "greatest_allowed", "greatest_allowed", defArgs s_greatest_allowed, defBody s_greatest_allowed, defScope s_greatest_allowed, [], []⟩
def d_shown_by : He.DefD := ⟨("shown_by", none), "shown_by", "shown_by", defArgs s_shown_by, defBody s_shown_by, defScope s_shown_by, [], []⟩
def d_shown_for : He.DefD := ⟨("shown_for", none), "shown_for", "shown_for", defArgs s_shown_for, defBody s_shown_for, defScope s_shown_for, [], []⟩
def d_shown_apart : He.DefD := ⟨("shown_apart", none), "shown_apart", "shown_apart", defArgs s_shown_apart, defBody s_shown_apart, defScope s_shown_apart, [], []⟩
def d_shown_case : He.DefD := ⟨("shown_case", none), "shown_case", "shown_case", defArgs s_shown_case, defBody s_shown_case, defScope s_shown_case, [], []⟩
def d_deck : He.DefD := ⟨("_law_deck", none), "_law_deck", "_law_deck", defArgs s_deck, defBody s_deck, defScope s_deck, [], []⟩
def d_next : He.DefD := ⟨("_law_next", none), "_law_next", "_law_next", defArgs s_next, defBody s_next, defScope s_next, [], []⟩
def d_rows : He.DefD := ⟨("_law_rows", none), "_law_rows", "_law_rows", defArgs s_rows, defBody s_rows, defScope s_rows, [], []⟩
def d_holds : He.DefD := ⟨("_law_holds", none), "_law_holds", "_law_holds", defArgs s_holds, defBody s_holds, defScope s_holds, [], []⟩
def d_inside : He.DefD := ⟨("_law_inside", none), "_law_inside", "_law_inside", defArgs s_inside, defBody s_inside, defScope s_inside, [], []⟩
def d_meets : He.DefD := ⟨("_law_meets", none), "_law_meets", "_law_meets", defArgs s_meets, defBody s_meets, defScope s_meets, [], []⟩
def d_cube : He.DefD := ⟨("_law_cube", none), "_law_cube", "_law_cube", defArgs s_cube, defBody s_cube, defScope s_cube, [], []⟩
def d_product : He.DefD := ⟨("_law_product", none), "_law_product", "_law_product", defArgs s_product, defBody s_product, defScope s_product, [], []⟩
def d_table : He.DefD := ⟨("_law_table", none), "_law_table", "_law_table", defArgs s_table, defBody s_table, defScope s_table, [], []⟩
def d_worth : He.DefD := ⟨("_law_worth", none), "_law_worth", "_law_worth", defArgs s_worth, defBody s_worth, defScope s_worth, [], []⟩
def d_change : He.DefD := ⟨("_law_change", none), "_law_change", "_law_change", defArgs s_change, defBody s_change, defScope s_change, [], []⟩
def d_wish : He.DefD := ⟨("_law_wish", none), "_law_wish", "_law_wish", defArgs s_wish, defBody s_wish, defScope s_wish, [], []⟩
def d_all_products : He.DefD := ⟨("_law_all_products", none), "_law_all_products", "_law_all_products", defArgs s_all_products, defBody s_all_products, defScope s_all_products, [], []⟩
def d_fits : He.DefD := ⟨("_law_fits", none), "_law_fits", "_law_fits", defArgs s_fits, defBody s_fits, defScope s_fits, [], []⟩
def d_allowed : He.DefD := ⟨("_law_allowed", none), "_law_allowed", "_law_allowed", defArgs s_allowed, defBody s_allowed, defScope s_allowed, [], []⟩
def d_greatest : He.DefD := ⟨("_law_greatest", none), "_law_greatest", "_law_greatest", defArgs s_greatest, defBody s_greatest, defScope s_greatest, [], []⟩
def d_asked : He.DefD := ⟨("_law_asked", none), "_law_asked", "_law_asked", defArgs s_asked, defBody s_asked, defScope s_asked, [], []⟩
def d_fewest : He.DefD := ⟨("_law_fewest", none), "_law_fewest", "_law_fewest", defArgs s_fewest, defBody s_fewest, defScope s_fewest, [], []⟩
def d_apart : He.DefD := ⟨("_law_apart", none), "_law_apart", "_law_apart", defArgs s_apart, defBody s_apart, defScope s_apart, [], []⟩
def d_shown : He.DefD := ⟨("_law_shown", none), "_law_shown", "_law_shown", defArgs s_shown, defBody s_shown, defScope s_shown, [], []⟩
def d_paper : He.DefD := ⟨("_law_paper", none), "_law_paper", "_law_paper", defArgs s_paper, defBody s_paper, defScope s_paper, [], []⟩
def d_holds_any : He.DefD := ⟨("_law_holds_any", none), "_law_holds_any", "_law_holds_any", defArgs s_holds_any, defBody s_holds_any, defScope s_holds_any, [], []⟩
def d_given : He.DefD := ⟨("_law_given", none), "_law_given", "_law_given", defArgs s_given, defBody s_given, defScope s_given, [], []⟩
def d_law : He.DefD := ⟨("law", none), "law", "law", defArgs s_law, defBody s_law, defScope s_law, [], []⟩
def fn : List He.DefD := [d_choices_of, d_rows_of, d_table_worth, d_show_row, d_is_product, d_holds_row, d_holds_all, d_meet, d_cube_of, d_unheld, d_is_allowed, d_why_not, d_is_allowed_at, d_ones_of, d_allowed_of, d_greatest_allowed, d_shown_by, d_shown_for, d_shown_apart, d_shown_case, d_deck, d_next, d_rows, d_holds, d_inside, d_meets, d_cube, d_product, d_table, d_worth, d_change, d_wish, d_all_products, d_fits, d_allowed, d_greatest, d_asked, d_fewest, d_apart, d_shown, d_paper, d_holds_any, d_given, d_law]
def fa : List He.Fa := [.glo "choices_of", .glo "rows_of", .glo "table_worth", .glo "show_row", .glo "is_product", .glo "holds_row", .glo "holds_all", .glo "meet", .glo "cube_of", .glo "unheld", .glo "is_allowed", .glo "why_not", .glo "is_allowed_at", .glo "ones_of", .glo "allowed_of", .glo "greatest_allowed", .glo "shown_by", .glo "shown_for", .glo "shown_apart", .glo "shown_case", .glo "_law_deck", .glo "_law_next", .glo "_law_rows", .glo "_law_holds", .glo "_law_inside", .glo "_law_meets", .glo "_law_cube", .glo "_law_product", .glo "_law_table", .glo "_law_worth", .glo "_law_change", .glo "_law_wish", .glo "_law_all_products", .glo "_law_fits", .glo "_law_allowed", .glo "_law_greatest", .glo "_law_asked", .glo "_law_fewest", .glo "_law_apart", .glo "_law_shown", .glo "_law_paper", .glo "_law_holds_any", .glo "_law_given", .glo "law", .free "all", .free "any", .free "bool", .free "enumerate", .free "int", .free "isinstance", .free "len", .free "list", .free "min", .free "range", .free "set", .free "sorted", .free "str", .free "sum", .free "tuple", .free "zip"]
def tf : List He.Defn := [("show_row", none), ("is_product", none), ("holds_all", none), ("meet", none), ("cube_of", none), ("unheld", none), ("is_allowed_at", none), ("allowed_of", none), ("greatest_allowed", none), ("shown_apart", none)]
abbrev RR : PySem.W.OpenRow := PySem.W.OpenLaw.row PySem.Challenge.rw_glitchnet_k48_papers_of_any_hand
def yes : PySem.W.Frag → Bool := fun _ => true
def ts : List He.Tab := []
abbrev hk : PySem.W.Hook := He.hookX 4 fa fn ts tf yes
def ob (s : PySem.W.SharedT) : He.AlX := He.obsX 4 fa fn ts tf yes (HandSHeadRun.getT s)
theorem ob_eq (s : PySem.W.SharedT) : ob s = hk.obs s.abs := He.obsX_eq (HandSHeadRun.getT_eq s)
theorem run (w : World) : HandSHeadRun.RunEq RR (PySem.W.view RR.prog [49]) hk ob 3000 [("choices_of" : PySem.Str), ("rows_of" : PySem.Str), ("table_worth" : PySem.Str), ("show_row" : PySem.Str), ("is_product" : PySem.Str), ("holds_row" : PySem.Str), ("holds_all" : PySem.Str), ("meet" : PySem.Str), ("cube_of" : PySem.Str), ("unheld" : PySem.Str), ("is_allowed" : PySem.Str), ("why_not" : PySem.Str), ("is_allowed_at" : PySem.Str), ("ones_of" : PySem.Str), ("allowed_of" : PySem.Str), ("greatest_allowed" : PySem.Str), ("shown_by" : PySem.Str), ("shown_for" : PySem.Str), ("shown_apart" : PySem.Str), ("shown_case" : PySem.Str), ("_law_deck" : PySem.Str), ("_law_next" : PySem.Str), ("_law_rows" : PySem.Str), ("_law_holds" : PySem.Str), ("_law_inside" : PySem.Str), ("_law_meets" : PySem.Str), ("_law_cube" : PySem.Str), ("_law_product" : PySem.Str), ("_law_table" : PySem.Str), ("_law_worth" : PySem.Str), ("_law_change" : PySem.Str), ("_law_wish" : PySem.Str), ("_law_all_products" : PySem.Str), ("_law_fits" : PySem.Str), ("_law_allowed" : PySem.Str), ("_law_greatest" : PySem.Str), ("_law_asked" : PySem.Str), ("_law_fewest" : PySem.Str), ("_law_apart" : PySem.Str), ("_law_shown" : PySem.Str), ("_law_paper" : PySem.Str), ("_law_holds_any" : PySem.Str), ("_law_given" : PySem.Str)] w := by
  intro os
  kernel_rfl
theorem facts {w : World} {K : PySem.W.Frag} {h : Heap} {mg : Str → Option Value} {f : Addr} (X : K.In h) (G : h.Ns mainGlobals mg) (hfa : mg ("law" : Str) = some (.ref f)) (c : He.SaysX fa fn ts tf yes w h K) : LamX.LawAtS PySem.Challenge.rw_glitchnet_k48_papers_of_any_hand w K CX0 44 63 "_law_script" mg f h := by
  obtain ⟨fd0, D0⟩ := c.t.d.def_ 0 (d := d_choices_of) rfl
  have F0 : Fun K "choices_of" "choices_of" s_choices_of (He.fAd K ("choices_of", none)) fd0 := fun_of D0
  have b0 := F0.binds (ps := ["lists"]) fun _ _ _ _ _ _ us hl => match us, hl with | [_], _ => rfl
  obtain ⟨fd1, D1⟩ := c.t.d.def_ 1 (d := d_rows_of) rfl
  have F1 : Fun K "rows_of" "rows_of" s_rows_of (He.fAd K ("rows_of", none)) fd1 := fun_of D1
  have b1 := F1.binds (ps := ["many"]) fun _ _ _ _ _ _ us hl => match us, hl with | [_], _ => rfl
  obtain ⟨fd2, D2⟩ := c.t.d.def_ 2 (d := d_table_worth) rfl
  have F2 : Fun K "table_worth" "table_worth" s_table_worth (He.fAd K ("table_worth", none)) fd2 := fun_of D2
  have b2 := F2.binds (ps := ["table", "worths"]) fun _ _ _ _ _ _ us hl => match us, hl with | [_, _], _ => rfl
  obtain ⟨fd3, D3⟩ := c.t.d.def_ 3 (d := d_show_row) rfl
  have F3 : Fun K "show_row" "show_row" s_show_row (He.fAd K ("show_row", none)) fd3 := fun_of D3
  have b3 := F3.binds (ps := ["row"]) fun _ _ _ _ _ _ us hl => match us, hl with | [_], _ => rfl
  obtain ⟨fd4, D4⟩ := c.t.d.def_ 4 (d := d_is_product) rfl
  have F4 : Fun K "is_product" "is_product" s_is_product (He.fAd K ("is_product", none)) fd4 := fun_of D4
  have b4 := F4.binds (ps := ["many", "thing"]) fun _ _ _ _ _ _ us hl => match us, hl with | [_, _], _ => rfl
  obtain ⟨fd5, D5⟩ := c.t.d.def_ 5 (d := d_holds_row) rfl
  have F5 : Fun K "holds_row" "holds_row" s_holds_row (He.fAd K ("holds_row", none)) fd5 := fun_of D5
  have b5 := F5.binds (ps := ["product", "row"]) fun _ _ _ _ _ _ us hl => match us, hl with | [_, _], _ => rfl
  obtain ⟨fd6, D6⟩ := c.t.d.def_ 6 (d := d_holds_all) rfl
  have F6 : Fun K "holds_all" "holds_all" s_holds_all (He.fAd K ("holds_all", none)) fd6 := fun_of D6
  have b6 := F6.binds (ps := ["product", "other"]) fun _ _ _ _ _ _ us hl => match us, hl with | [_, _], _ => rfl
  obtain ⟨fd7, D7⟩ := c.t.d.def_ 7 (d := d_meet) rfl
  have F7 : Fun K "meet" "meet" s_meet (He.fAd K ("meet", none)) fd7 := fun_of D7
  have b7 := F7.binds (ps := ["product", "other"]) fun _ _ _ _ _ _ us hl => match us, hl with | [_, _], _ => rfl
  obtain ⟨fd8, D8⟩ := c.t.d.def_ 8 (d := d_cube_of) rfl
  have F8 : Fun K "cube_of" "cube_of" s_cube_of (He.fAd K ("cube_of", none)) fd8 := fun_of D8
  have b8 := F8.binds (ps := ["change"]) fun _ _ _ _ _ _ us hl => match us, hl with | [_], _ => rfl
  obtain ⟨fd9, D9⟩ := c.t.d.def_ 9 (d := d_unheld) rfl
  have F9 : Fun K "unheld" "unheld" s_unheld (He.fAd K ("unheld", none)) fd9 := fun_of D9
  have b9 := F9.binds (ps := ["some", "products"]) fun _ _ _ _ _ _ us hl => match us, hl with | [_, _], _ => rfl
  obtain ⟨fd10, D10⟩ := c.t.d.def_ 10 (d := d_is_allowed) rfl
  have F10 : Fun K "is_allowed" "is_allowed" s_is_allowed (He.fAd K ("is_allowed", none)) fd10 := fun_of D10
  have b10 := F10.binds (ps := ["wish", "product"]) fun _ _ _ _ _ _ us hl => match us, hl with | [_, _], _ => rfl
  obtain ⟨fd11, D11⟩ := c.t.d.def_ 11 (d := d_why_not) rfl
  have F11 : Fun K "why_not" "why_not" s_why_not (He.fAd K ("why_not", none)) fd11 := fun_of D11
  have b11 := F11.binds (ps := ["wish", "product"]) fun _ _ _ _ _ _ us hl => match us, hl with | [_, _], _ => rfl
  obtain ⟨fd12, D12⟩ := c.t.d.def_ 12 (d := d_is_allowed_at) rfl
  have F12 : Fun K "is_allowed_at" "is_allowed_at" s_is_allowed_at (He.fAd K ("is_allowed_at", none)) fd12 := fun_of D12
  have b12 := F12.binds (ps := ["wish", "product", "change"]) fun _ _ _ _ _ _ us hl => match us, hl with | [_, _, _], _ => rfl
  obtain ⟨fd13, D13⟩ := c.t.d.def_ 13 (d := d_ones_of) rfl
  have F13 : Fun K "ones_of" "ones_of" s_ones_of (He.fAd K ("ones_of", none)) fd13 := fun_of D13
  have b13 := F13.binds (ps := ["wish", "rows"]) fun _ _ _ _ _ _ us hl => match us, hl with | [_, _], _ => rfl
  obtain ⟨fd14, D14⟩ := c.t.d.def_ 14 (d := d_allowed_of) rfl
  have F14 : Fun K "allowed_of" "allowed_of" s_allowed_of (He.fAd K ("allowed_of", none)) fd14 := fun_of D14
  have b14 := F14.binds (ps := ["wish"]) fun _ _ _ _ _ _ us hl => match us, hl with | [_], _ => rfl
  obtain ⟨fd15, D15⟩ := c.t.d.def_ 15 (d := d_greatest_allowed) rfl
  have F15 : Fun K "greatest_allowed" "greatest_allowed" s_greatest_allowed (He.fAd K ("greatest_allowed", none)) fd15 := fun_of D15
  have b15 := F15.binds (ps := ["wish"]) fun _ _ _ _ _ _ us hl => match us, hl with | [_], _ => rfl
  obtain ⟨fd16, D16⟩ := c.t.d.def_ 16 (d := d_shown_by) rfl
  have F16 : Fun K "shown_by" "shown_by" s_shown_by (He.fAd K ("shown_by", none)) fd16 := fun_of D16
  have b16 := F16.binds (ps := ["wish", "given", "thing"]) fun _ _ _ _ _ _ us hl => match us, hl with | [_, _, _], _ => rfl
  obtain ⟨fd17, D17⟩ := c.t.d.def_ 17 (d := d_shown_for) rfl
  have F17 : Fun K "shown_for" "shown_for" s_shown_for (He.fAd K ("shown_for", none)) fd17 := fun_of D17
  have b17 := F17.binds (ps := ["products", "given", "thing"]) fun _ _ _ _ _ _ us hl => match us, hl with | [_, _, _], _ => rfl
  obtain ⟨fd18, D18⟩ := c.t.d.def_ 18 (d := d_shown_apart) rfl
  have F18 : Fun K "shown_apart" "shown_apart" s_shown_apart (He.fAd K ("shown_apart", none)) fd18 := fun_of D18
  have b18 := F18.binds (ps := ["products", "given", "some"]) fun _ _ _ _ _ _ us hl => match us, hl with | [_, _, _], _ => rfl
  obtain ⟨fd19, D19⟩ := c.t.d.def_ 19 (d := d_shown_case) rfl
  have F19 : Fun K "shown_case" "shown_case" s_shown_case (He.fAd K ("shown_case", none)) fd19 := fun_of D19
  have b19 := F19.binds (ps := ["products", "given", "one", "papers"]) fun _ _ _ _ _ _ us hl => match us, hl with | [_, _, _, _], _ => rfl
  obtain ⟨fd20, D20⟩ := c.t.d.def_ 20 (d := d_deck) rfl
  have F20 : Fun K "_law_deck" "_law_deck" s_deck (He.fAd K ("_law_deck", none)) fd20 := fun_of D20
  have b20 := F20.binds (ps := ["_law_script"]) fun _ _ _ _ _ _ us hl => match us, hl with | [_], _ => rfl
  obtain ⟨fd21, D21⟩ := c.t.d.def_ 21 (d := d_next) rfl
  have F21 : Fun K "_law_next" "_law_next" s_next (He.fAd K ("_law_next", none)) fd21 := fun_of D21
  have b21 := F21.binds (ps := ["_law_deck_here", "_law_most"]) fun _ _ _ _ _ _ us hl => match us, hl with | [_, _], _ => rfl
  obtain ⟨fd22, D22⟩ := c.t.d.def_ 22 (d := d_rows) rfl
  have F22 : Fun K "_law_rows" "_law_rows" s_rows (He.fAd K ("_law_rows", none)) fd22 := fun_of D22
  have b22 := F22.binds (ps := ["_law_many"]) fun _ _ _ _ _ _ us hl => match us, hl with | [_], _ => rfl
  obtain ⟨fd23, D23⟩ := c.t.d.def_ 23 (d := d_holds) rfl
  have F23 : Fun K "_law_holds" "_law_holds" s_holds (He.fAd K ("_law_holds", none)) fd23 := fun_of D23
  have b23 := F23.binds (ps := ["_law_product_here", "_law_row"]) fun _ _ _ _ _ _ us hl => match us, hl with | [_, _], _ => rfl
  obtain ⟨fd24, D24⟩ := c.t.d.def_ 24 (d := d_inside) rfl
  have F24 : Fun K "_law_inside" "_law_inside" s_inside (He.fAd K ("_law_inside", none)) fd24 := fun_of D24
  have b24 := F24.binds (ps := ["_law_product_here", "_law_other"]) fun _ _ _ _ _ _ us hl => match us, hl with | [_, _], _ => rfl
  obtain ⟨fd25, D25⟩ := c.t.d.def_ 25 (d := d_meets) rfl
  have F25 : Fun K "_law_meets" "_law_meets" s_meets (He.fAd K ("_law_meets", none)) fd25 := fun_of D25
  have b25 := F25.binds (ps := ["_law_product_here", "_law_other"]) fun _ _ _ _ _ _ us hl => match us, hl with | [_, _], _ => rfl
  obtain ⟨fd26, D26⟩ := c.t.d.def_ 26 (d := d_cube) rfl
  have F26 : Fun K "_law_cube" "_law_cube" s_cube (He.fAd K ("_law_cube", none)) fd26 := fun_of D26
  have b26 := F26.binds (ps := ["_law_one", "_law_other"]) fun _ _ _ _ _ _ us hl => match us, hl with | [_, _], _ => rfl
  obtain ⟨fd27, D27⟩ := c.t.d.def_ 27 (d := d_product) rfl
  have F27 : Fun K "_law_product" "_law_product" s_product (He.fAd K ("_law_product", none)) fd27 := fun_of D27
  have b27 := F27.binds (ps := ["_law_deck_here", "_law_many"]) fun _ _ _ _ _ _ us hl => match us, hl with | [_, _], _ => rfl
  obtain ⟨fd28, D28⟩ := c.t.d.def_ 28 (d := d_table) rfl
  have F28 : Fun K "_law_table" "_law_table" s_table (He.fAd K ("_law_table", none)) fd28 := fun_of D28
  have b28 := F28.binds (ps := ["_law_deck_here", "_law_many"]) fun _ _ _ _ _ _ us hl => match us, hl with | [_, _], _ => rfl
  obtain ⟨fd29, D29⟩ := c.t.d.def_ 29 (d := d_worth) rfl
  have F29 : Fun K "_law_worth" "_law_worth" s_worth (He.fAd K ("_law_worth", none)) fd29 := fun_of D29
  have b29 := F29.binds (ps := ["_law_wish_here", "_law_row"]) fun _ _ _ _ _ _ us hl => match us, hl with | [_, _], _ => rfl
  obtain ⟨fd30, D30⟩ := c.t.d.def_ 30 (d := d_change) rfl
  have F30 : Fun K "_law_change" "_law_change" s_change (He.fAd K ("_law_change", none)) fd30 := fun_of D30
  have b30 := F30.binds (ps := ["_law_deck_here", "_law_many", "_law_table_here"]) fun _ _ _ _ _ _ us hl => match us, hl with | [_, _, _], _ => rfl
  obtain ⟨fd31, D31⟩ := c.t.d.def_ 31 (d := d_wish) rfl
  have F31 : Fun K "_law_wish" "_law_wish" s_wish (He.fAd K ("_law_wish", none)) fd31 := fun_of D31
  have b31 := F31.binds (ps := ["_law_deck_here", "_law_most"]) fun _ _ _ _ _ _ us hl => match us, hl with | [_, _], _ => rfl
  obtain ⟨fd32, D32⟩ := c.t.d.def_ 32 (d := d_all_products) rfl
  have F32 : Fun K "_law_all_products" "_law_all_products" s_all_products (He.fAd K ("_law_all_products", none)) fd32 := fun_of D32
  have b32 := F32.binds (ps := ["_law_many"]) fun _ _ _ _ _ _ us hl => match us, hl with | [_], _ => rfl
  obtain ⟨fd33, D33⟩ := c.t.d.def_ 33 (d := d_fits) rfl
  have F33 : Fun K "_law_fits" "_law_fits" s_fits (He.fAd K ("_law_fits", none)) fd33 := fun_of D33
  have b33 := F33.binds (ps := ["_law_wish_here", "_law_product_here", "_law_change_here"]) fun _ _ _ _ _ _ us hl => match us, hl with | [_, _, _], _ => rfl
  obtain ⟨fd34, D34⟩ := c.t.d.def_ 34 (d := d_allowed) rfl
  have F34 : Fun K "_law_allowed" "_law_allowed" s_allowed (He.fAd K ("_law_allowed", none)) fd34 := fun_of D34
  have b34 := F34.binds (ps := ["_law_wish_here", "_law_product_here"]) fun _ _ _ _ _ _ us hl => match us, hl with | [_, _], _ => rfl
  obtain ⟨fd35, D35⟩ := c.t.d.def_ 35 (d := d_greatest) rfl
  have F35 : Fun K "_law_greatest" "_law_greatest" s_greatest (He.fAd K ("_law_greatest", none)) fd35 := fun_of D35
  have b35 := F35.binds (ps := ["_law_wish_here"]) fun _ _ _ _ _ _ us hl => match us, hl with | [_], _ => rfl
  obtain ⟨fd36, D36⟩ := c.t.d.def_ 36 (d := d_asked) rfl
  have F36 : Fun K "_law_asked" "_law_asked" s_asked (He.fAd K ("_law_asked", none)) fd36 := fun_of D36
  have b36 := F36.binds (ps := ["_law_wish_here"]) fun _ _ _ _ _ _ us hl => match us, hl with | [_], _ => rfl
  obtain ⟨fd37, D37⟩ := c.t.d.def_ 37 (d := d_fewest) rfl
  have F37 : Fun K "_law_fewest" "_law_fewest" s_fewest (He.fAd K ("_law_fewest", none)) fd37 := fun_of D37
  have b37 := F37.binds (ps := ["_law_menu", "_law_asked_here"]) fun _ _ _ _ _ _ us hl => match us, hl with | [_, _], _ => rfl
  obtain ⟨fd38, D38⟩ := c.t.d.def_ 38 (d := d_apart) rfl
  have F38 : Fun K "_law_apart" "_law_apart" s_apart (He.fAd K ("_law_apart", none)) fd38 := fun_of D38
  have b38 := F38.binds (ps := ["_law_menu", "_law_given_here", "_law_some"]) fun _ _ _ _ _ _ us hl => match us, hl with | [_, _, _], _ => rfl
  obtain ⟨fd39, D39⟩ := c.t.d.def_ 39 (d := d_shown) rfl
  have F39 : Fun K "_law_shown" "_law_shown" s_shown (He.fAd K ("_law_shown", none)) fd39 := fun_of D39
  have b39 := F39.binds (ps := ["_law_menu", "_law_given_here", "_law_thing"]) fun _ _ _ _ _ _ us hl => match us, hl with | [_, _, _], _ => rfl
  obtain ⟨fd40, D40⟩ := c.t.d.def_ 40 (d := d_paper) rfl
  have F40 : Fun K "_law_paper" "_law_paper" s_paper (He.fAd K ("_law_paper", none)) fd40 := fun_of D40
  have b40 := F40.binds (ps := ["_law_deck_here", "_law_menu", "_law_given_here", "_law_deep"]) fun _ _ _ _ _ _ us hl => match us, hl with | [_, _, _, _], _ => rfl
  obtain ⟨fd41, D41⟩ := c.t.d.def_ 41 (d := d_holds_any) rfl
  have F41 : Fun K "_law_holds_any" "_law_holds_any" s_holds_any (He.fAd K ("_law_holds_any", none)) fd41 := fun_of D41
  have b41 := F41.binds (ps := ["_law_product_here", "_law_some"]) fun _ _ _ _ _ _ us hl => match us, hl with | [_, _], _ => rfl
  obtain ⟨fd42, D42⟩ := c.t.d.def_ 42 (d := d_given) rfl
  have F42 : Fun K "_law_given" "_law_given" s_given (He.fAd K ("_law_given", none)) fd42 := fun_of D42
  have b42 := F42.binds (ps := ["_law_deck_here", "_law_asked_here"]) fun _ _ _ _ _ _ us hl => match us, hl with | [_, _], _ => rfl
  obtain ⟨fd43, D43⟩ := c.t.d.def_ 43 (d := d_law) rfl
  have F43 : Fun K "law" "law" s_law (He.fAd K ("law", none)) fd43 := fun_of D43
  have b43 := F43.binds (ps := ["_law_script"]) fun _ _ _ _ _ _ us hl => match us, hl with | [_], _ => rfl
  have e := hfa.symm.trans (He.glo_ok X G (c.t.d.fact 43 (f := .glo "law") rfl))
  cases e
  let T : Tx K mg := { f_choices_of := _, fd_choices_of := _, F_choices_of := F0, g_choices_of := He.glo_ok X G (c.t.d.fact 0 (f := .glo "choices_of") rfl), b_choices_of := b0, f_rows_of := _, fd_rows_of := _, F_rows_of := F1, g_rows_of := He.glo_ok X G (c.t.d.fact 1 (f := .glo "rows_of") rfl), b_rows_of := b1, f_table_worth := _, fd_table_worth := _, F_table_worth := F2, g_table_worth := He.glo_ok X G (c.t.d.fact 2 (f := .glo "table_worth") rfl), b_table_worth := b2, f_show_row := _, fd_show_row := _, F_show_row := F3, g_show_row := He.glo_ok X G (c.t.d.fact 3 (f := .glo "show_row") rfl), b_show_row := b3, c_show_row := (He.cT K ("show_row", none)).1, P_show_row := (He.cT K ("show_row", none)).2, cd_show_row := code_of F3, f_is_product := _, fd_is_product := _, F_is_product := F4, g_is_product := He.glo_ok X G (c.t.d.fact 4 (f := .glo "is_product") rfl), b_is_product := b4, c_is_product := (He.cT K ("is_product", none)).1, P_is_product := (He.cT K ("is_product", none)).2, cd_is_product := code_of F4, f_holds_row := _, fd_holds_row := _, F_holds_row := F5, g_holds_row := He.glo_ok X G (c.t.d.fact 5 (f := .glo "holds_row") rfl), b_holds_row := b5, f_holds_all := _, fd_holds_all := _, F_holds_all := F6, g_holds_all := He.glo_ok X G (c.t.d.fact 6 (f := .glo "holds_all") rfl), b_holds_all := b6, c_holds_all := (He.cT K ("holds_all", none)).1, P_holds_all := (He.cT K ("holds_all", none)).2, cd_holds_all := code_of F6, f_meet := _, fd_meet := _, F_meet := F7, g_meet := He.glo_ok X G (c.t.d.fact 7 (f := .glo "meet") rfl), b_meet := b7, c_meet := (He.cT K ("meet", none)).1, P_meet := (He.cT K ("meet", none)).2, cd_meet := code_of F7, f_cube_of := _, fd_cube_of := _, F_cube_of := F8, g_cube_of := He.glo_ok X G (c.t.d.fact 8 (f := .glo "cube_of") rfl), b_cube_of := b8, c_cube_of := (He.cT K ("cube_of", none)).1, P_cube_of := (He.cT K ("cube_of", none)).2, cd_cube_of := code_of F8, f_unheld := _, fd_unheld := _, F_unheld := F9, g_unheld := He.glo_ok X G (c.t.d.fact 9 (f := .glo "unheld") rfl), b_unheld := b9, c_unheld := (He.cT K ("unheld", none)).1, P_unheld := (He.cT K ("unheld", none)).2, cd_unheld := code_of F9, f_is_allowed := _, fd_is_allowed := _, F_is_allowed := F10, g_is_allowed := He.glo_ok X G (c.t.d.fact 10 (f := .glo "is_allowed") rfl), b_is_allowed := b10, f_why_not := _, fd_why_not := _, F_why_not := F11, g_why_not := He.glo_ok X G (c.t.d.fact 11 (f := .glo "why_not") rfl), b_why_not := b11, f_is_allowed_at := _, fd_is_allowed_at := _, F_is_allowed_at := F12, g_is_allowed_at := He.glo_ok X G (c.t.d.fact 12 (f := .glo "is_allowed_at") rfl), b_is_allowed_at := b12, c_is_allowed_at := (He.cT K ("is_allowed_at", none)).1, P_is_allowed_at := (He.cT K ("is_allowed_at", none)).2, cd_is_allowed_at := code_of F12, f_ones_of := _, fd_ones_of := _, F_ones_of := F13, g_ones_of := He.glo_ok X G (c.t.d.fact 13 (f := .glo "ones_of") rfl), b_ones_of := b13, f_allowed_of := _, fd_allowed_of := _, F_allowed_of := F14, g_allowed_of := He.glo_ok X G (c.t.d.fact 14 (f := .glo "allowed_of") rfl), b_allowed_of := b14, c_allowed_of := (He.cT K ("allowed_of", none)).1, P_allowed_of := (He.cT K ("allowed_of", none)).2, cd_allowed_of := code_of F14, f_greatest_allowed := _, fd_greatest_allowed := _, F_greatest_allowed := F15, g_greatest_allowed := He.glo_ok X G (c.t.d.fact 15 (f := .glo "greatest_allowed") rfl), b_greatest_allowed := b15, c_greatest_allowed := (He.cT K ("greatest_allowed", none)).1, P_greatest_allowed := (He.cT K ("greatest_allowed", none)).2, cd_greatest_allowed := code_of F15, f_shown_by := _, fd_shown_by := _, F_shown_by := F16, g_shown_by := He.glo_ok X G (c.t.d.fact 16 (f := .glo "shown_by") rfl), b_shown_by := b16, f_shown_for := _, fd_shown_for := _, F_shown_for := F17, g_shown_for := He.glo_ok X G (c.t.d.fact 17 (f := .glo "shown_for") rfl), b_shown_for := b17, f_shown_apart := _, fd_shown_apart := _, F_shown_apart := F18, g_shown_apart := He.glo_ok X G (c.t.d.fact 18 (f := .glo "shown_apart") rfl), b_shown_apart := b18, c_shown_apart := (He.cT K ("shown_apart", none)).1, P_shown_apart := (He.cT K ("shown_apart", none)).2, cd_shown_apart := code_of F18, f_shown_case := _, fd_shown_case := _, F_shown_case := F19, g_shown_case := He.glo_ok X G (c.t.d.fact 19 (f := .glo "shown_case") rfl), b_shown_case := b19, f_deck := _, fd_deck := _, F_deck := F20, g_deck := He.glo_ok X G (c.t.d.fact 20 (f := .glo "_law_deck") rfl), b_deck := b20, f_next := _, fd_next := _, F_next := F21, g_next := He.glo_ok X G (c.t.d.fact 21 (f := .glo "_law_next") rfl), b_next := b21, f_rows := _, fd_rows := _, F_rows := F22, g_rows := He.glo_ok X G (c.t.d.fact 22 (f := .glo "_law_rows") rfl), b_rows := b22, f_holds := _, fd_holds := _, F_holds := F23, g_holds := He.glo_ok X G (c.t.d.fact 23 (f := .glo "_law_holds") rfl), b_holds := b23, f_inside := _, fd_inside := _, F_inside := F24, g_inside := He.glo_ok X G (c.t.d.fact 24 (f := .glo "_law_inside") rfl), b_inside := b24, f_meets := _, fd_meets := _, F_meets := F25, g_meets := He.glo_ok X G (c.t.d.fact 25 (f := .glo "_law_meets") rfl), b_meets := b25, f_cube := _, fd_cube := _, F_cube := F26, g_cube := He.glo_ok X G (c.t.d.fact 26 (f := .glo "_law_cube") rfl), b_cube := b26, f_product := _, fd_product := _, F_product := F27, g_product := He.glo_ok X G (c.t.d.fact 27 (f := .glo "_law_product") rfl), b_product := b27, f_table := _, fd_table := _, F_table := F28, g_table := He.glo_ok X G (c.t.d.fact 28 (f := .glo "_law_table") rfl), b_table := b28, f_worth := _, fd_worth := _, F_worth := F29, g_worth := He.glo_ok X G (c.t.d.fact 29 (f := .glo "_law_worth") rfl), b_worth := b29, f_change := _, fd_change := _, F_change := F30, g_change := He.glo_ok X G (c.t.d.fact 30 (f := .glo "_law_change") rfl), b_change := b30, f_wish := _, fd_wish := _, F_wish := F31, g_wish := He.glo_ok X G (c.t.d.fact 31 (f := .glo "_law_wish") rfl), b_wish := b31, f_all_products := _, fd_all_products := _, F_all_products := F32, g_all_products := He.glo_ok X G (c.t.d.fact 32 (f := .glo "_law_all_products") rfl), b_all_products := b32, f_fits := _, fd_fits := _, F_fits := F33, g_fits := He.glo_ok X G (c.t.d.fact 33 (f := .glo "_law_fits") rfl), b_fits := b33, f_allowed := _, fd_allowed := _, F_allowed := F34, g_allowed := He.glo_ok X G (c.t.d.fact 34 (f := .glo "_law_allowed") rfl), b_allowed := b34, f_greatest := _, fd_greatest := _, F_greatest := F35, g_greatest := He.glo_ok X G (c.t.d.fact 35 (f := .glo "_law_greatest") rfl), b_greatest := b35, f_asked := _, fd_asked := _, F_asked := F36, g_asked := He.glo_ok X G (c.t.d.fact 36 (f := .glo "_law_asked") rfl), b_asked := b36, f_fewest := _, fd_fewest := _, F_fewest := F37, g_fewest := He.glo_ok X G (c.t.d.fact 37 (f := .glo "_law_fewest") rfl), b_fewest := b37, f_apart := _, fd_apart := _, F_apart := F38, g_apart := He.glo_ok X G (c.t.d.fact 38 (f := .glo "_law_apart") rfl), b_apart := b38, f_shown := _, fd_shown := _, F_shown := F39, g_shown := He.glo_ok X G (c.t.d.fact 39 (f := .glo "_law_shown") rfl), b_shown := b39, f_paper := _, fd_paper := _, F_paper := F40, g_paper := He.glo_ok X G (c.t.d.fact 40 (f := .glo "_law_paper") rfl), b_paper := b40, f_holds_any := _, fd_holds_any := _, F_holds_any := F41, g_holds_any := He.glo_ok X G (c.t.d.fact 41 (f := .glo "_law_holds_any") rfl), b_holds_any := b41, f_given := _, fd_given := _, F_given := F42, g_given := He.glo_ok X G (c.t.d.fact 42 (f := .glo "_law_given") rfl), b_given := b42, f_law := _, fd_law := _, F_law := F43, g_law := He.glo_ok X G (c.t.d.fact 43 (f := .glo "law") rfl), b_law := b43, m_all := He.free_ok X G (c.t.d.fact 44 (f := .free "all") rfl), m_any := He.free_ok X G (c.t.d.fact 45 (f := .free "any") rfl), m_bool := He.free_ok X G (c.t.d.fact 46 (f := .free "bool") rfl), m_enumerate := He.free_ok X G (c.t.d.fact 47 (f := .free "enumerate") rfl), m_int := He.free_ok X G (c.t.d.fact 48 (f := .free "int") rfl), m_isinstance := He.free_ok X G (c.t.d.fact 49 (f := .free "isinstance") rfl), m_len := He.free_ok X G (c.t.d.fact 50 (f := .free "len") rfl), m_list := He.free_ok X G (c.t.d.fact 51 (f := .free "list") rfl), m_min := He.free_ok X G (c.t.d.fact 52 (f := .free "min") rfl), m_range := He.free_ok X G (c.t.d.fact 53 (f := .free "range") rfl), m_set := He.free_ok X G (c.t.d.fact 54 (f := .free "set") rfl), m_sorted := He.free_ok X G (c.t.d.fact 55 (f := .free "sorted") rfl), m_str := He.free_ok X G (c.t.d.fact 56 (f := .free "str") rfl), m_sum := He.free_ok X G (c.t.d.fact 57 (f := .free "sum") rfl), m_tuple := He.free_ok X G (c.t.d.fact 58 (f := .free "tuple") rfl), m_zip := He.free_ok X G (c.t.d.fact 59 (f := .free "zip") rfl) }
  refine ⟨fd43, tf.map (He.cT K), sp_law K T.tabs, ?_, ?_, ?_, ?_, ?_, ?_⟩
  · rintro p hp
    obtain ⟨d, hd, rfl⟩ := List.mem_map.mp hp
    exact c.empty d hd
  · rintro p hp
    obtain ⟨d, hd, rfl⟩ := List.mem_map.mp hp
    exact c.out d hd
  · rintro p hp
    obtain ⟨d, hd, rfl⟩ := List.mem_map.mp hp
    exact PySem.W.codeHd_of_K X (c.hd d hd)
  · obtain ⟨oc, od, kV, doc, pm, an, cdv, ct, osl, rfl, lk, hcd⟩ := F43.ex
    exact fun s v => .of_eq rfl
  · intro H a ns hl hbits hT hS
    refine ⟨a, ns, rfl, hS, hl, fun P hP => ?_, fun _ => rfl⟩
    have hP : P ∈ (tf.map (He.cT K)).map (·.2) := hP
    obtain ⟨p, hp, rfl⟩ := List.mem_map.mp hP
    exact ⟨#[], hT p hp, by trivial⟩
  · intro base KB GB hTB
    have B : Tb base T := ⟨tab_of (hTB (He.cT K ("show_row", none)) (List.mem_map.mpr ⟨_, (show (("show_row", none) : He.Defn) ∈ tf by decide), rfl⟩)), tab_of (hTB (He.cT K ("is_product", none)) (List.mem_map.mpr ⟨_, (show (("is_product", none) : He.Defn) ∈ tf by decide), rfl⟩)), tab_of (hTB (He.cT K ("holds_all", none)) (List.mem_map.mpr ⟨_, (show (("holds_all", none) : He.Defn) ∈ tf by decide), rfl⟩)), tab_of (hTB (He.cT K ("meet", none)) (List.mem_map.mpr ⟨_, (show (("meet", none) : He.Defn) ∈ tf by decide), rfl⟩)), tab_of (hTB (He.cT K ("cube_of", none)) (List.mem_map.mpr ⟨_, (show (("cube_of", none) : He.Defn) ∈ tf by decide), rfl⟩)), tab_of (hTB (He.cT K ("unheld", none)) (List.mem_map.mpr ⟨_, (show (("unheld", none) : He.Defn) ∈ tf by decide), rfl⟩)), tab_of (hTB (He.cT K ("is_allowed_at", none)) (List.mem_map.mpr ⟨_, (show (("is_allowed_at", none) : He.Defn) ∈ tf by decide), rfl⟩)), tab_of (hTB (He.cT K ("allowed_of", none)) (List.mem_map.mpr ⟨_, (show (("allowed_of", none) : He.Defn) ∈ tf by decide), rfl⟩)), tab_of (hTB (He.cT K ("greatest_allowed", none)) (List.mem_map.mpr ⟨_, (show (("greatest_allowed", none) : He.Defn) ∈ tf by decide), rfl⟩)), tab_of (hTB (He.cT K ("shown_apart", none)) (List.mem_map.mpr ⟨_, (show (("shown_apart", none) : He.Defn) ∈ tf by decide), rfl⟩))⟩
    exact ok_law T B
end Gk
open PySem PySem.W PyProof.Rows
set_option maxRecDepth 100000 in
set_option maxHeartbeats 0 in
theorem PySem.Challenge.cw_glitchnet_k48_papers_of_any_hand_holds : PySem.Challenge.rw_glitchnet_k48_papers_of_any_hand.Holds := by
  w_on; o_law
  refine HandSHeadRun.head_any (r := OpenLaw.row PySem.Challenge.rw_glitchnet_k48_papers_of_any_hand) (q := view (OpenLaw.row PySem.Challenge.rw_glitchnet_k48_papers_of_any_hand).prog [49]) (H := Gk.hk) (ob := Gk.ob) (M := 3000) (loose := [("choices_of" : PySem.Str), ("rows_of" : PySem.Str), ("table_worth" : PySem.Str), ("show_row" : PySem.Str), ("is_product" : PySem.Str), ("holds_row" : PySem.Str), ("holds_all" : PySem.Str), ("meet" : PySem.Str), ("cube_of" : PySem.Str), ("unheld" : PySem.Str), ("is_allowed" : PySem.Str), ("why_not" : PySem.Str), ("is_allowed_at" : PySem.Str), ("ones_of" : PySem.Str), ("allowed_of" : PySem.Str), ("greatest_allowed" : PySem.Str), ("shown_by" : PySem.Str), ("shown_for" : PySem.Str), ("shown_apart" : PySem.Str), ("shown_case" : PySem.Str), ("_law_deck" : PySem.Str), ("_law_next" : PySem.Str), ("_law_rows" : PySem.Str), ("_law_holds" : PySem.Str), ("_law_inside" : PySem.Str), ("_law_meets" : PySem.Str), ("_law_cube" : PySem.Str), ("_law_product" : PySem.Str), ("_law_table" : PySem.Str), ("_law_worth" : PySem.Str), ("_law_change" : PySem.Str), ("_law_wish" : PySem.Str), ("_law_all_products" : PySem.Str), ("_law_fits" : PySem.Str), ("_law_allowed" : PySem.Str), ("_law_greatest" : PySem.Str), ("_law_asked" : PySem.Str), ("_law_fewest" : PySem.Str), ("_law_apart" : PySem.Str), ("_law_shown" : PySem.Str), ("_law_paper" : PySem.Str), ("_law_holds_any" : PySem.Str), ("_law_given" : PySem.Str)]) (d := HandSHeadRun.topDef (OpenLaw.row PySem.Challenge.rw_glitchnet_k48_papers_of_any_hand).prog 49) (kwd := []) Gk.ob_eq
    (by kernel_rfl) (fun s => by kernel_rfl) Gk.run (by kernel_rfl) (by kernel_rfl) (by kernel_rfl) (by rfl) (by first | assumption | decide +kernel) (by decide +kernel) ⟨rfl, rfl, rfl, rfl, rfl, by decide +kernel⟩ ?hw ?hc
  case hw => w_witness2
  case hc =>
    refine LamX.walk_ofTsE (l := PySem.Challenge.rw_glitchnet_k48_papers_of_any_hand) (n := 63) (k := 44) (x := "_law_script") (CX := fun _ => L2.CX0) rfl (by decide) (by kernel_rfl) ⟨rfl, by decide, by decide⟩ ?F (fun _ _ _ _ _ z => z)
    intro w mg fa h Y G hmg0
    obtain ⟨K, KX, c⟩ := Y
    have hmg : mg ("law" : PySem.Str) = some (.ref fa) := by
      have e : (HandSHeadRun.topDef (OpenLaw.row PySem.Challenge.rw_glitchnet_k48_papers_of_any_hand).prog 49).name = ("law" : PySem.Str) := by kernel_rfl
      rw [← e]
      exact hmg0
    exact ⟨K, KX, Gk.facts KX G hmg c⟩
