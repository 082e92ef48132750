import PyProof.Rows.All
import Wide.All
import OpenK.AllK
import Wide.FinOn
import HandS.ForMost
import HandS.SortRule
import HandS.TupSets
import KE.GoesMore
import KE.KDictZip
import HandS.IsInst
import HandS.TupLe
import HandS.TupAny
import HandS.TupMul
import HandS.More
import HandS.Codes
import HandS.Conv
import HandS.Deep
import HandS.Style
import HandS.Strs
import HandS.AnyAll
import HandS.GenList
import HandS.JoinGen
import HandS.Zip
import HandS.Rev
import HandS.Head0
import HandS.Head1
import HandS.Head2
import HandS.HeadEnd
import HandS.HeadHook1
import HandS.HeadHook2
import HandS.HeadHook3
import HandS.HeadHook4
import HandS.HeadWalk
import HandS.Defaults
import HandS.ReplaceLit
import PySem.Challenge.RW_glitchnet_k43_products_allowed
import HandS.SortInts
set_option Elab.async false
set_option linter.all false
set_option maxRecDepth 100000
set_option maxHeartbeats 1000000
namespace Gk
open PySem PySem.Spec PyProof.Rows L2
/-! ### sorted of pairs of tuples of ints -/
namespace SrtTT
open PySem PyProof.Rows Srt SrtO
theorem lex_asym : ∀ xs ys : List Int, HT.lexLt xs ys = true → HT.lexLt ys xs = false
  | [], [], h => by rw [HT.lexLt_nil_nil] at h; cases h
  | [], y :: ys, _ => HT.lexLt_cons_nil y ys
  | x :: xs, [], h => by rw [HT.lexLt_cons_nil] at h; cases h
  | x :: xs, y :: ys, h => by
    rw [HT.lexLt_cons] at h ⊢
    by_cases e : x = y
    · rw [if_pos e] at h
      rw [if_pos e.symm]
      exact lex_asym xs ys h
    · rw [if_neg e] at h
      rw [if_neg (Ne.symm e)]
      have a := of_decide_eq_true h
      exact decide_eq_false (by omega)
theorem lex_tot : ∀ xs ys : List Int, HT.lexLt xs ys = false → HT.lexLt ys xs = false → xs = ys
  | [], [], _, _ => rfl
  | [], y :: ys, h, _ => by rw [HT.lexLt_nil_cons] at h; cases h
  | x :: xs, [], _, h => by rw [HT.lexLt_nil_cons] at h; cases h
  | x :: xs, y :: ys, h1, h2 => by
    rw [HT.lexLt_cons] at h1 h2
    by_cases e : x = y
    · rw [if_pos e] at h1
      rw [if_pos e.symm] at h2
      rw [e, lex_tot xs ys h1 h2]
    · rw [if_neg e] at h1
      rw [if_neg (Ne.symm e)] at h2
      have a := of_decide_eq_false h1
      have b := of_decide_eq_false h2
      omega
theorem lex_tr : ∀ xs ys zs : List Int, HT.lexLt ys xs = false → HT.lexLt zs ys = false → HT.lexLt zs xs = false
  | [], ys, zs, _, _ => by
    cases zs with
    | nil => exact HT.lexLt_nil_nil
    | cons z zs => exact HT.lexLt_cons_nil z zs
  | x :: xs, [], zs, h, _ => by rw [HT.lexLt_nil_cons] at h; cases h
  | x :: xs, y :: ys, [], _, h => by rw [HT.lexLt_nil_cons] at h; cases h
  | x :: xs, y :: ys, z :: zs, h1, h2 => by
    rw [HT.lexLt_cons] at h1 h2 ⊢
    by_cases e1 : y = x
    · rw [if_pos e1] at h1
      by_cases e2 : z = y
      · rw [if_pos e2] at h2
        rw [if_pos (e2.trans e1)]
        exact lex_tr xs ys zs h1 h2
      · rw [if_neg e2] at h2
        have b := of_decide_eq_false h2
        rw [if_neg (fun q => e2 (q.trans e1.symm))]
        exact decide_eq_false (by omega)
    · rw [if_neg e1] at h1
      have a := of_decide_eq_false h1
      by_cases e2 : z = y
      · rw [if_neg (fun q => e1 (e2.symm.trans q))]
        exact decide_eq_false (by omega)
      · rw [if_neg e2] at h2
        have b := of_decide_eq_false h2
        have n : ¬ z = x := by omega
        rw [if_neg n]
        exact decide_eq_false (by omega)
def ltTT (p q : List Int × List Int) : Bool := if p.1 = q.1 then HT.lexLt p.2 q.2 else HT.lexLt p.1 q.1
theorem tt_asym {p q : List Int × List Int} (h : ltTT p q = true) : ltTT q p = false := by
  unfold ltTT at h ⊢
  by_cases e : p.1 = q.1
  · rw [if_pos e] at h
    rw [if_pos e.symm]
    exact lex_asym _ _ h
  · rw [if_neg e] at h
    rw [if_neg (Ne.symm e)]
    exact lex_asym _ _ h
theorem tt_tot {p q : List Int × List Int} (h1 : ltTT p q = false) (h2 : ltTT q p = false) : p = q := by
  unfold ltTT at h1 h2
  by_cases e : p.1 = q.1
  · rw [if_pos e] at h1
    rw [if_pos e.symm] at h2
    exact Prod.ext e (lex_tot _ _ h1 h2)
  · rw [if_neg e] at h1
    rw [if_neg (Ne.symm e)] at h2
    exact absurd (lex_tot _ _ h1 h2) e
theorem tt_tr {x y z : List Int × List Int} (h1 : ltTT y x = false) (h2 : ltTT z y = false) : ltTT z x = false := by
  unfold ltTT at h1 h2 ⊢
  by_cases e1 : y.1 = x.1
  · rw [if_pos e1] at h1
    by_cases e2 : z.1 = y.1
    · rw [if_pos e2] at h2
      rw [if_pos (e2.trans e1)]
      exact lex_tr _ _ _ h1 h2
    · rw [if_neg e2] at h2
      rw [if_neg (fun q => e2 (q.trans e1.symm)), ← e1]
      exact h2
  · rw [if_neg e1] at h1
    by_cases e2 : z.1 = y.1
    · rw [if_neg (fun q => e1 (e2.symm.trans q)), e2]
      exact h1
    · rw [if_neg e2] at h2
      by_cases e3 : z.1 = x.1
      · rw [e3] at h2
        exact absurd (lex_tot _ _ h1 h2) e1
      · rw [if_neg e3]
        exact lex_tr _ _ _ h1 h2
theorem swo_tt {α : Type} (k : α → List Int × List Int) : Swo (fun v u : α => ltTT (k v) (k u)) := ⟨fun _ _ h => tt_asym h, fun _ _ _ h1 h2 => tt_tr h1 h2⟩
def IsTT (h : Heap) (v : Value) (k : List Int × List Int) : Prop := ∃ p o x y n, v = .ref p ∧ h.get? p = some o ∧ o.cls = .type "tuple" ∧ o.data = .seq #[x, y] n ∧ TS.TupInts h x k.1 ∧ TS.TupInts h y k.2
theorem IsTT.keeps {h h' : Heap} {v : Value} {k : List Int × List Int} (x : IsTT h v k) (kp : ∀ b o, h.get? b = some o → o.cls = .type "tuple" → h'.get? b = some o) : IsTT h' v k := by
  obtain ⟨p, o, x, y, n, e, ho, hc, hd, h1, h2⟩ := x
  exact ⟨p, o, x, y, n, e, kp _ _ ho hc, hc, hd, h1.keeps kp, h2.keeps kp⟩
theorem ints_fun {vs : List Value} {a b : List Int} (h : IntsAre vs a) (h' : IntsAre vs b) : a = b := by
  induction h generalizing b with
  | nil => cases h'; rfl
  | cons n t r ih =>
    cases h' with
    | cons _ _ r' => rw [ih r']
section
variable {prog : Program} {w : World} {A : Around} {E : Value → Shared → Prop} {s : Shared}
theorem all_eq : ∀ (a b : List Int), a.length = b.length → ((List.range a.length).all fun j => decide (a.getD j 0 = b.getD j 0)) = decide (a = b) := by
  intro a b hl
  by_cases e : a = b
  · subst e
    simp
  · rw [decide_eq_false e]
    rw [Bool.eq_false_iff]
    intro h
    apply e
    rw [List.all_eq_true] at h
    apply List.ext_getElem hl
    intro i h1 h2
    have := of_decide_eq_true (h i (List.mem_range.mpr h1))
    simpa [List.getD_eq_getElem?_getD, h1, h2] using this
theorem eqTup {x y : Value} {a b : List Int} (hu : A.units < cLine) (hx : TS.TupInts s.heap x a) (hy : TS.TupInts s.heap y b) : SeqAt.EqAt A s x y (decide (a = b)) := by
  obtain ⟨p, xs, rfl, ⟨o, ho, hc, n, hd⟩, hi⟩ := hx
  obtain ⟨q, ys, rfl, ⟨o', ho', hc', n', hd'⟩, hi'⟩ := hy
  by_cases e : p = q
  · subst e
    rw [ho] at ho'
    cases ho'
    rw [hd] at hd'
    cases hd'
    rw [ints_fun hi hi', decide_eq_true rfl]
    exact SeqAt.EqAt.same _
  · have z1 : xs.size = a.length := by rw [← hi.length]; simp
    have z2 : ys.size = b.length := by rw [← hi'.length]; simp
    have at1 : ∀ j (h1 : j < xs.size), ∃ t, xs[j] = .int (a.getD j 0) t := fun j h1 => PyProof.Rows.IntsAre.int_at hi _ _ (by simp [h1])
    have at2 : ∀ j (h1 : j < ys.size), ∃ t, ys[j] = .int (b.getD j 0) t := fun j h1 => PyProof.Rows.IntsAre.int_at hi' _ _ (by simp [h1])
    have R := SeqAt.RcAt.tuples (A := A) (s := s) (e := fun j => decide (a.getD j 0 = b.getD j 0)) (l := p) (b := q) (items := xs) (items2 := ys) ⟨o, ho, hc, n, hd⟩ ⟨o', ho', hc', n', hd'⟩ hu (fun j h1 h2 => by
      obtain ⟨t, et⟩ := at1 j h1
      obtain ⟨t', et'⟩ := at2 j h2
      rw [et, et']
      have z : (a.getD j 0 == b.getD j 0) = decide (a.getD j 0 = b.getD j 0) := by
        by_cases q : a.getD j 0 = b.getD j 0
        · rw [decide_eq_true q]; exact beq_iff_eq.mpr q
        · rw [decide_eq_false q]; exact beq_eq_false_iff_ne.mpr q
      rw [← z]
      exact SeqAt.EqAt.int_int _ _ _ _)
    have ez : ((List.range (min xs.size ys.size)).all (fun j => decide (a.getD j 0 = b.getD j 0)) && xs.size == ys.size) = decide (a = b) := by
      rw [z1, z2]
      by_cases hl : a.length = b.length
      · rw [hl, Nat.min_self, beq_self_eq_true, Bool.and_true, ← hl]
        exact all_eq a b hl
      · rw [beq_eq_false_iff_ne.mpr hl, Bool.and_false, decide_eq_false (fun q => hl (by rw [q]))]
    rw [ez] at R
    exact SeqAt.EqAt.of_refs e R
theorem tt_cmp {vs : List Value} {k : Value → List Int × List Int} (hu : A.units < cLine) (hp : ∀ v ∈ vs, IsTT s.heap v (k v)) : Cmp prog w A s (tuples' false) (fun p => p.1 ∈ vs) (lt2 fun v u => ltTT (k v) (k u)) := by
  intro p q hm hm'
  have h1 := hp _ hm
  have h2 := hp _ hm'
  show wpAny (model prog w) A (keyLt' (tuples' false) p.1 q.1) (fun r s' => s' = s ∧ r = ltTT (k p.1) (k q.1)) (fun _ _ => False) s
  unfold ltTT
  generalize k p.1 = c at h1 ⊢
  generalize k q.1 = c' at h2 ⊢
  obtain ⟨a, o, x, y, n, e, ho, hc, hd, hx, hy⟩ := h1
  obtain ⟨a', o', x', y', n', e', ho', hc', hd', hx', hy'⟩ := h2
  rw [e, e']
  have lt : ∀ {x y : Value} {a b : List Int}, TS.TupInts s.heap x a → TS.TupInts s.heap y b → ∀ {Q : Bool → Shared → Prop}, Q (HT.lexLt a b) s → wpAny (model prog w) A (oneLt' false x y) Q (fun _ _ => False) s := by
    intro x y a b ix iy Q hq
    obtain ⟨p, xs, rfl, hp, hi⟩ := ix
    obtain ⟨q, ys, rfl, hq', hi'⟩ := iy
    refine PySem.W.kat_one _ _ (HT.lt_tupInts hp hq' hi hi' hu ?_)
    exact hq
  refine PySem.W.kat_lt ho hd ho' hd' ?_
  show PySem.W.KatLex prog w A false (decide (2 < 2)) _ [(x, x'), (y, y')] 0 s
  refine PySem.W.kat_cons (eqTup hu hx hx' prog w _ _ ?_)
  refine PySem.W.kat_go (fun e1 => ?_) (fun e1 => ?_)
  · have ex := of_decide_eq_true e1
    rw [if_pos ex]
    refine PySem.W.kat_yes (PySem.W.kat_cons (eqTup hu hy hy' prog w _ _ ?_))
    refine PySem.W.kat_go (fun e2 => ?_) (fun e2 => ?_)
    · have ey := of_decide_eq_true e2
      refine PySem.W.kat_yes (PySem.W.kat_nil ⟨rfl, ?_⟩)
      rw [ey]
      exact ((swo_tt (fun c : List Int => (([] : List Int), c))).refl c'.2).symm
    · exact PySem.W.kat_no (lt hy hy' ⟨rfl, rfl⟩)
  · rw [if_neg (of_decide_eq_false e1)]
    exact PySem.W.kat_no (lt hx hx' ⟨rfl, rfl⟩)
theorem firsts_tt {h : Heap} : ∀ {vs : List Value}, (∀ v ∈ vs, ∃ k, IsTT h v k) → ∃ fs : List Value, PySem.W.KatTups h vs fs ∧ fs.length = vs.length ∧ ∀ f ∈ fs, ∃ ns, TS.TupInts h f ns
  | [], _ => ⟨[], PySem.W.KatTups.nil, rfl, fun _ hm => by simp at hm⟩
  | v :: vs, hp => by
    obtain ⟨fs, h1, h2, h3⟩ := firsts_tt (vs := vs) fun v' hm => hp v' (List.mem_cons_of_mem _ hm)
    obtain ⟨k, a, o, x, y, n, e, ho, hc, hd, hx, hy⟩ := hp v (List.mem_cons_self ..)
    subst e
    refine ⟨x :: fs, PySem.W.KatTups.cons ho hc hd rfl h1, by rw [List.length_cons, List.length_cons, h2], fun f hm => ?_⟩
    rcases List.mem_cons.mp hm with rfl | hm
    · exact ⟨_, hx⟩
    · exact h3 f hm
theorem tt_sortableO {a : Addr} {vs : List Value} {k : Value → List Int × List Int} (hu : A.units < cLine) (h0 : 0 < vs.length) (hp : ∀ v ∈ vs, IsTT s.heap v (k v)) (ha : ∀ o, s.heap.get? a = some o → o.cls ≠ .type "tuple") : SortableO prog w A s a vs fun v u => ltTT (k v) (k u) := by
  intro h' keep
  have hp' : ∀ v ∈ vs, IsTT h' v (k v) := fun v hm => (hp v hm).keeps fun b o e c => keep b o (fun z => by subst z; exact ha o e c) e
  obtain ⟨fs, h1, h2, h3⟩ := firsts_tt fun v hm => ⟨_, hp' v hm⟩
  refine ⟨tuples' false, fun Q E hq => ?_, tt_cmp (s := { s with heap := h' }) hu hp'⟩
  refine PySem.W.kat_kind (T := .type "tuple") h1 (by omega) (fun f hm => ?_) (by rfl) ?_
  · obtain ⟨ns, p, xs, rfl, ⟨o, ho, hc, _⟩, _⟩ := h3 f hm
    have z : PySem.W.Looks (model prog w) h' (typeOf (.ref p)) o.cls := (PySem.W.Looks.ld ho).andThen .now
    rw [hc] at z
    exact z
  · have e : (Value.type "tuple" != Value.type "tuple") = false := by first | decide +kernel | rfl | decide
    rw [e]
    exact hq
end
end SrtTT
/-- sorted(xs), pairs of tuples of ints, any number of them -/
def rSortedTT (K : PySem.W.Frag) : List V → Hp → VK → Prop := fun vs H Q => ∃ (a : Addr) (xs : List V) (k : V → List Int × List Int), vs = [V.ref a] ∧ SqL K H a xs ∧ (∀ x ∈ xs, ∃ t u v, x = V.ref t ∧ H t = some (.tup [.ref u, .ref v]) ∧ SqT K H u ((k x).1.map V.int) ∧ SqT K H v ((k x).2.map V.int)) ∧
  ∀ ys p, SrtO.Srtd (fun x y => SrtTT.ltTT (k x) (k y)) ys → ys.Perm xs → H p = none → Q (.ref p) (upd H p (.lst ys))
theorem cr_sortedTT {X : Cx} (hu : X.A.units + 64 < cLine) : CallR X (.builtin "sorted") (rSortedTT X.K) := by
  intro pins s σ H vs us Q I r h
  obtain ⟨a, xs, k, rfl, hs, hx, q⟩ := h
  obtain ⟨its, rv, hl, hz⟩ := I.list hs
  obtain ⟨u, rfl, ru⟩ := vals1 r
  obtain rfl : u = Value.ref a := ru
  obtain ⟨e1, e2⟩ := refs_back rv fun x m => by
    obtain ⟨t, _, _, e, _⟩ := hx x m
    exact ⟨t, e⟩
  have hp : ∀ v ∈ its, SrtTT.IsTT s.heap v (k (backV v)) := fun v hv => by
    obtain ⟨t, rfl⟩ := e2 v hv
    have hm : V.ref t ∈ xs := by rw [e1]; exact List.mem_map.mpr ⟨_, hv, rfl⟩
    obtain ⟨t', u1, u2, e, ht, h1, h2⟩ := hx _ hm
    cases e
    obtain ⟨_, its2, r2, o, ho, hc, n, hd⟩ := I.hok _ _ ht
    obtain ⟨w1, w2, rfl, ri, rj⟩ := vals2 r2
    obtain rfl : w1 = Value.ref u1 := ri
    obtain rfl : w2 = Value.ref u2 := rj
    exact ⟨t, o, _, _, n, rfl, ho, hc, hd, tupI_raw I h1, tupI_raw I h2⟩
  refine SrtO.sorted_ord (SrtTT.swo_tt fun u => k (backV u)) hl.isList (by rw [← rv.length]; exact hz) (fun h2 h₁ a' ha kk => ?_) fun out h1 h2 => ?_
  · refine SrtTT.tt_sortableO (k := fun u => k (backV u)) (s := { s with heap := h₁ }) (by simp only [Around.in1_units]; omega) (by omega) (fun v hm => (hp v hm).keeps fun b o e _ => (kk b o e).2) fun o e => ?_
    have e' : some o = some (seqObj "list" its.toArray 0) := e.symm.trans ha
    cases e'
    intro c
    exact absurd (Value.type.inj c) (by decide)
  · have h3 : ∀ u ∈ out, ∃ a, u = Value.ref a := fun u hu => e2 u (h2.perm.mem_iff.mp hu)
    obtain ⟨n, hn⟩ := PyProof.Rows.sortedAll_at s.heap its out.toArray
    have hb : (out.map backV).Perm xs := by
      rw [e1]
      exact h2.perm.map backV
    refine ⟨.ref _, upd H (s.heap.objs.size + 1) (.lst (out.map backV)), I.laid (t' := s.toks) (fun _ _ => PyProof.Rows.sortedAll_old) (Nat.le_succ _) ⟨?_, out, n, vals_back h3, hn⟩, rfl, q _ _ (SrtO.srtd_map h1) hb (I.hok.fresh (Nat.le_succ _))⟩
    rw [hb.length_eq]
    exact hz

/-! ### sorted of tuples of ints, any number of them -/
namespace SrtT
open PySem PyProof.Rows Srt SrtO
theorem swo_t {α : Type} (k : α → List Int) : Swo (fun v u : α => HT.lexLt (k v) (k u)) := ⟨fun _ _ h => SrtTT.lex_asym _ _ h, fun _ _ _ h1 h2 => SrtTT.lex_tr _ _ _ h1 h2⟩
section
variable {prog : Program} {w : World} {A : Around} {E : Value → Shared → Prop} {s : Shared}
theorem lex {Q : Bool → Shared → Prop} : ∀ {xs ys : List Value} {a b : List Int} (i : Nat), IntsAre xs a → IntsAre ys b → a.length = b.length → Q (HT.lexLt a b) s → PySem.W.KatLex prog w A true false Q (xs.zip ys) i s
  | _, _, _, _, i, .nil, .nil, _, h => PySem.W.kat_nil h
  | _, _, _, _, i, .nil, .cons _ _ _, hl, h => by simp at hl
  | _, _, _, _, i, .cons _ _ _, .nil, hl, h => by simp at hl
  | _, _, _, _, i, .cons n t r, .cons m u r', hl, h => by
    refine PySem.W.kat_cons (SeqAt.EqAt.int_int _ _ _ _ prog w _ _ ?_)
    refine PySem.W.kat_go (fun e => ?_) (fun e => ?_)
    · have e : n = m := beq_iff_eq.mp e
      rw [HT.lexLt_cons, if_pos e] at h
      exact PySem.W.kat_yes (lex (i + 1) r r' (by simpa using hl) h)
    · have e : n ≠ m := beq_eq_false_iff_ne.mp e
      rw [HT.lexLt_cons, if_neg e] at h
      exact PySem.W.kat_no (TS.oneLt_ints _ h)
theorem t_cmp {d : Nat} {vs : List Value} {k : Value → List Int} (hp : ∀ v ∈ vs, TS.TupInts s.heap v (k v) ∧ (k v).length = d) : Cmp prog w A s (tuples' true) (fun p => p.1 ∈ vs) (lt2 fun v u => HT.lexLt (k v) (k u)) := by
  intro p q hm hm'
  obtain ⟨h1, l1⟩ := hp _ hm
  obtain ⟨h2, l2⟩ := hp _ hm'
  show wpAny (model prog w) A (keyLt' (tuples' true) p.1 q.1) (fun r s' => s' = s ∧ r = HT.lexLt (k p.1) (k q.1)) (fun _ _ => False) s
  generalize k p.1 = c at h1 l1 ⊢
  generalize k q.1 = c' at h2 l2 ⊢
  obtain ⟨a, xs, e, ⟨o, ho, hc, n, hd⟩, hi⟩ := h1
  obtain ⟨a', ys, e', ⟨o', ho', hc', n', hd'⟩, hi'⟩ := h2
  rw [e, e']
  refine PySem.W.kat_lt ho hd ho' hd' ?_
  have z1 : xs.size = c.length := by rw [← hi.length]; simp
  have z2 : ys.size = c'.length := by rw [← hi'.length]; simp
  have z : decide (xs.size < ys.size) = false := decide_eq_false (by omega)
  rw [z]
  exact lex 0 hi hi' (by omega) ⟨rfl, rfl⟩
theorem firsts_t {d : Nat} {h : Heap} (hd : 1 ≤ d) : ∀ {vs : List Value}, (∀ v ∈ vs, ∃ k, TS.TupInts h v k ∧ k.length = d) → ∃ fs : List Value, PySem.W.KatTups h vs fs ∧ fs.length = vs.length ∧ ∀ f ∈ fs, ∃ n t, f = Value.int n t
  | [], _ => ⟨[], PySem.W.KatTups.nil, rfl, fun _ hm => by simp at hm⟩
  | v :: vs, hp => by
    obtain ⟨fs, h1, h2, h3⟩ := firsts_t hd (vs := vs) fun v' hm => hp v' (List.mem_cons_of_mem _ hm)
    obtain ⟨k, ⟨a, xs, e, ⟨o, ho, hc, n, hdd⟩, hi⟩, hl⟩ := hp v (List.mem_cons_self ..)
    subst e
    have z1 : xs.size = k.length := by rw [← hi.length]; simp
    have h0 : 0 < xs.size := by omega
    obtain ⟨t, et⟩ := PyProof.Rows.IntsAre.int_at hi 0 xs[0] (by simp [h0])
    refine ⟨xs[0] :: fs, PySem.W.KatTups.cons ho hc hdd (by simp [h0]) h1, by rw [List.length_cons, List.length_cons, h2], fun f hm => ?_⟩
    rcases List.mem_cons.mp hm with rfl | hm
    · exact ⟨_, _, et⟩
    · exact h3 f hm
theorem t_sortableO {d : Nat} {a : Addr} {vs : List Value} {k : Value → List Int} (hd : 1 ≤ d) (h0 : 0 < vs.length) (hp : ∀ v ∈ vs, TS.TupInts s.heap v (k v) ∧ (k v).length = d) (ha : ∀ o, s.heap.get? a = some o → o.cls ≠ .type "tuple") : SortableO prog w A s a vs fun v u => HT.lexLt (k v) (k u) := by
  intro h' keep
  have hp' : ∀ v ∈ vs, TS.TupInts h' v (k v) ∧ (k v).length = d := fun v hm => ⟨(hp v hm).1.keeps fun b o e c => keep b o (fun z => by subst z; exact ha o e c) e, (hp v hm).2⟩
  obtain ⟨fs, h1, h2, h3⟩ := firsts_t hd fun v hm => ⟨_, hp' v hm⟩
  refine ⟨tuples' true, fun Q E hq => ?_, t_cmp (s := { s with heap := h' }) hp'⟩
  refine PySem.W.kat_kind (T := .type "int") h1 (by omega) (fun f hm => ?_) (by rfl) ?_
  · obtain ⟨n, t, rfl⟩ := h3 f hm
    exact .now
  · have e : (Value.type "int" != Value.type "tuple") = true := by first | decide +kernel | rfl | decide
    rw [e]
    exact hq
end
end SrtT
/-- sorted(xs), tuples of d ints, any number of them -/
def rSortedTn (K : PySem.W.Frag) (d : Nat) : List V → Hp → VK → Prop := fun vs H Q => ∃ (a : Addr) (xs : List V) (k : V → List Int), vs = [V.ref a] ∧ SqL K H a xs ∧ (∀ x ∈ xs, ∃ t, x = V.ref t ∧ SqT K H t ((k x).map V.int) ∧ (k x).length = d) ∧
  ∀ ys p, SrtO.Srtd (fun x y => HT.lexLt (k x) (k y)) ys → ys.Perm xs → H p = none → Q (.ref p) (upd H p (.lst ys))
theorem cr_sortedTn {X : Cx} {d : Nat} (hd : 1 ≤ d) : CallR X (.builtin "sorted") (rSortedTn X.K d) := by
  intro pins s σ H vs us Q I r h
  obtain ⟨a, xs, k, rfl, hs, hx, q⟩ := h
  obtain ⟨its, rv, hl, hz⟩ := I.list hs
  obtain ⟨u, rfl, ru⟩ := vals1 r
  obtain rfl : u = Value.ref a := ru
  obtain ⟨e1, e2⟩ := refs_back rv fun x m => by
    obtain ⟨t, e, _⟩ := hx x m
    exact ⟨t, e⟩
  have hp : ∀ v ∈ its, TS.TupInts s.heap v (k (backV v)) ∧ (k (backV v)).length = d := fun v hv => by
    obtain ⟨t, rfl⟩ := e2 v hv
    have hm : V.ref t ∈ xs := by rw [e1]; exact List.mem_map.mpr ⟨_, hv, rfl⟩
    obtain ⟨t', e, h1, h2⟩ := hx _ hm
    cases e
    exact ⟨tupI_raw I h1, h2⟩
  refine SrtO.sorted_ord (SrtT.swo_t fun u => k (backV u)) hl.isList (by rw [← rv.length]; exact hz) (fun h2 h₁ a' ha kk => ?_) fun out h1 h2 => ?_
  · refine SrtT.t_sortableO (d := d) (k := fun u => k (backV u)) (s := { s with heap := h₁ }) hd (by omega) (fun v hm => ⟨(hp v hm).1.keeps fun b o e _ => (kk b o e).2, (hp v hm).2⟩) fun o e => ?_
    have e' : some o = some (seqObj "list" its.toArray 0) := e.symm.trans ha
    cases e'
    intro c
    exact absurd (Value.type.inj c) (by decide)
  · have h3 : ∀ u ∈ out, ∃ a, u = Value.ref a := fun u hu => e2 u (h2.perm.mem_iff.mp hu)
    obtain ⟨n, hn⟩ := PyProof.Rows.sortedAll_at s.heap its out.toArray
    have hb : (out.map backV).Perm xs := by
      rw [e1]
      exact h2.perm.map backV
    refine ⟨.ref _, upd H (s.heap.objs.size + 1) (.lst (out.map backV)), I.laid (t' := s.toks) (fun _ _ => PyProof.Rows.sortedAll_old) (Nat.le_succ _) ⟨?_, out, n, vals_back h3, hn⟩, rfl, q _ _ (SrtO.srtd_map h1) hb (I.hok.fresh (Nat.le_succ _))⟩
    rw [hb.length_eq]
    exact hz

end Gk

set_option Elab.async false
set_option linter.all false
set_option maxRecDepth 100000
set_option maxHeartbeats 1000000
namespace Gk
open PySem PySem.Spec PyProof.Rows L2
/-! ### the text -/
def topS (i : Nat) : Stmt := PySem.Challenge.pw_glitchnet_k43_products_allowed.main.body.getD i (.Pass ⟨0, 0, 0, 0⟩)
abbrev s_choices_of : Stmt := topS 1
abbrev s_rows_of : Stmt := topS 2
abbrev s_table_worth : Stmt := topS 3
abbrev s_show_row : Stmt := topS 5
abbrev s_is_product : Stmt := topS 7
abbrev s_holds_row : Stmt := topS 8
abbrev s_holds_all : Stmt := topS 9
abbrev s_meet : Stmt := topS 10
abbrev s_cube_of : Stmt := topS 11
abbrev s_is_allowed : Stmt := topS 13
abbrev s_why_not : Stmt := topS 14
abbrev s_is_allowed_at : Stmt := topS 15
abbrev s_ones_of : Stmt := topS 16
abbrev s_deck : Stmt := topS 18
abbrev s_next : Stmt := topS 19
abbrev s_rows : Stmt := topS 20
abbrev s_holds : Stmt := topS 21
abbrev s_meets : Stmt := topS 22
abbrev s_cube : Stmt := topS 23
abbrev s_product : Stmt := topS 24
abbrev s_table : Stmt := topS 25
abbrev s_worth : Stmt := topS 26
abbrev s_change : Stmt := topS 27
abbrev s_wish : Stmt := topS 28
abbrev s_all_products : Stmt := topS 29
abbrev s_fits : Stmt := topS 30
abbrev s_allowed : Stmt := topS 31
abbrev s_odd : Stmt := topS 32
abbrev s_law : Stmt := topS 33
theorem sc_choices_of : FnScope ["lists", "choices", "options", "choice", "option"] ["lists"] (defScope s_choices_of) := ⟨rfl, rfl, rfl, by decide +kernel, rfl, by decide +kernel, by decide +kernel⟩
theorem sc_rows_of : FnScope ["many"] ["many"] (defScope s_rows_of) := ⟨rfl, rfl, rfl, by decide +kernel, rfl, by decide +kernel, by decide +kernel⟩
theorem sc_table_worth : FnScope ["table", "worths", "place", "worth"] ["table", "worths"] (defScope s_table_worth) := ⟨rfl, rfl, rfl, by decide +kernel, rfl, by decide +kernel, by decide +kernel⟩
theorem sc_show_row : FnScope ["row", "worth"] ["row"] (defScope s_show_row) := ⟨rfl, rfl, rfl, by decide +kernel, rfl, by decide +kernel, by decide +kernel⟩
theorem sc_is_product : FnScope ["many", "thing", "sign"] ["many", "thing"] (defScope s_is_product) := ⟨rfl, rfl, rfl, by decide +kernel, rfl, by decide +kernel, by decide +kernel⟩
theorem sc_holds_row : FnScope ["product", "row"] ["product", "row"] (defScope s_holds_row) := ⟨rfl, rfl, rfl, by decide +kernel, rfl, by decide +kernel, by decide +kernel⟩
theorem sc_holds_all : FnScope ["product", "other", "sign", "held"] ["product", "other"] (defScope s_holds_all) := ⟨rfl, rfl, rfl, by decide +kernel, rfl, by decide +kernel, by decide +kernel⟩
theorem sc_meet : FnScope ["product", "other", "one", "two"] ["product", "other"] (defScope s_meet) := ⟨rfl, rfl, rfl, by decide +kernel, rfl, by decide +kernel, by decide +kernel⟩
theorem sc_cube_of : FnScope ["change", "a", "b", "before", "after"] ["change"] (defScope s_cube_of) := ⟨rfl, rfl, rfl, by decide +kernel, rfl, by decide +kernel, by decide +kernel⟩
theorem sc_is_allowed : FnScope ["wish", "product"] ["wish", "product"] (defScope s_is_allowed) := ⟨rfl, rfl, rfl, by decide +kernel, rfl, by decide +kernel, by decide +kernel⟩
theorem sc_why_not : FnScope ["wish", "product", "many", "table", "changes", "row", "sign", "k", "change"] ["wish", "product"] (defScope s_why_not) := ⟨rfl, rfl, rfl, by decide +kernel, rfl, by decide +kernel, by decide +kernel⟩
theorem sc_is_allowed_at : FnScope ["wish", "product", "change", "ones", "row"] ["wish", "product", "change"] (defScope s_is_allowed_at) := ⟨rfl, rfl, rfl, by decide +kernel, rfl, by decide +kernel, by decide +kernel⟩
theorem sc_ones_of : FnScope ["wish", "rows", "row"] ["wish", "rows"] (defScope s_ones_of) := ⟨rfl, rfl, rfl, by decide +kernel, rfl, by decide +kernel, by decide +kernel⟩
theorem sc_deck : FnScope ["_law_script"] ["_law_script"] (defScope s_deck) := ⟨rfl, rfl, rfl, by decide +kernel, rfl, by decide +kernel, by decide +kernel⟩
theorem sc_next : FnScope ["_law_deck_here", "_law_most", "_law_cells", "_law_number", "_law_seed"] ["_law_deck_here", "_law_most"] (defScope s_next) := ⟨rfl, rfl, rfl, by decide +kernel, rfl, by decide +kernel, by decide +kernel⟩
theorem sc_rows : FnScope ["_law_many", "_law_found", "_law_place", "_law_row"] ["_law_many"] (defScope s_rows) := ⟨rfl, rfl, rfl, by decide +kernel, rfl, by decide +kernel, by decide +kernel⟩
theorem sc_holds : FnScope ["_law_product_here", "_law_row", "_law_k"] ["_law_product_here", "_law_row"] (defScope s_holds) := ⟨rfl, rfl, rfl, by decide +kernel, rfl, by decide +kernel, by decide +kernel⟩
theorem sc_meets : FnScope ["_law_product_here", "_law_other", "_law_k"] ["_law_product_here", "_law_other"] (defScope s_meets) := ⟨rfl, rfl, rfl, by decide +kernel, rfl, by decide +kernel, by decide +kernel⟩
theorem sc_cube : FnScope ["_law_one", "_law_other", "_law_k"] ["_law_one", "_law_other"] (defScope s_cube) := ⟨rfl, rfl, rfl, by decide +kernel, rfl, by decide +kernel, by decide +kernel⟩
theorem sc_product : FnScope ["_law_deck_here", "_law_many", "_law_bare", "_law_found", "_law_place", "_law_sign"] ["_law_deck_here", "_law_many"] (defScope s_product) := ⟨rfl, rfl, rfl, by decide +kernel, rfl, by decide +kernel, by decide +kernel⟩
theorem sc_table : FnScope ["_law_deck_here", "_law_many", "_law_way", "_law_products", "_law_rows_here", "_law_odd_here", "_law_table_here", "_law_k", "_law_row", "_law_worth_here", "_law_one"] ["_law_deck_here", "_law_many"] (defScope s_table) := ⟨rfl, rfl, rfl, by decide +kernel, rfl, by decide +kernel, by decide +kernel⟩
theorem sc_worth : FnScope ["_law_wish_here", "_law_row", "_law_number", "_law_worth_here"] ["_law_wish_here", "_law_row"] (defScope s_worth) := ⟨rfl, rfl, rfl, by decide +kernel, rfl, by decide +kernel, by decide +kernel⟩
theorem sc_change : FnScope ["_law_deck_here", "_law_many", "_law_table_here", "_law_way", "_law_rows_here", "_law_one", "_law_other", "_law_place", "_law_ones", "_law_noughts", "_law_bright", "_law_dark", "_law_beside", "_law_k", "_law_row"] ["_law_deck_here", "_law_many", "_law_table_here"] (defScope s_change) := ⟨rfl, rfl, rfl, by decide +kernel, rfl, by decide +kernel, by decide +kernel⟩
theorem sc_wish : FnScope ["_law_deck_here", "_law_most", "_law_many", "_law_way", "_law_count", "_law_table_here", "_law_k"] ["_law_deck_here", "_law_most"] (defScope s_wish) := ⟨rfl, rfl, rfl, by decide +kernel, rfl, by decide +kernel, by decide +kernel⟩
theorem sc_all_products : FnScope ["_law_many", "_law_found", "_law_place", "_law_one"] ["_law_many"] (defScope s_all_products) := ⟨rfl, rfl, rfl, by decide +kernel, rfl, by decide +kernel, by decide +kernel⟩
theorem sc_fits : FnScope ["_law_wish_here", "_law_product_here", "_law_change_here", "_law_bright", "_law_row"] ["_law_wish_here", "_law_product_here", "_law_change_here"] (defScope s_fits) := ⟨rfl, rfl, rfl, by decide +kernel, rfl, by decide +kernel, by decide +kernel⟩
theorem sc_allowed : FnScope ["_law_wish_here", "_law_product_here", "_law_k", "_law_row", "_law_change_here"] ["_law_wish_here", "_law_product_here"] (defScope s_allowed) := ⟨rfl, rfl, rfl, by decide +kernel, rfl, by decide +kernel, by decide +kernel⟩
theorem sc_odd : FnScope ["_law_deck_here", "_law_wish_here", "_law_one", "_law_at", "_law_some"] ["_law_deck_here", "_law_wish_here"] (defScope s_odd) := ⟨rfl, rfl, rfl, by decide +kernel, rfl, by decide +kernel, by decide +kernel⟩
theorem sc_law : FnScope ["_law_script", "_law_deck_here", "_law_turn", "_law_wish_here", "_law_step", "_law_every", "_law_product_here", "_law_due", "_law_again", "_law_found", "_law_thing"] ["_law_script"] (defScope s_law) := ⟨rfl, rfl, rfl, by decide +kernel, rfl, by decide +kernel, by decide +kernel⟩
structure Tx (K : PySem.W.Frag) (mg : Str → Option Value) where
  f_choices_of : Addr
  fd_choices_of : FuncData
  F_choices_of : Fun K "choices_of" "choices_of" s_choices_of f_choices_of fd_choices_of
  g_choices_of : mg "choices_of" = some (.ref f_choices_of)
  b_choices_of : Binds K fd_choices_of ["lists"] []
  f_rows_of : Addr
  fd_rows_of : FuncData
  F_rows_of : Fun K "rows_of" "rows_of" s_rows_of f_rows_of fd_rows_of
  g_rows_of : mg "rows_of" = some (.ref f_rows_of)
  b_rows_of : Binds K fd_rows_of ["many"] []
  f_table_worth : Addr
  fd_table_worth : FuncData
  F_table_worth : Fun K "table_worth" "table_worth" s_table_worth f_table_worth fd_table_worth
  g_table_worth : mg "table_worth" = some (.ref f_table_worth)
  b_table_worth : Binds K fd_table_worth ["table", "worths"] []
  f_show_row : Addr
  fd_show_row : FuncData
  F_show_row : Fun K "show_row" "show_row" s_show_row f_show_row fd_show_row
  g_show_row : mg "show_row" = some (.ref f_show_row)
  b_show_row : Binds K fd_show_row ["row"] []
  c_show_row : Addr
  P_show_row : Addr
  cd_show_row : fd_show_row.code = .ref c_show_row
  f_is_product : Addr
  fd_is_product : FuncData
  F_is_product : Fun K "is_product" "is_product" s_is_product f_is_product fd_is_product
  g_is_product : mg "is_product" = some (.ref f_is_product)
  b_is_product : Binds K fd_is_product ["many", "thing"] []
  c_is_product : Addr
  P_is_product : Addr
  cd_is_product : fd_is_product.code = .ref c_is_product
  f_holds_row : Addr
  fd_holds_row : FuncData
  F_holds_row : Fun K "holds_row" "holds_row" s_holds_row f_holds_row fd_holds_row
  g_holds_row : mg "holds_row" = some (.ref f_holds_row)
  b_holds_row : Binds K fd_holds_row ["product", "row"] []
  f_holds_all : Addr
  fd_holds_all : FuncData
  F_holds_all : Fun K "holds_all" "holds_all" s_holds_all f_holds_all fd_holds_all
  g_holds_all : mg "holds_all" = some (.ref f_holds_all)
  b_holds_all : Binds K fd_holds_all ["product", "other"] []
  c_holds_all : Addr
  P_holds_all : Addr
  cd_holds_all : fd_holds_all.code = .ref c_holds_all
  f_meet : Addr
  fd_meet : FuncData
  F_meet : Fun K "meet" "meet" s_meet f_meet fd_meet
  g_meet : mg "meet" = some (.ref f_meet)
  b_meet : Binds K fd_meet ["product", "other"] []
  c_meet : Addr
  P_meet : Addr
  cd_meet : fd_meet.code = .ref c_meet
  f_cube_of : Addr
  fd_cube_of : FuncData
  F_cube_of : Fun K "cube_of" "cube_of" s_cube_of f_cube_of fd_cube_of
  g_cube_of : mg "cube_of" = some (.ref f_cube_of)
  b_cube_of : Binds K fd_cube_of ["change"] []
  c_cube_of : Addr
  P_cube_of : Addr
  cd_cube_of : fd_cube_of.code = .ref c_cube_of
  f_is_allowed : Addr
  fd_is_allowed : FuncData
  F_is_allowed : Fun K "is_allowed" "is_allowed" s_is_allowed f_is_allowed fd_is_allowed
  g_is_allowed : mg "is_allowed" = some (.ref f_is_allowed)
  b_is_allowed : Binds K fd_is_allowed ["wish", "product"] []
  f_why_not : Addr
  fd_why_not : FuncData
  F_why_not : Fun K "why_not" "why_not" s_why_not f_why_not fd_why_not
  g_why_not : mg "why_not" = some (.ref f_why_not)
  b_why_not : Binds K fd_why_not ["wish", "product"] []
  f_is_allowed_at : Addr
  fd_is_allowed_at : FuncData
  F_is_allowed_at : Fun K "is_allowed_at" "is_allowed_at" s_is_allowed_at f_is_allowed_at fd_is_allowed_at
  g_is_allowed_at : mg "is_allowed_at" = some (.ref f_is_allowed_at)
  b_is_allowed_at : Binds K fd_is_allowed_at ["wish", "product", "change"] []
  c_is_allowed_at : Addr
  P_is_allowed_at : Addr
  cd_is_allowed_at : fd_is_allowed_at.code = .ref c_is_allowed_at
  f_ones_of : Addr
  fd_ones_of : FuncData
  F_ones_of : Fun K "ones_of" "ones_of" s_ones_of f_ones_of fd_ones_of
  g_ones_of : mg "ones_of" = some (.ref f_ones_of)
  b_ones_of : Binds K fd_ones_of ["wish", "rows"] []
  f_deck : Addr
  fd_deck : FuncData
  F_deck : Fun K "_law_deck" "_law_deck" s_deck f_deck fd_deck
  g_deck : mg "_law_deck" = some (.ref f_deck)
  b_deck : Binds K fd_deck ["_law_script"] []
  f_next : Addr
  fd_next : FuncData
  F_next : Fun K "_law_next" "_law_next" s_next f_next fd_next
  g_next : mg "_law_next" = some (.ref f_next)
  b_next : Binds K fd_next ["_law_deck_here", "_law_most"] []
  f_rows : Addr
  fd_rows : FuncData
  F_rows : Fun K "_law_rows" "_law_rows" s_rows f_rows fd_rows
  g_rows : mg "_law_rows" = some (.ref f_rows)
  b_rows : Binds K fd_rows ["_law_many"] []
  f_holds : Addr
  fd_holds : FuncData
  F_holds : Fun K "_law_holds" "_law_holds" s_holds f_holds fd_holds
  g_holds : mg "_law_holds" = some (.ref f_holds)
  b_holds : Binds K fd_holds ["_law_product_here", "_law_row"] []
  f_meets : Addr
  fd_meets : FuncData
  F_meets : Fun K "_law_meets" "_law_meets" s_meets f_meets fd_meets
  g_meets : mg "_law_meets" = some (.ref f_meets)
  b_meets : Binds K fd_meets ["_law_product_here", "_law_other"] []
  f_cube : Addr
  fd_cube : FuncData
  F_cube : Fun K "_law_cube" "_law_cube" s_cube f_cube fd_cube
  g_cube : mg "_law_cube" = some (.ref f_cube)
  b_cube : Binds K fd_cube ["_law_one", "_law_other"] []
  f_product : Addr
  fd_product : FuncData
  F_product : Fun K "_law_product" "_law_product" s_product f_product fd_product
  g_product : mg "_law_product" = some (.ref f_product)
  b_product : Binds K fd_product ["_law_deck_here", "_law_many"] []
  f_table : Addr
  fd_table : FuncData
  F_table : Fun K "_law_table" "_law_table" s_table f_table fd_table
  g_table : mg "_law_table" = some (.ref f_table)
  b_table : Binds K fd_table ["_law_deck_here", "_law_many"] []
  f_worth : Addr
  fd_worth : FuncData
  F_worth : Fun K "_law_worth" "_law_worth" s_worth f_worth fd_worth
  g_worth : mg "_law_worth" = some (.ref f_worth)
  b_worth : Binds K fd_worth ["_law_wish_here", "_law_row"] []
  f_change : Addr
  fd_change : FuncData
  F_change : Fun K "_law_change" "_law_change" s_change f_change fd_change
  g_change : mg "_law_change" = some (.ref f_change)
  b_change : Binds K fd_change ["_law_deck_here", "_law_many", "_law_table_here"] []
  f_wish : Addr
  fd_wish : FuncData
  F_wish : Fun K "_law_wish" "_law_wish" s_wish f_wish fd_wish
  g_wish : mg "_law_wish" = some (.ref f_wish)
  b_wish : Binds K fd_wish ["_law_deck_here", "_law_most"] []
  f_all_products : Addr
  fd_all_products : FuncData
  F_all_products : Fun K "_law_all_products" "_law_all_products" s_all_products f_all_products fd_all_products
  g_all_products : mg "_law_all_products" = some (.ref f_all_products)
  b_all_products : Binds K fd_all_products ["_law_many"] []
  f_fits : Addr
  fd_fits : FuncData
  F_fits : Fun K "_law_fits" "_law_fits" s_fits f_fits fd_fits
  g_fits : mg "_law_fits" = some (.ref f_fits)
  b_fits : Binds K fd_fits ["_law_wish_here", "_law_product_here", "_law_change_here"] []
  f_allowed : Addr
  fd_allowed : FuncData
  F_allowed : Fun K "_law_allowed" "_law_allowed" s_allowed f_allowed fd_allowed
  g_allowed : mg "_law_allowed" = some (.ref f_allowed)
  b_allowed : Binds K fd_allowed ["_law_wish_here", "_law_product_here"] []
  f_odd : Addr
  fd_odd : FuncData
  F_odd : Fun K "_law_odd" "_law_odd" s_odd f_odd fd_odd
  g_odd : mg "_law_odd" = some (.ref f_odd)
  b_odd : Binds K fd_odd ["_law_deck_here", "_law_wish_here"] []
  f_law : Addr
  fd_law : FuncData
  F_law : Fun K "law" "law" s_law f_law fd_law
  g_law : mg "law" = some (.ref f_law)
  b_law : Binds K fd_law ["_law_script"] []
  m_all : mg "all" = none
  m_any : mg "any" = none
  m_bool : mg "bool" = none
  m_enumerate : mg "enumerate" = none
  m_int : mg "int" = none
  m_isinstance : mg "isinstance" = none
  m_len : mg "len" = none
  m_list : mg "list" = none
  m_range : mg "range" = none
  m_sorted : mg "sorted" = none
  m_str : mg "str" = none
  m_sum : mg "sum" = none
  m_tuple : mg "tuple" = none
  m_zip : mg "zip" = none
structure Tb (base : Heap) {K : PySem.W.Frag} {mg : Str → Option Value} (T : Tx K mg) : Prop where
  TB_show_row : GxR.TabB base mg T.c_show_row T.P_show_row
  TB_is_product : GxR.TabB base mg T.c_is_product T.P_is_product
  TB_holds_all : GxR.TabB base mg T.c_holds_all T.P_holds_all
  TB_meet : GxR.TabB base mg T.c_meet T.P_meet
  TB_cube_of : GxR.TabB base mg T.c_cube_of T.P_cube_of
  TB_is_allowed_at : GxR.TabB base mg T.c_is_allowed_at T.P_is_allowed_at
def Tx.tabs {K : PySem.W.Frag} {mg : Str → Option Value} (T : Tx K mg) : List Addr := [T.P_show_row, T.P_is_product, T.P_holds_all, T.P_meet, T.P_cube_of, T.P_is_allowed_at]
/-! ### generator expressions whose elements may call -/
theorem inv_moved {X : Cx} {cp : List (Addr × Obj)} {σ : L2.St} {H : Hp} {s s' : Shared} (I : Inv X cp σ H s) (os : s'.os = s.os) (bare : AllBare s'.gens) (k : ∀ b o, s.heap.get? b = some o → s'.heap.get? b = some o) : Inv X cp σ H s' :=
  I.call' (ch := []) os (Un.kept k) (I.hok.kept k) bare fun b hb => absurd hb (by simp)
/-- the context of a generator expression's frame: C its frame, s, H the entry, fp its iterator's objects -/
abbrev gblk (X : Cx) (A : Around) (s : Shared) (H : Hp) (cenv : Env) (fp : List Addr) : Cx :=
  { X with A := A, s_0 := s, H_0 := H, env := cenv, outer := X.stack, stack := cenv :: X.stack, ex := fp, fn := fun _ => false, pn := [], xe := fun _ _ => False }
section
variable {X : Cx} {pins : List (Addr × Obj)} {σ : L2.St} {H : Hp} {s : Shared}
theorem gen_start {scope : Scope} {own : List (Str × Nat)} {fp : List Addr} {A : Around} {code it : Value} {s5 : Shared} {cp : List (Addr × Obj)}
    (I : Inv X pins σ H s) (ok : BlkOk X.N X.env.scope scope own) (nocell : ∀ y ∈ scope.names, y.2 ≠ .cell) (hN : X.N.Nodup) (hfp : ∀ b ∈ fp, FpOk X pins H b ∧ b < s.heap.objs.size)
    (hh : A.handled = none) (hfr : A.frames = some (genEnv scope (cloFrom X.env.cells scope.names []) s.heap.objs.size code builtinsNs X.env :: X.stack))
    (os : s5.os = s.os) (bare : AllBare s5.gens) (kp : ∀ b o, s.heap.get? b = some o → s5.heap.get? b = some o)
    (hns : s5.heap.Ns s.heap.objs.size fun y => if y = ".0" then some it else none)
    (hcp : ∀ p ∈ cp, s.heap.objs.size < p.1 ∧ s5.heap.get? p.1 = some p.2 ∧ ∀ v, p.2.data ≠ .cell v) :
    Inv (gblk X A s H (genEnv scope (cloFrom X.env.cells scope.names []) s.heap.objs.size code builtinsNs X.env) fp) cp (wipe σ (own.map (·.2))) H s5 := by
  have hfree : ∀ y ∈ scope.names, y.2 = .free → ∃ c, X.env.cells.lookup y.1 = some c := fun y hy e => by
    rcases ok.free y hy e with k | k
    · exact I.ok.has _ (.inl k)
    · exact I.ok.has _ (.inr k)
  generalize hcenv : genEnv scope (cloFrom X.env.cells scope.names []) s.heap.objs.size code builtinsNs X.env = cenv at hfr ⊢
  have hL : cenv.locals = s.heap.objs.size := by rw [← hcenv]; rfl
  have hcl : cenv.cells = cloFrom X.env.cells scope.names [] := by rw [← hcenv]; rfl
  have hsc : cenv.scope = scope := by rw [← hcenv]; rfl
  have cm : ∀ {y c}, (y, c) ∈ cloFrom X.env.cells scope.names [] → X.env.cells.lookup y = some c ∧ c < s.heap.objs.size := fun {y c} hm => by
    rcases cloFrom_mem hm with hm | ⟨h1, rfl⟩
    · cases hm
    · obtain ⟨c, hc⟩ := hfree _ h1 rfl
      rw [hc]
      obtain ⟨w, z⟩ := I.cell _ _ hc
      exact ⟨rfl, z.lt⟩
  have mem : ∀ {y c}, cenv.cells.lookup y = some c → X.env.cells.lookup y = some c ∧ c < s.heap.objs.size := fun {y c} e => by
    rw [hcl] at e
    exact cm (PySem.mem_of_lookup e)
  have look : ∀ {y}, scope.names.lookup y = some .free → ∃ c, cenv.cells.lookup y = some c ∧ X.env.cells.lookup y = some c := fun {y} hl => by
    have hy : (y, NameKind.free) ∈ scope.names := PySem.mem_of_lookup hl
    obtain ⟨c', e'⟩ := mem_lookup (cloFrom_has (cells := X.env.cells) (acc := []) hy)
    rw [← hcl] at e'
    exact ⟨c', e', (mem e').1⟩
  have okB : (gblk X A s H cenv fp).Ok := by
    refine ⟨I.ok.mod, by show cenv.scope.kind = _; rw [hsc]; exact ok.kind, by show cenv.globals = _; rw [← hcenv]; exact I.ok.glob, by show cenv.builtins = _; rw [← hcenv]; rfl, by show s.heap.objs.size ≤ cenv.locals; rw [hL]; exact Nat.le_refl _,
      fun y z c e1 e2 => I.ok.inj y z c (mem e1).1 (mem e2).1, fun y hy => ?_, fun y c z e => (by cases z), fun _ => hh, hfr, .inr ⟨rfl, by show cenv.frame = some cenv.locals; rw [← hcenv]; rfl⟩, fun b hb => ⟨?_, fun y c e z => ?_⟩, I.bs, Nat.le_trans I.ok.bsz I.sz, fun b o e hb => ?_, fun b hb z => ?_, I.stack, I.stkFree⟩
    · have hy' : scope.names.lookup y = some .cell ∨ scope.names.lookup y = some .free := by
        rw [← hsc]
        exact hy
      rcases hy' with e | e
      · exact absurd rfl (nocell _ (PySem.mem_of_lookup e))
      · obtain ⟨c, h1, _⟩ := look e
        exact ⟨c, h1⟩
    · show b ≠ cenv.locals
      rw [hL]; exact Nat.ne_of_lt (hfp b hb).2
    · exact (hfp b hb).1.2.2.2.2.1 y c (mem e).1 z
    · rcases (hfp b hb).1.2.2.2.1 with z | z
      · exact I.ok.noex b o e z
      · exact absurd (Nat.lt_of_lt_of_le (Heap.lt_size e) (Nat.le_trans I.ok.bsz z)) (Nat.lt_irrefl _)
    · rcases List.mem_cons.mp (I.stkSub b z) with z | z
      · exact (hfp b hb).1.2.1 z
      · exact (hfp b hb).1.2.2.1 z
  refine ⟨okB, os, bare, Un.kept kp, ⟨_, (by show s5.heap.Ns cenv.locals _; rw [hL]; exact hns), fun i y av e1 e2 e3 => ?_⟩, fun y c e => ?_, ?_, fun y c e => I.freeC y c (mem e).1, fun p hp => ?_, I.hok.kept kp, by rw [wipe_length]; exact I.len⟩
  · obtain ⟨e2, hne⟩ := wipe_some e2
    have e3 : Vis scope y := by rw [← hsc]; exact e3
    have no : ∀ k, scope.names.lookup y = some k → ¬ (k = .local ∨ k = .cell) := fun k e hh => by
      rcases ok.own _ (PySem.mem_of_lookup e) hh with e' | e'
      · obtain ⟨p, hp, hpy⟩ := List.mem_map.mp e'
        have e3 := ok.ix p hp
        have : p.1 = y := hpy
        rw [this] at e3
        exact hne (List.mem_map.mpr ⟨p, hp, nodup_ix hN e3 e1⟩)
      · exact e' (List.mem_of_getElem? e1)
    have hfr2 : scope.names.lookup y = some .free := by
      rcases e3 with e | e | e
      · exact absurd (.inl rfl) (no _ e)
      · exact absurd (.inr rfl) (no _ e)
      · exact e
    obtain ⟨m, hn, hl⟩ := I.loc
    have hvis : Vis X.env.scope y := (ok.free _ (PySem.mem_of_lookup hfr2) rfl).elim (fun k => .inr (.inl k)) (fun k => .inr (.inr k))
    obtain ⟨w, r, q⟩ := hl i y av e1 e2 hvis
    refine ⟨w, r, .inr ⟨.inr (by show cenv.scope.names.lookup y = some .free; rw [hsc]; exact hfr2), ?_⟩⟩
    obtain ⟨c, h1, h2⟩ := look hfr2
    rcases q with ⟨k, _⟩ | ⟨_, c', e', z⟩
    · have k : X.env.scope.names.lookup y = some .local := k
      rcases ok.free _ (PySem.mem_of_lookup hfr2) rfl with k' | k' <;> rw [show X.env.scope.names.lookup y = _ from k'] at k <;> cases k
    · rw [h2] at e'; cases e'
      exact ⟨c, h1, z.keeps kp⟩
  · obtain ⟨w, z⟩ := I.cell y c (mem e).1
    exact ⟨w, z.keeps kp⟩
  · show H cenv.locals = none
    rw [hL]; exact I.hok.fresh (Nat.le_refl _)
  · have hp : p ∈ cp := by simpa using hp
    obtain ⟨h1, h2, h3⟩ := hcp p hp
    refine ⟨h2, I.hok.fresh (Nat.le_of_lt h1), by show p.1 ≠ cenv.locals; rw [hL]; exact Nat.ne_of_gt h1, fun z => ?_, h3⟩
    rcases List.mem_cons.mp (I.stkSub _ z) with z | z
    · exact absurd (Nat.lt_trans I.lt h1) (by rw [z]; exact Nat.lt_irrefl _)
    · exact I.nofs (Nat.le_of_lt h1) z
end
/-! ### the talk of a generator and who asks it -/
section
variable {α : Type}
/-- handed out: x; the asker's state a (laid down in the pins cp) goes to one with Nx -/
def YG (Xg : Cx) (fp : List Addr) (tn : Nat → Heap → Prop) (AC : α → List (Addr × Obj) → Prop) (Yd : α → V → Hp → (α → Hp → Prop) → Prop) : Protocol := fun _ s0 v s kap =>
  ∃ (a : α) (x : V) (σ : L2.St) (H : Hp) (i : Nat) (cp : List (Addr × Obj)) (Nx : α → Hp → Prop), RelV x v ∧ AC a cp ∧ (∀ p ∈ cp, s0.heap.get? p.1 = some p.2) ∧ Inv Xg cp σ H s ∧ tn i s.heap ∧ (∀ b ∈ fp, H b = none) ∧ Yd a x H Nx ∧
    ∀ a' cp' s', Nx a' H → AC a' cp' → Inv Xg cp' σ H s' → tn i s'.heap → kap (.send .none) s'
def RG (Xg : Cx) (AC : α → List (Addr × Obj) → Prop) (End : α → Hp → Prop) : GenEnd := fun _ s0 r s =>
  ((r = .ok (.ret .none) ∨ r = .ok .next) ∧ ∃ (a : α) (σ : L2.St) (H : Hp) (cp : List (Addr × Obj)), AC a cp ∧ (∀ p ∈ cp, s0.heap.get? p.1 = some p.2) ∧ Inv Xg cp σ H s ∧ End a H) ∨ ∃ e, r = .error e ∧ False
/-- a generator's turns -/
def tGx (J : It) (g : TG) (tt : TT) (te : TE) (σ0 : L2.St) (vs : List Nat) (End : α → Hp → Prop) (Yd : α → V → Hp → (α → Hp → Prop) → Prop) (W : Nat → Nat → α → Hp → Prop) : Prop :=
  ∀ i m a H, W i m a H → (J.stop i H ∧ End a H) ∨ (J.go i H ∧ ∃ Nx : α → Hp → Prop, (∀ a' H', Nx a' H' → ∃ m', m' < m ∧ W (i + 1) m' a' H') ∧
    ∀ x H', J.yld i H x H' → g x σ0 H' fun σ2 H2 => wipe σ2 vs = σ0 ∧ tt σ2 H2 fun b H3 => if b = true then te σ2 H3 fun y H4 => Yd a y H4 Nx else Nx a H3)
theorem wipe_wipe_some {σ σ2 : L2.St} {vs : List Nat} (h : wipe σ2 vs = σ) : ∀ (j : Nat) v, σ[j]? = some (some v) → σ2[j]? = some (some v) := fun j v e => by
  rw [← h] at e
  exact (wipe_some e).1
theorem seg_gx {X : Cx} {A A' : Around} {s_0 : Shared} {H_0 : Hp} {elt tg iter : Expr} {ifs : List Expr} {scope : Scope} {pos : Pos} {it : Addr} {fp : List Addr} {tn : Nat → Heap → Prop} {J : It} {cenv : Env} {g : TG} {tt : TT} {te : TE} {σ0 : L2.St} {vs : List Nat}
    {AC : α → List (Addr × Obj) → Prop} {End : α → Hp → Prop} {Yd : α → V → Hp → (α → Hp → Prop) → Prop} {W : Nat → Nat → α → Hp → Prop}
    (hA : A.over (.compLoop (.GeneratorExp elt [⟨tg, iter, ifs, 0⟩] scope pos) 0 (.ref it) .none cenv) [] = A') (hc : X.calm = true) (hco : cenv.scope.isCoroutine = false)
    (T : Turn X.prog X.w X.K tg J fp it tn) (pg : PG (gblk X A' s_0 H_0 cenv fp) tg g) (pt : PTs (gblk X A' s_0 H_0 cenv fp) ifs tt) (pe : PE (gblk X A' s_0 H_0 cenv fp) elt te)
    (hAC : ∀ a cp, AC a cp → ∀ p ∈ cp, ∀ b ∈ fp, p.1 ≠ b) (turn : tGx J g tt te σ0 vs End Yd W) :
    ∀ (m n i : Nat) (a : α) (H : Hp) (s₀ s : Shared) (cp : List (Addr × Obj)), m < n → W i m a H → AC a cp → (∀ p ∈ cp, s₀.heap.get? p.1 = some p.2) → Inv (gblk X A' s_0 H_0 cenv fp) cp σ0 H s → tn i s.heap → (∀ b ∈ fp, H b = none) →
      Seg (model X.prog X.w) A (RG (gblk X A' s_0 H_0 cenv fp) AC End) (YG (gblk X A' s_0 H_0 cenv fp) fp tn AC Yd) n s₀
        (.compLoop (.GeneratorExp elt [⟨tg, iter, ifs, 0⟩] scope pos) 0 (.ref it) .none cenv)
        ((model X.prog X.w).den (.compLoop (.GeneratorExp elt [⟨tg, iter, ifs, 0⟩] scope pos) 0 (.ref it) .none cenv)) [] s := by
  have stat : ∀ {a : α} {cp : List (Addr × Obj)} {σ' : L2.St} {H' : Hp} {s' : Shared}, AC a cp → Inv (gblk X A' s_0 H_0 cenv fp) cp σ' H' s' → (∀ b ∈ fp, H' b = none) → ∀ b ∈ fp, FpOk (gblk X A' s_0 H_0 cenv fp) cp H' b := fun {a cp σ' H' s'} hac I' hn b hb =>
    ⟨hn b hb, (I'.ok.exf b hb).1, I'.ok.exfs b hb, .inl hb, fun x c e => (I'.ok.exf b hb).2 x c e, fun p hp => hAC a cp hac p (by simpa using hp) b hb⟩
  intro m
  induction m using Nat.strongRecOn with
  | ind m ih =>
    intro n i a H s₀ s cp hmn w hac tie I st nf
    show Seg _ A _ _ _ s₀ _ ((compTurn (.GeneratorExp elt [⟨tg, iter, ifs, 0⟩] scope pos) 0 (.ref it) .none cenv).onRaise (leaving cenv)) [] s
    rw [compTurn_gen, Sem.onRaise_eq_wrap]
    refine seg_bind_wrap (wpAny_standAt ?_)
    rcases turn i m a H w with ⟨stop, hend⟩ | ⟨go, Nx, hNx, step⟩
    · refine seg_bind_wrap ?_
      rw [hA]
      refine thnF (T.done (gblk X A' s_0 H_0 cenv fp) rfl rfl rfl hc i cp s σ0 H (fun _ _ => False) I (stat hac I nf) st stop) fun r s1 ⟨hr, I1⟩ => ?_
      subst hr
      exact seg_end (.ok .next) (.inl ⟨.inr rfl, a, _, H, cp, hac, tie, I1, hend⟩)
    · refine seg_bind_wrap ?_
      rw [hA]
      refine thnF (T.item (gblk X A' s_0 H_0 cenv fp) rfl rfl rfl hc i cp s σ0 H (fun _ _ => False) I (stat hac I nf) st go) fun r s1 ⟨u, hr, h1⟩ => ?_
      subst hr
      refine seg_bind_wrap ?_
      rw [hA]
      refine thnF h1 fun _ s2 ⟨x, H2, I2, r2, y2, st2, n2⟩ => ?_
      have I2' := I2.pinned (stat hac I2 n2) (T.obj _ _ st2)
      refine seg_bind_wrap ?_
      rw [hA]
      refine thnF (pg.run _ s2 _ H2 x u _ I2' r2 (step x H2 y2)) fun _ s3 ⟨σ3, H3, I3, hw3, q3⟩ => ?_
      refine seg_bind_wrap ?_
      rw [hA]
      refine thnF (pt.run _ s3 σ3 H3 _ I3 q3) fun b s4 ⟨H4, I4, q4⟩ => ?_
      have hl : σ0.length = σ3.length := by rw [← hw3, wipe_length]
      have fin : ∀ {s' : Shared} {H' : Hp}, Inv (gblk X A' s_0 H_0 cenv fp) (cp ++ pinsAt fp s2.heap) σ3 H' s' → Inv (gblk X A' s_0 H_0 cenv fp) cp σ0 H' s' ∧ tn (i + 1) s'.heap ∧ ∀ b ∈ fp, H' b = none := fun {s' H'} I' => by
        have pin' : ∀ b ∈ fp, ∀ o, s2.heap.get? b = some o → s'.heap.get? b = some o ∧ H' b = none := fun b hb o e =>
          let z := I'.pin (b, o) (List.mem_append_right _ (List.mem_append_right _ (mem_pinsAt hb e)))
          ⟨z.1, z.2.1⟩
        refine ⟨(I'.unpinned (pins := cp)).weak hl (wipe_wipe_some hw3), T.keep _ _ _ st2 fun b hb o e => (pin' b hb o e).1, fun b hb => ?_⟩
        obtain ⟨o, e, _⟩ := T.obj _ _ st2 b hb
        exact (pin' b hb o e).2
      cases b with
      | false =>
        simp only [Bool.false_eq_true, if_false] at q4 ⊢
        obtain ⟨m', hm, w'⟩ := hNx a H4 q4
        obtain ⟨J1, J2, J3⟩ := fin I4
        exact seg_again rfl (ih m' hm n (i + 1) a H4 s₀ s4 cp (by omega) w' hac tie J1 J2 J3)
      | true =>
        simp only [if_true] at q4 ⊢
        have hy : ∀ v, yieldOut cenv v = yieldValue v := fun v => by simp only [yieldOut, hco, Bool.false_eq_true, if_false]
        simp only [hy]
        rw [Sem.bind_eq_wrap', Sem.bind_eq_wrap', Sem.wrap_wrap, Sem.wrap_wrap]
        refine seg_wrap ?_
        rw [hA]
        refine thnF (pe.run _ s4 σ3 H4 _ I4 q4) fun yv s5 ⟨y, H5, I5, r5, q5⟩ => ?_
        obtain ⟨J1, J2, J3⟩ := fin I5
        -- at least one more
        cases n with
        | zero => exact absurd hmn (Nat.not_lt_zero _)
        | succ n =>
          refine seg_at (seg_yield rfl rfl rfl ⟨a, y, σ0, H5, i + 1, cp, Nx, r5, hac, tie, J1, J2, J3, q5, fun a' cp' s' nx hac' I' st' => ?_⟩)
          obtain ⟨m', hm, w'⟩ := hNx a' H5 nx
          exact seg_again rfl (ih m' hm n (i + 1) a' H5 s' s' cp' (by omega) w' hac' (fun p hp => (I'.pin p (List.mem_append_right _ hp)).1) I' st' J3)
end
/-! ### a generator that is made -/
section
variable {X : Cx} {pins : List (Addr × Obj)} {σ : L2.St} {H : Hp} {s : Shared}
def GenObj (o : Obj) (g : Nat) : Prop := ∃ nm qn, o.cls = .type "generator" ∧ o.data = .fields #[.int g 0, nm, qn] ∧ o.slots = #[]
theorem GenObj.isGen {o : Obj} {g : Nat} (h : GenObj o g) {a : Addr} {hp : Heap} (e : hp.get? a = some o) : hp.IsGen a g := by
  obtain ⟨nm, qn, h1, h2, h3⟩ := h
  exact ⟨o, nm, qn, e, h1, h2, h3⟩
/-- the generator u, made and not begun, in the state s5 -/
def Gx (X : Cx) (pins : List (Addr × Obj)) (σ : L2.St) (A : Around) (J : It) (g : TG) (tt : TT) (te : TE) (vs : List Nat) (H4 : Hp) (u : Value) (s5 : Shared) : Prop :=
  ∃ (A' : Around) (s_0 : Shared) (H_0 : Hp) (cenv : Env) (fp : List Addr) (ga : Addr) (gn : Nat) (go : Obj) (tn : Nat → Heap → Prop) (gs : GenState),
    u = .ref ga ∧ GenObj go gn ∧ s5.gens[gn]? = some gs ∧ gs.bare = true ∧ Inv (gblk X A' s_0 H_0 cenv fp) [(ga, go)] (wipe σ vs) H4 s5 ∧ tn 0 s5.heap ∧ (∀ b ∈ fp, H4 b = none) ∧ (∀ b ∈ fp, b < ga) ∧
    (∀ i h h', tn i h → (∀ b ∈ fp, ∀ o, h.get? b = some o → h'.get? b = some o) → tn i h') ∧ (∀ cp σ' H' s', Inv (gblk X A' s_0 H_0 cenv fp) cp σ' H' s' → Inv X pins σ H' s') ∧
    ∀ (α : Type) (AC : α → List (Addr × Obj) → Prop) (End : α → Hp → Prop) (Yd : α → V → Hp → (α → Hp → Prop) → Prop) (W : Nat → Nat → α → Hp → Prop) (m n : Nat) (a : α) (cp : List (Addr × Obj)) (s' : Shared),
      tGx J g tt te (wipe σ vs) vs End Yd W → W 0 m a H4 → m < n → (∀ a cp, AC a cp → ∀ p ∈ cp, ∀ b ∈ fp, p.1 ≠ b) → AC a cp → Inv (gblk X A' s_0 H_0 cenv fp) cp (wipe σ vs) H4 s' → tn 0 s'.heap →
      gs.Goes (model X.prog X.w) A (RG (gblk X A' s_0 H_0 cenv fp) AC End) (YG (gblk X A' s_0 H_0 cenv fp) fp tn AC Yd) n (.send .none) s'
/-- what stands about an asker -/
structure Near (A B : Around) : Prop where
  hd : B.handled = A.handled
  fr : B.frames = A.frames
  gd : B.guards = A.guards
  dp : B.depth = A.depth
  un : B.units ≤ A.units + 8
theorem gx_make {c P : Addr} {elt tg iter : Expr} {ifs : List Expr} {gpos : Pos} {scope : Scope} {own : List (Str × Nat)} {wi : TI} {g : TG} {tt : TT} {te : TE} {k : Nat} {Q' : Value → Shared → Prop} {R : It → Hp → Prop} {A : Around}
    (hr : Room (k + 1) X.A) (near : Near X.A A) (hc : X.calm = true) (hN : X.N.Nodup) (TB : GxR.TabB X.base X.mg c P) (hcode : X.env.code = .ref c) (hco : scope.isCoroutine = false) (hdot : scope.names.lookup (".0" : Str) = some NameKind.local)
    (nocell : ∀ y ∈ scope.names, y.2 ≠ .cell) (ok : BlkOk X.N X.env.scope scope own) (hi : PI X tg iter wi)
    (hg : ∀ (A' : Around) (s : Shared) (H : Hp) (C : Addr) (cl : List (Str × Addr)) (code : Value) (fp : List Addr), Room k A' → A'.guards = X.A.guards → PG (gblk X A' s H (genEnv scope cl C code builtinsNs X.env) fp) tg g)
    (ht : ∀ (A' : Around) (s : Shared) (H : Hp) (C : Addr) (cl : List (Str × Addr)) (code : Value) (fp : List Addr), Room k A' → A'.guards = X.A.guards → PTs (gblk X A' s H (genEnv scope cl C code builtinsNs X.env) fp) ifs tt)
    (he : ∀ (A' : Around) (s : Shared) (H : Hp) (C : Addr) (cl : List (Str × Addr)) (code : Value) (fp : List Addr), Room k A' → A'.guards = X.A.guards → PE (gblk X A' s H (genEnv scope cl C code builtinsNs X.env) fp) elt te)
    (hs : ∀ v, genFold iter X.env v = pure v) (I : Inv X pins σ H s) (h : wi σ H fun J H1 => GxR.TabG H1 P ∧ R J H1)
    (hQ : ∀ J H1 H2 u s5, R J H1 → GxR.Tabbed P H1 H2 → Gx X pins σ A J g tt te (own.map (·.2)) H2 u s5 → Q' u s5) :
    wpAny (model X.prog X.w) X.A (eval (.GeneratorExp elt [⟨tg, iter, ifs, 0⟩] scope gpos) X.env) Q' X.xe s := by
  have hfree : ∀ y ∈ scope.names, y.2 = .free → ∃ c, X.env.cells.lookup y.1 = some c := fun y hy e => by
    rcases ok.free y hy e with k | k
    · exact I.ok.has _ (.inl k)
    · exact I.ok.has _ (.inr k)
  refine wpAny_GeneratorExp_make hco (closure_ok hfree) nocell hdot ok.kind (by have := hr.dp; omega) ?_ hs
  refine thn (hi.run pins s σ H _ I h) fun xv s1 hx => thn hx fun itv s2 h2 => ?_
  obtain ⟨it, fp, tn, J, H2, rfl, I2, T, st2, f2, ⟨ps, hP, ht3⟩, q⟩ := h2
  refine ⟨I2.nolimit, ?_⟩
  have hPs : s2.heap.get? P = some { cls := .none, data := .fields ps } := I2.hok P _ hP
  have cd : PySem.W.CodeHd s2.heap c P := TB.code.keeps fun b u e => I2.bk b u e
  have nP : ∀ b, H2 b = none → b ≠ P := fun b e z => by
    rw [z, hP] at e
    cases e
  have cont : ∀ (code : Value) (h3 : Heap) (tk : Nat) (ps' : Array Value), Heap.ExtBut P s2.heap h3 → s2.heap.objs.size ≤ h3.objs.size → h3.get? P = some { cls := .none, data := .fields ps' } → (∃ more, ps' = ps ++ more) → TriplesOk ps'.toList →
      wpAny (model X.prog X.w) X.A (builtinsFor X.env.globals X.env.builtins) (fun bi s₄ =>
        ∀ h', h'.Ns s₄.heap.objs.size (fun y => if y = ".0" then some (Value.ref it) else none) → Heap.SameBut s₄.heap.objs.size (s₄.heap.push { cls := .type "frame", data := .dict #[] }) h' →
          Q' (.ref h'.objs.size) { s₄ with
            gens := s₄.gens.push (.fresh (.compStart (.GeneratorExp elt [⟨tg, iter, ifs, 0⟩] scope gpos) 0 (.ref it) .none (genEnv scope (cloFrom X.env.cells scope.names []) s₄.heap.objs.size code bi X.env))),
            toks := s₄.toks + 1 + 1 + 1,
            heap := h'.push { cls := .type "generator", data := .fields #[.int s₄.gens.size 0, .str "<genexpr>" (s₄.toks + 1), .str (X.env.qual ++ "<genexpr>") (s₄.toks + 1 + 1)] } }) X.xe { s2 with heap := h3, toks := tk } := by
    rintro code h3 tk ps' hx hsz hP3 ⟨more, rfl⟩ ht4
    obtain ⟨bm, ob, e1, e2, e3, e4, e5, e6, e7, e8⟩ := TB.bm
    refine wpAny_builtinsFor (m := X.mg) (by rw [I2.ok.glob]; exact (I2.mod.glob.keeps I2.bk).extBut hx TB.gP) e1 e2 (hx _ _ e4 (I2.bk _ _ e5)) e6 e7 e8 ?_
    intro h' hns hsb
    have I3 : Inv X pins σ (upd H2 P (.tbl (ps ++ more))) { s2 with heap := h3, toks := tk } := GxR.inv_tab (g' := s2.gens) (d' := s2.drawn) I2 hP (fun b o hb e => hx b o hb e) hP3 I2.bare
    have lt2 : ∀ b ∈ fp, b < s2.heap.objs.size := fun b hb => by
      obtain ⟨o, e, _⟩ := T.obj _ _ st2 b hb
      exact Heap.lt_size e
    have f3 : ∀ b ∈ fp, FpOk X pins (upd H2 P (.tbl (ps ++ more))) b ∧ b < ({ s2 with heap := h3, toks := tk } : Shared).heap.objs.size := fun b hb => by
      refine ⟨⟨?_, (f2 b hb).2⟩, Nat.lt_of_lt_of_le (lt2 b hb) hsz⟩
      rw [upd_ne (nP b (f2 b hb).1)]
      exact (f2 b hb).1
    have st3 : tn 0 h3 := T.keep _ _ _ st2 fun b hb o e => hx b o (nP b (f2 b hb).1) e
    generalize hs4 : ({ s2 with heap := h3, toks := tk } : Shared) = s4 at I3 f3 hns hsb ⊢
    have h4 : s4.heap = h3 := by rw [← hs4]
    have hsz4 : h'.objs.size = s4.heap.objs.size + 1 := by rw [hsb.1, Heap.size_push]
    have keep' : ∀ b o, s4.heap.get? b = some o → h'.get? b = some o := fun b o e => hsb.extBut b o (Nat.ne_of_lt (Heap.lt_size e)) (Heap.get?_push_of_some _ e)
    generalize hgo : ({ cls := .type "generator", data := .fields #[.int s4.gens.size 0, .str "<genexpr>" (s4.toks + 1), .str (X.env.qual ++ "<genexpr>") (s4.toks + 1 + 1)] } : Obj) = go
    have hGO : GenObj go s4.gens.size := by rw [← hgo]; exact ⟨_, _, rfl, rfl, rfl⟩
    have k5 : ∀ b o, s4.heap.get? b = some o → (h'.push go).get? b = some o := fun b o e => Heap.get?_push_of_some _ (keep' b o e)
    have pg := fun A' => hg A' s4 (upd H2 P (.tbl (ps ++ more))) s4.heap.objs.size (cloFrom X.env.cells scope.names []) code fp
    have pt := fun A' => ht A' s4 (upd H2 P (.tbl (ps ++ more))) s4.heap.objs.size (cloFrom X.env.cells scope.names []) code fp
    have pe := fun A' => he A' s4 (upd H2 P (.tbl (ps ++ more))) s4.heap.objs.size (cloFrom X.env.cells scope.names []) code fp
    generalize hce : genEnv scope (cloFrom X.env.cells scope.names []) s4.heap.objs.size code builtinsNs X.env = cenv at pg pt pe ⊢
    have hscn : cenv.scope = scope := by rw [← hce]; rfl
    generalize hA' : A.over (.compLoop (.GeneratorExp elt [⟨tg, iter, ifs, 0⟩] scope gpos) 0 (.ref it) .none cenv) [] = A'
    have hfrA : A'.frames = some (cenv :: X.stack) := by
      rw [← hA']
      show pushEnvs [cenv] A.frames = _
      rw [near.fr, I2.ok.frames]
      rfl
    have hhd : A'.handled = none := by
      rw [← hA']
      show A.handled = none
      rw [near.hd]
      exact hr.hd
    have rm : Room k A' := by
      refine ⟨hhd, ?_, ?_⟩
      · have := hr.dp
        have := near.dp
        rw [← hA']
        show A.depth + 0 + 1 + 3 * k + 5 < _
        omega
      · have := hr.un
        have := near.un
        rw [← hA']
        show A.units + 0 + 3 + 16 * k + 200 < _
        omega
    have gdA : A'.guards = X.A.guards := by
      rw [← hA']
      show pushGuards [] A.guards = _
      rw [near.gd]
      rfl
    have I5 : Inv (gblk X A' s4 (upd H2 P (.tbl (ps ++ more))) cenv fp) [(h'.objs.size, go)] (wipe σ (own.map (·.2))) (upd H2 P (.tbl (ps ++ more)))
        { s4 with gens := s4.gens.push (.fresh (.compStart (.GeneratorExp elt [⟨tg, iter, ifs, 0⟩] scope gpos) 0 (.ref it) .none cenv)), toks := s4.toks + 1 + 1 + 1, heap := h'.push go } := by
      subst hce
      refine gen_start (it := .ref it) I3 ok nocell hN f3 hhd hfrA rfl (I3.bare.push rfl) k5 (hns.push _) fun p hp => ?_
      have e : p = (h'.objs.size, go) := by simpa using hp
      subst e
      refine ⟨by show s4.heap.objs.size < h'.objs.size; omega, Heap.get?_push_size _ (by rw [← hgo]; rfl), fun v z => ?_⟩
      rw [← hgo] at z
      cases z
    refine hQ J H2 _ _ _ q ⟨⟨_, upd_same, ht4⟩, fun b hb => upd_ne hb⟩ ⟨A', s4, _, cenv, fp, h'.objs.size, s4.gens.size, go, tn, _, rfl, hGO, Array.getElem?_push_size .., rfl, I5, ?_, fun b hb => (f3 b hb).1.1, fun b hb => ?_, T.keep, fun cp σ' H' s' I' => ?_, ?_⟩
    · exact T.keep _ _ _ st3 fun b _ o e => k5 b o (by rw [h4]; exact e)
    · have := (f3 b hb).2
      rw [hsz4]
      exact Nat.lt_succ_of_lt this
    · exact I3.call' (ch := fp) I'.os I'.base I'.hok I'.bare fun b hb => ⟨(f3 b hb).1.2.2.2.1, (f3 b hb).1.2.1, (f3 b hb).1.2.2.2.2.1, (f3 b hb).1.2.2.2.2.2⟩
    · intro α AC End Yd W m n a cp s' turn w hmn hAC hac I' st'
      refine ⟨rfl, ?_⟩
      have loop := seg_gx (A := A) (pos := gpos) (iter := iter) (scope := scope) hA' hc (by rw [hscn]; exact hco) T (pg A' rm gdA) (pt A' rm gdA) (pe A' rm gdA) hAC turn m n 0 a _ s' s' cp hmn w hac (fun p hp => (I'.pin p (List.mem_append_right _ hp)).1) I' st' fun b hb => (f3 b hb).1.1
      show Seg _ A _ _ _ s' _ ((compStart (.GeneratorExp elt [⟨tg, iter, ifs, 0⟩] scope gpos) 0 (.ref it) .none cenv).onRaise (leaving cenv)) [] s'
      unfold compStart
      rw [Sem.onRaise_eq_wrap]
      show Seg _ A _ _ _ s' _ ((ask >>= _).wrap _ _ _ _) [] s'
      refine seg_bind_wrap (wpAny_askSetting ?_)
      split
      · exact seg_again rfl loop
      · first
          | exact seg_bind_wrap (wpAny_rule (seg_bind_wrap (wpAny_standAt (seg_bind_wrap (T.self _ 0 s' _ _ st' (seg_again rfl loop))))))
          | (refine seg_bind_wrap (wpAny_rule ?_); show Seg _ A _ _ _ s' _ ((standAt iter.pos >>= _).wrap _ _ _ _) [] s'; exact seg_bind_wrap (wpAny_standAt (seg_bind_wrap (T.self _ 0 s' _ _ st' (seg_again rfl loop)))))
  cases hf : codeAmong gpos ps.toList with
  | none =>
    refine wpAny_genexprCodeX hcode (cd.code hPs ht3) (cd.tab hPs) hf fun c' h' tk hx hge hlt hco' _ htab' _ => ?_
    obtain ⟨o1, vs, f1, tf, fl, tg, inF, tx, tt, op, _, _, _, _, _, _, _, _, _, htr, _⟩ := hco'
    exact cont _ h' tk _ hx (Nat.le_trans hge (Nat.le_of_lt hlt)) htab'.2 ⟨_, rfl⟩ htr
  | some cv =>
    refine wpAny_genexprCode_hit hcode (cd.code hPs ht3) hf ?_
    exact cont cv s2.heap s2.toks ps (Heap.ExtBut.refl _ _) (Nat.le_refl _) hPs ⟨#[], by simp⟩ ht3
end
/-! ### asking -/
section
variable {α : Type} {X : Cx} {A A' : Around} {s_0 : Shared} {H_0 : Hp} {cenv : Env} {fp : List Addr} {tn : Nat → Heap → Prop} {AC : α → List (Addr × Obj) → Prop} {End : α → Hp → Prop} {Yd : α → V → Hp → (α → Hp → Prop) → Prop} {ga : Addr} {gn n : Nat} {go : Obj}
theorem next_gx2 {gs : GenState} {s : Shared} {Q : Option Value → Shared → Prop} {E : Value → Shared → Prop} (hh : A.handled = none) (hroom : A.depth < recursionLimit) (hl : s.heap.NoLimit) (hG : GenObj go gn) (e : s.heap.get? ga = some go) (hgs : s.gens[gn]? = some gs)
    (hgo : gs.Goes (model X.prog X.w) A.in1 (RG (gblk X A' s_0 H_0 cenv fp) AC End) (YG (gblk X A' s_0 H_0 cenv fp) fp tn AC Yd) n (.send .none) (s.setGen gn .running))
    (item : ∀ (a : α) (x : V) (σ : L2.St) (H : Hp) (i : Nat) (cp : List (Addr × Obj)) (Nx : α → Hp → Prop) (v : Value) (s1 : Shared) (gs' : GenState), RelV x v → AC a cp → (∀ p ∈ cp, s.heap.get? p.1 = some p.2) → Inv (gblk X A' s_0 H_0 cenv fp) cp σ H s1 → tn i s1.heap → Yd a x H Nx → s1.gens[gn]? = some gs' →
      (∀ a' cp' s', Nx a' H → AC a' cp' → Inv (gblk X A' s_0 H_0 cenv fp) cp' σ H s' → tn i s'.heap → ∃ m, n = m + 1 ∧ gs'.Goes (model X.prog X.w) A.in1 (RG (gblk X A' s_0 H_0 cenv fp) AC End) (YG (gblk X A' s_0 H_0 cenv fp) fp tn AC Yd) m (.send .none) s') → Q (some v) s1)
    (done : ∀ (a : α) (σ : L2.St) (H : Hp) (cp : List (Addr × Obj)) (s1 : Shared), AC a cp → (∀ p ∈ cp, s.heap.get? p.1 = some p.2) → Inv (gblk X A' s_0 H_0 cenv fp) cp σ H s1 → End a H → Q none s1) :
    wpAny (model X.prog X.w) A (pyNext (.ref ga)) Q E s := by
  have hgl : gn < s.gens.size := (Array.getElem?_eq_some_iff.mp hgs).1
  refine GenW.wpAny_gsz (n := gn + 1) hgl (next_genG (Er := fun _ _ => False) hh hl hroom (hG.isGen e) hgs hgo (fun v s₁ gs' hbare hv => ?_) (fun s₁ hp h' hk => ?_) fun e s₁ he => he.elim)
  · intro hsz
    obtain ⟨a, x, σ, H, i, cp, Nx, r, hac, tie, I, st, nf, hy, kap⟩ := hv
    have hsz1 : gn < s₁.gens.size := by
      have q : (s₁.setGen gn gs').gens.size = s₁.gens.size := GenW.setGen_size _ _ _
      have hsz' : gn + 1 ≤ (s₁.setGen gn gs').gens.size := hsz
      omega
    refine item a x σ H i cp Nx v (s₁.setGen gn gs') gs' r hac tie (inv_moved I rfl (allBare_setGen I.bare hbare) fun _ _ q => q) st hy (setGen_at hsz1) fun a' cp' s' nx hac' I' st' => ?_
    have z := kap a' cp' s' nx hac' I' st'
    cases n with
    | zero => exact z.elim
    | succ m => exact ⟨m, rfl, z⟩
  · intro _
    obtain ⟨a, σ, H, cp, hac, tie, I, q⟩ := hp
    exact done a σ H cp _ hac tie (inv_moved I rfl (allBare_setGen I.bare rfl) hk) q
theorem next_gx {gs : GenState} {s : Shared} {Q : Option Value → Shared → Prop} {E : Value → Shared → Prop} (hh : A.handled = none) (hroom : A.depth < recursionLimit) (hl : s.heap.NoLimit) (hG : GenObj go gn) (e : s.heap.get? ga = some go) (hgs : s.gens[gn]? = some gs)
    (hgo : gs.Goes (model X.prog X.w) A.in1 (RG (gblk X A' s_0 H_0 cenv fp) AC End) (YG (gblk X A' s_0 H_0 cenv fp) fp tn AC Yd) n (.send .none) (s.setGen gn .running))
    (item : ∀ (a : α) (x : V) (σ : L2.St) (H : Hp) (i : Nat) (cp : List (Addr × Obj)) (Nx : α → Hp → Prop) (v : Value) (s1 : Shared) (gs' : GenState), RelV x v → AC a cp → Inv (gblk X A' s_0 H_0 cenv fp) cp σ H s1 → tn i s1.heap → Yd a x H Nx → s1.gens[gn]? = some gs' →
      (∀ a' cp' s', Nx a' H → AC a' cp' → Inv (gblk X A' s_0 H_0 cenv fp) cp' σ H s' → tn i s'.heap → ∃ m, n = m + 1 ∧ gs'.Goes (model X.prog X.w) A.in1 (RG (gblk X A' s_0 H_0 cenv fp) AC End) (YG (gblk X A' s_0 H_0 cenv fp) fp tn AC Yd) m (.send .none) s') → Q (some v) s1)
    (done : ∀ (a : α) (σ : L2.St) (H : Hp) (cp : List (Addr × Obj)) (s1 : Shared), AC a cp → Inv (gblk X A' s_0 H_0 cenv fp) cp σ H s1 → End a H → Q none s1) :
    wpAny (model X.prog X.w) A (pyNext (.ref ga)) Q E s :=
  next_gx2 hh hroom hl hG e hgs hgo (fun a x σ H i cp Nx v s1 gs' r hac _ I st hy at_ kap => item a x σ H i cp Nx v s1 gs' r hac I st hy at_ kap) fun a σ H cp s1 hac _ I q => done a σ H cp s1 hac I q
/-- all(..) asks on -/
theorem all_gx {R : Result → Shared → Prop} {Stop : Hp → Prop} {End : Unit → Hp → Prop} (hh : A.handled = none) (hroom : A.depth < recursionLimit) (hG : GenObj go gn)
    (yes : ∀ (σ : L2.St) (H : Hp) (cp : List (Addr × Obj)) (s1 : Shared), Inv (gblk X A' s_0 H_0 cenv fp) cp σ H s1 → End () H → R (.ok (.ret (.bool true))) s1)
    (no : ∀ (σ : L2.St) (H : Hp) (cp : List (Addr × Obj)) (s1 : Shared), Inv (gblk X A' s_0 H_0 cenv fp) cp σ H s1 → Stop H → R (.ok (.ret (.bool false))) s1) :
    ∀ (n : Nat) (s : Shared), s.heap.NoLimit → s.heap.get? ga = some go → (∃ gs, s.gens[gn]? = some gs ∧ gs.Goes (model X.prog X.w) A.in1.in1 (RG (gblk X A' s_0 H_0 cenv fp) (fun _ cp => cp = [(ga, go)]) End)
      (YG (gblk X A' s_0 H_0 cenv fp) fp tn (fun _ cp => cp = [(ga, go)]) (fun _ y H Nx => ∃ b : Bool, y = .bl b ∧ if b = true then Nx () H else Stop H)) n (.send .none) (s.setGen gn .running)) →
      codeAny (model X.prog X.w) A (.builtin "all.loop" ⟨[.ref ga], []⟩) R s := by
  intro n
  induction n with
  | zero =>
    rintro s hl e ⟨gs, hgs, hgo⟩
    refine codeAny_builtin F.entry_all_loop ?_
    rw [Around.under_plainId F.plain_all_loop _]
    show wpAny _ A.in1 (pyNext (.ref ga) >>= _) _ _ s
    refine wpAny_bind (next_gx (A := A.in1) hh hroom hl hG e hgs hgo (fun a x σ H i cp Nx v s1 gs' r hac I st hy at_ kap => ?_) fun a σ H cp s1 hac I q => ?_)
    · obtain ⟨b, rfl, hb⟩ := hy
      cases (show v = Value.bool b from r)
      refine wpAny_bind (wpAny_holding (wpAny_truthy_bool ?_))
      refine wpAny_bind (wpAny_letGo ?_)
      cases b with
      | true =>
        obtain ⟨m, hm, _⟩ := kap () cp s1 hb hac I st
        cases hm
      | false =>
        simp only [Bool.false_eq_true, if_false] at hb ⊢
        exact wpAny_bind (wpAny_rule (wpAny_pure (no σ H cp s1 I hb)))
    · exact wpAny_bind (wpAny_rule (wpAny_pure (yes σ H cp s1 I q)))
  | succ n ih =>
    rintro s hl e ⟨gs, hgs, hgo⟩
    refine codeAny_builtin F.entry_all_loop ?_
    rw [Around.under_plainId F.plain_all_loop _]
    show wpAny _ A.in1 (pyNext (.ref ga) >>= _) _ _ s
    refine wpAny_bind (next_gx (A := A.in1) hh hroom hl hG e hgs hgo (fun a x σ H i cp Nx v s1 gs' r hac I st hy at_ kap => ?_) fun a σ H cp s1 hac I q => ?_)
    · obtain ⟨b, rfl, hb⟩ := hy
      cases (show v = Value.bool b from r)
      refine wpAny_bind (wpAny_holding (wpAny_truthy_bool ?_))
      refine wpAny_bind (wpAny_letGo ?_)
      cases b with
      | true =>
        simp only [if_true] at hb ⊢
        subst hac
        refine wpAny_pure ⟨plainId_quiet F.plain_all_loop _, ih s1 I.nolimit (I.pin (ga, go) (List.mem_append_right _ List.mem_cons_self)).1 ⟨gs', at_, ?_⟩⟩
        obtain ⟨m, hm, z⟩ := kap () [(ga, go)] (s1.setGen gn .running) hb rfl (inv_moved I rfl (allBare_setGen I.bare rfl) fun _ _ q => q) st
        cases hm
        exact z
      | false =>
        simp only [Bool.false_eq_true, if_false] at hb ⊢
        exact wpAny_bind (wpAny_rule (wpAny_pure (no σ H cp s1 I hb)))
    · exact wpAny_bind (wpAny_rule (wpAny_pure (yes σ H cp s1 I q)))
end
section
variable {X : Cx}
/-- all(elt for tg in iter ..) -/
def tAllX (P : Addr) (wi : TI) (g : TG) (tt : TT) (te : TE) (vs : List Nat) : TE := fun σ H Q => wi σ H fun J H1 => GxR.TabG H1 P ∧ ∀ H2, GxR.Tabbed P H1 H2 → ∃ W : Nat → Nat → Unit → Hp → Prop, (∃ m, W 0 m () H2) ∧
  tGx J g tt te (wipe σ vs) vs (fun _ H => Q (.bl true) H) (fun _ y H Nx => ∃ b : Bool, y = .bl b ∧ if b = true then Nx () H else Q (.bl false) H) W
theorem pe_allX {c P : Addr} {elt tg iter : Expr} {ifs : List Expr} {p pos gpos : Pos} {scope : Scope} {own : List (Str × Nat)} {wi : TI} {g : TG} {tt : TT} {te : TE} {k : Nat}
    (hr : Room (k + 1) X.A) (hc : X.calm = true) (hN : X.N.Nodup) (hgl : Gl X "all") (hm : X.mg "all" = none) (hb : bootBuiltins "all" = some (.builtin "all")) (TB : GxR.TabB X.base X.mg c P) (hcode : X.env.code = .ref c)
    (hco : scope.isCoroutine = false) (hdot : scope.names.lookup (".0" : Str) = some NameKind.local) (nocell : ∀ y ∈ scope.names, y.2 ≠ .cell) (ok : BlkOk X.N X.env.scope scope own) (hi : PI X tg iter wi)
    (hg : ∀ (A' : Around) (s : Shared) (H : Hp) (C : Addr) (cl : List (Str × Addr)) (code : Value) (fp : List Addr), Room k A' → A'.guards = X.A.guards → PG (gblk X A' s H (genEnv scope cl C code builtinsNs X.env) fp) tg g)
    (ht : ∀ (A' : Around) (s : Shared) (H : Hp) (C : Addr) (cl : List (Str × Addr)) (code : Value) (fp : List Addr), Room k A' → A'.guards = X.A.guards → PTs (gblk X A' s H (genEnv scope cl C code builtinsNs X.env) fp) ifs tt)
    (he : ∀ (A' : Around) (s : Shared) (H : Hp) (C : Addr) (cl : List (Str × Addr)) (code : Value) (fp : List Addr), Room k A' → A'.guards = X.A.guards → PE (gblk X A' s H (genEnv scope cl C code builtinsNs X.env) fp) elt te)
    (hs : ∀ v, genFold iter X.env v = pure v)
    (hst : starEach [.GeneratorExp elt [⟨tg, iter, ifs, 0⟩] scope gpos] X.env = (false, eval (.GeneratorExp elt [⟨tg, iter, ifs, 0⟩] scope gpos) X.env) :: starEach [] X.env := by rfl) :
    PE X (.Call (.Name "all" p) [.GeneratorExp elt [⟨tg, iter, ifs, 0⟩] scope gpos] [] pos) (tAllX P wi g tt te (own.map (·.2))) := by
  refine ⟨fun pins s σ H Q I h => ?_⟩
  refine wpAny_Call_Name_kw (ld_blt I hgl hm hb ?_)
  refine PyProof.Rows.callWith_builtin1 ?_ hst (by rfl)
  rw [hst]
  show wpAny _ _ (spliced ((false, eval (.GeneratorExp elt [⟨tg, iter, ifs, 0⟩] scope gpos) X.env) :: backTo pos (starEach [] X.env))) _ _ s
  refine Calls.spliced_cons (gx_make (A := X.A.in1.in1) hr ⟨rfl, rfl, rfl, rfl, (by show X.A.units + 1 + 1 ≤ _; omega)⟩ hc hN TB hcode hco hdot nocell ok hi hg ht he hs I h fun J H1 H2 u s5 hR hT hG => ?_)
  obtain ⟨A', s_0, H_0, cenv, fp, ga, gn, go, tn, gs, rfl, hGO, hgs, hbare, I5, st5, nf, hlt, keep, back, goes⟩ := hG
  obtain ⟨W, ⟨m, w0⟩, turn⟩ := hR H2 hT
  refine Calls.spliced_nil ?_
  have pin5 := (I5.pin (ga, go) (List.mem_append_right _ List.mem_cons_self)).1
  refine call_function_tree F.kind_all F.plain_all F.entry_all (F.args_all1 _) ?_
  unfold Builtin.«all»
  refine wpAny_bind (m := oneArg "all" _) (wpAny_pure ?_)
  refine wpAny_bind (wpAny_pyIter_gen (hGO.isGen pin5) ?_)
  refine wpAny_pure ⟨plainId_quiet F.plain_all_loop _, all_gx (A' := A') (s_0 := s_0) (H_0 := H_0) (cenv := cenv) (fp := fp) (tn := tn) (go := go) (gn := gn) (Stop := fun H => Q (.bl false) H) (End := fun _ H => Q (.bl true) H) hr.hd hr.depth hGO
    (fun σ' H' cp s1 I1 q => ⟨.bl true, H', back _ _ _ _ I1, rfl, q⟩) (fun σ' H' cp s1 I1 q => ⟨.bl false, H', back _ _ _ _ I1, rfl, q⟩) (m + 1) s5 I5.nolimit pin5 ⟨gs, hgs, ?_⟩⟩
  refine goes Unit _ _ _ W m (m + 1) () [(ga, go)] _ turn w0 (Nat.lt_succ_self _) (fun a cp hac p hp b hb z => ?_) rfl (inv_moved I5 rfl (allBare_setGen I5.bare rfl) fun _ _ q => q) st5
  subst hac
  have e : p = (ga, go) := by simpa using hp
  subst e
  exact absurd (hlt b hb) (by rw [← z]; exact Nat.lt_irrefl _)
end
/-! ### tuple(..) -/
section
variable {X : Cx} {A A' : Around} {s_0 : Shared} {H_0 : Hp} {cenv : Env} {fp : List Addr} {tn : Nat → Heap → Prop} {ga S : Addr} {gn n : Nat} {go : Obj}
/-- the asker's list S holds what is out -/
def ACl (ga : Addr) (go : Obj) (S : Addr) (ys : List V) (cp : List (Addr × Obj)) : Prop := ∃ (acc : Array Value) (c : Nat), cp = [(ga, go), (S, lstObj acc c)] ∧ Vals ys acc.toList
def YdL (ys : List V) (y : V) (H : Hp) (Nx : List V → Hp → Prop) : Prop := ys.length < sizeLine ∧ Nx (ys ++ [y]) H
theorem ext_gx {R : Result → Shared → Prop} {End : List V → Hp → Prop} {res : Value} (hh : A.handled = none) (hroom : A.depth < recursionLimit) (hG : GenObj go gn) (hSa : S ≠ ga) (far : (gblk X A' s_0 H_0 cenv fp).s_0.heap.objs.size ≤ S) (hSc : ∀ x c, cenv.cells.lookup x = some c → c ≠ S)
    (keep : ∀ i h h', tn i h → (∀ b ∈ fp, ∀ o, h.get? b = some o → h'.get? b = some o) → tn i h') (hSf : ∀ b ∈ fp, b ≠ S)
    (yes : ∀ (σ : L2.St) (H : Hp) (ys : List V) (acc : Array Value) (c : Nat) (s1 : Shared), Inv (gblk X A' s_0 H_0 cenv fp) [(ga, go), (S, lstObj acc c)] σ H s1 → Vals ys acc.toList → End ys H → R (.ok (.ret res)) s1) :
    ∀ (n : Nat) (s : Shared), s.heap.NoLimit → s.heap.get? ga = some go → (∃ gs, s.gens[gn]? = some gs ∧ gs.Goes (model X.prog X.w) A.in1.in1 (RG (gblk X A' s_0 H_0 cenv fp) (ACl ga go S) End)
      (YG (gblk X A' s_0 H_0 cenv fp) fp tn (ACl ga go S) YdL) n (.send .none) (s.setGen gn .running)) →
      codeAny (model X.prog X.w) A (.builtin "list.extend.loop" ⟨[.ref S, .ref ga, res], []⟩) R s := by
  intro n
  induction n with
  | zero =>
    rintro s hl e ⟨gs, hgs, hgo⟩
    refine codeAny_builtin F.entry_extend_loop ?_
    rw [Around.under_plainId F.plain_extend_loop _]
    show wpAny _ A.in1 (pyNext (.ref ga) >>= _) _ _ s
    refine wpAny_bind (next_gx (A := A.in1) hh hroom hl hG e hgs hgo (fun ys x σ H i cp Nx v s1 gs' r hac I st hy at_ kap => ?_) fun ys σ H cp s1 hac I q => ?_)
    · obtain ⟨acc, c, rfl, rv⟩ := hac
      have pS := I.pin (S, lstObj acc c) (List.mem_append_right _ (List.mem_cons_of_mem _ List.mem_cons_self))
      have I0 : Inv (gblk X A' s_0 H_0 cenv fp) [(ga, go)] σ H s1 := I.pins_of fun p hp => I.pin p (List.mem_append_right _ (by rw [List.mem_singleton.mp hp]; exact List.mem_cons_self))
      have I1 := I0.turned (t' := s1.toks) (h' := s1.heap.update S (Obj.mapSeq (·.push v))) (it := S) (fun b o hb q => (Heap.get?_update_other _ _ (Ne.symm hb)).trans q) pS.2.1 pS.2.2.1 (.inr far) hSc (fun p hp => by rw [List.mem_singleton.mp (show p ∈ [(ga, go)] by simpa using hp)]; exact Ne.symm hSa)
      have e2 := Heap.get?_update_self (Obj.mapSeq (·.push v)) pS.1 rfl
      obtain ⟨m, hm, _⟩ := kap (ys ++ [x]) [(ga, go), (S, _)] _ hy.2 ⟨acc.push v, _, rfl, by rw [Array.toList_push]; exact rv.append (.cons r .nil)⟩ (I1.pins_of fun p hp => by
        rcases List.mem_cons.mp hp with z | z
        · rw [z]; exact I1.pin (ga, go) (List.mem_append_right _ List.mem_cons_self)
        · rw [List.mem_singleton.mp z]; exact ⟨e2, pS.2.1, pS.2.2.1, pS.2.2.2.1, fun v q => by cases q⟩) (keep _ _ _ st fun b hb o q => (Heap.get?_update_other _ _ (Ne.symm (hSf b hb))).trans q)
      cases hm
    · obtain ⟨acc, c, rfl, rv⟩ := hac
      exact wpAny_pure (yes σ H ys acc c s1 I rv q)
  | succ n ih =>
    rintro s hl e ⟨gs, hgs, hgo⟩
    refine codeAny_builtin F.entry_extend_loop ?_
    rw [Around.under_plainId F.plain_extend_loop _]
    show wpAny _ A.in1 (pyNext (.ref ga) >>= _) _ _ s
    refine wpAny_bind (next_gx (A := A.in1) hh hroom hl hG e hgs hgo (fun ys x σ H i cp Nx v s1 gs' r hac I st hy at_ kap => ?_) fun ys σ H cp s1 hac I q => ?_)
    · obtain ⟨acc, c, rfl, rv⟩ := hac
      have pS := I.pin (S, lstObj acc c) (List.mem_append_right _ (List.mem_cons_of_mem _ List.mem_cons_self))
      have I0 : Inv (gblk X A' s_0 H_0 cenv fp) [(ga, go)] σ H s1 := I.pins_of fun p hp => I.pin p (List.mem_append_right _ (by rw [List.mem_singleton.mp hp]; exact List.mem_cons_self))
      have I1 := I0.turned (t' := s1.toks) (h' := s1.heap.update S (Obj.mapSeq (·.push v))) (it := S) (fun b o hb q => (Heap.get?_update_other _ _ (Ne.symm hb)).trans q) pS.2.1 pS.2.2.1 (.inr far) hSc (fun p hp => by rw [List.mem_singleton.mp (show p ∈ [(ga, go)] by simpa using hp)]; exact Ne.symm hSa)
      have e2 := Heap.get?_update_self (Obj.mapSeq (·.push v)) pS.1 rfl
      have hln := rv.length
      have hlt : acc.size < sizeLine := by
        have := hy.1
        rw [hln] at this
        simpa using this
      have pG := I1.pin (ga, go) (List.mem_append_right _ List.mem_cons_self)
      show wpAny _ A.in1 (updateSeq S (·.push v) >>= _) _ _ _
      refine wpAny_bind ?_
      refine wpAny_updateSeq pS.1 rfl (wpAny_pure ⟨plainId_quiet F.plain_extend_loop _, ih _ I1.nolimit pG.1 ⟨gs', at_, ?_⟩⟩) (Nat.le_of_lt hlt) (by show (acc.push v).size ≤ sizeLine + 1; rw [Array.size_push]; omega)
      obtain ⟨m, hm, z⟩ := kap (ys ++ [x]) [(ga, go), (S, _)] (({ s1 with heap := s1.heap.update S (Obj.mapSeq (·.push v)) } : Shared).setGen gn .running) hy.2 ⟨acc.push v, _, rfl, by rw [Array.toList_push]; exact rv.append (.cons r .nil)⟩ (inv_moved (I1.pins_of fun p hp => by
        rcases List.mem_cons.mp hp with z | z
        · rw [z]; exact pG
        · rw [List.mem_singleton.mp z]; exact ⟨e2, pS.2.1, pS.2.2.1, pS.2.2.2.1, fun v q => by cases q⟩) rfl (allBare_setGen (s := { s1 with heap := s1.heap.update S (Obj.mapSeq (·.push v)) }) I1.bare rfl) fun _ _ q => q) (keep _ _ _ st fun b hb o q => (Heap.get?_update_other _ _ (Ne.symm (hSf b hb))).trans q)
      cases hm
      exact z
    · obtain ⟨acc, c, rfl, rv⟩ := hac
      exact wpAny_pure (yes σ H ys acc c s1 I rv q)
end
section
variable {X : Cx} {pins : List (Addr × Obj)} {σ : L2.St} {s5 : Shared} {J : It} {g : TG} {tt : TT} {te : TE} {vs : List Nat} {H4 : Hp} {u : Value}
/-- all that a generator hands out, in a list of the asker's own -/
theorem collect_gx {A : Around} {E : Value → Shared → Prop} {Q : List Value → Shared → Prop} {End : List V → Hp → Prop} {W : Nat → Nat → List V → Hp → Prop} {m : Nat} (hh : A.handled = none) (hroom : A.depth < recursionLimit) (G : Gx X pins σ A.in1.in1 J g tt te vs H4 u s5)
    (w0 : W 0 m [] H4) (turn : tGx J g tt te (wipe σ vs) vs End YdL W)
    (hQ : ∀ (s' : Shared) (acc : Array Value) (ys : List V) (H' : Hp), Inv X pins σ H' s' → Vals ys acc.toList → End ys H' → Q acc.toList s') : wpAny (model X.prog X.w) A (collect u) Q E s5 := by
  obtain ⟨A', s_0, H_0, cenv, fp, ga, gn, go, tn, gs, rfl, hGO, hgs, hbare, I5, st5, nf, hlt, keep, back, goes⟩ := G
  have pin5 := I5.pin (ga, go) (List.mem_append_right _ List.mem_cons_self)
  have glt : ga < s5.heap.objs.size := Heap.lt_size pin5.1
  have hSI : s5.heap.objs.size ≠ ga := Nat.ne_of_gt glt
  unfold collect
  refine wpAny_bind (wpAny_runValue (codeAny_builtin F.entry_proto_collect ?_))
  rw [Around.under_plainId F.plain_proto_collect _]
  show wpAny _ A.in1 (newList [] >>= fun l => again (.builtin "list.__iadd__" ⟨[l, .ref ga], []⟩)) _ _ s5
  refine wpAny_bind (wpAny_newObj_type ?_)
  refine wpAny_pure ⟨plainId_quiet F.plain_list_iadd _, codeAny_builtin F.entry_list_iadd ?_⟩
  rw [Around.under_plainId F.plain_list_iadd _]
  show wpAny _ A.in1 (Builtin.List.listExtendWith (.ref s5.heap.objs.size) (.ref ga) (.ref s5.heap.objs.size)) _ _ _
  unfold Builtin.List.listExtendWith
  have k1 : ∀ b o, s5.heap.get? b = some o → (s5.heap.push { cls := .type "list", data := .seq ([] : List Value).toArray }).get? b = some o := fun b o e => Heap.get?_push_of_some _ e
  have hT : Shared.TypeIs { s5 with heap := s5.heap.push { cls := .type "list", data := .seq ([] : List Value).toArray } } (.ref ga) "generator" := Heap.IsGen.typeIs (s := { s5 with heap := _ }) (hGO.isGen (k1 _ _ pin5.1))
  refine wpAny_bind (wpAny_typeOf hT ?_)
  have h1 : Builtin.List.listSameRef (.ref s5.heap.objs.size) (.ref ga) = false := by simp [Builtin.List.listSameRef, hSI]
  have h2 : (Value.type "generator" == Value.type "list") = false := by decide
  have h3 : (Value.type "generator" == Value.type "tuple") = false := by decide
  simp only [h1, h2, h3, Bool.or_false, Bool.false_eq_true, if_false]
  refine wpAny_bind (wpAny_pyIter_gen (s := { s5 with heap := _ }) (hGO.isGen (k1 _ _ pin5.1)) ?_)
  refine wpAny_bind (wpAny_holding ?_)
  unfold Builtin.List.listLengthHint
  refine wpAny_bind (wpAny_specialOf hT F.gen_no_len ?_)
  show wpAny _ A.in1 (specialOf (Value.ref ga) (Str.ofString "__length_hint__") >>= _) _ _ _
  refine wpAny_bind (wpAny_specialOf hT F.gen_no_hint ?_)
  refine wpAny_pure ?_
  show wpAny _ A.in1 (rule "list.extend.makes-room" >>= fun _ => Builtin.List.listTouch (.ref s5.heap.objs.size) >>= fun _ =>
    again (.builtin "list.extend.loop" ⟨[.ref s5.heap.objs.size, .ref ga, .ref s5.heap.objs.size], []⟩)) _ _ _
  refine wpAny_bind (wpAny_rule ?_)
  have hS₁ : (s5.heap.push { cls := .type "list", data := .seq ([] : List Value).toArray }).get? s5.heap.objs.size = some { cls := .type "list", data := .seq ([] : List Value).toArray } := Heap.get?_push_size _ rfl
  refine wpAny_bind ?_
  show wpAny _ A.in1 (updateSeq s5.heap.objs.size (·.push .none) >>= fun _ => updateSeq s5.heap.objs.size (·.pop)) _ _ _
  refine wpAny_bind (wpAny_updateSeq hS₁ rfl ?_)
  have hS₂ := Heap.get?_update_self (Obj.mapSeq (·.push Value.none)) hS₁ rfl
  refine wpAny_updateSeq hS₂ rfl ?_
  have hS₃ := Heap.get?_update_self (Obj.mapSeq (·.pop)) hS₂ rfl
  obtain ⟨c3, hS₄⟩ : ∃ c, (((s5.heap.push { cls := .type "list", data := .seq ([] : List Value).toArray }).update s5.heap.objs.size (Obj.mapSeq (·.push Value.none))).update s5.heap.objs.size (Obj.mapSeq (·.pop))).get? s5.heap.objs.size = some (lstObj #[] c) := ⟨_, hS₃⟩
  have k3 : ∀ b o, s5.heap.get? b = some o → (((s5.heap.push { cls := .type "list", data := .seq ([] : List Value).toArray }).update s5.heap.objs.size (Obj.mapSeq (·.push Value.none))).update s5.heap.objs.size (Obj.mapSeq (·.pop))).get? b = some o :=
    fun b o e => (Heap.get?_update_other _ _ (Ne.symm (Nat.ne_of_lt (Heap.lt_size e)))).trans ((Heap.get?_update_other _ _ (Ne.symm (Nat.ne_of_lt (Heap.lt_size e)))).trans (k1 b o e))
  have fS : FpOk (gblk X A' s_0 H_0 cenv fp) [(ga, go)] H4 s5.heap.objs.size := I5.fpOk (Nat.le_refl _) (I5.hok.fresh (Nat.le_refl _))
  have hfS : ∀ b ∈ fp, b ≠ s5.heap.objs.size := fun b hb => Nat.ne_of_lt (Nat.lt_trans (hlt b hb) glt)
  have I6 := inv_moved (s' := { s5 with heap := ((s5.heap.push { cls := .type "list", data := .seq ([] : List Value).toArray }).update s5.heap.objs.size (Obj.mapSeq (·.push Value.none))).update s5.heap.objs.size (Obj.mapSeq (·.pop)) }) I5 rfl I5.bare k3
  refine wpAny_pure ⟨plainId_quiet F.plain_extend_loop _, ext_gx (A := A) (A' := A') (s_0 := s_0) (H_0 := H_0) (cenv := cenv) (fp := fp) (tn := tn) (go := go) (gn := gn) (End := End) hh hroom hGO hSI ?_ fS.2.2.2.2.1 keep hfS
    (fun σ' H' ys acc c s1 I1 rv q => ?_) (m + 1) _ I6.nolimit (k3 _ _ pin5.1) ⟨gs, hgs, ?_⟩⟩
  · exact Nat.le_trans I5.sz (Nat.le_refl _)
  · show wpAny _ A (load s5.heap.objs.size >>= _) _ _ s1
    have pS := (I1.pin (s5.heap.objs.size, lstObj acc c) (List.mem_append_right _ (List.mem_cons_of_mem _ List.mem_cons_self))).1
    refine wpAny_bind (wpAny_load pS ?_)
    exact wpAny_pure (hQ s1 acc ys H' (back _ _ _ _ I1) rv q)
  · refine goes (List V) (ACl ga go s5.heap.objs.size) End YdL W m (m + 1) [] [(ga, go), (s5.heap.objs.size, lstObj #[] c3)] _ turn w0 (Nat.lt_succ_self _) (fun ys cp hac p hp b hb z => ?_) ⟨#[], c3, rfl, .nil⟩
      (inv_moved (I6.pins_of fun p hp => ?_) rfl (allBare_setGen (s := { s5 with heap := _ }) I5.bare rfl) fun _ _ q => q) (keep _ _ _ st5 fun b hb o q => k3 b o q)
    · obtain ⟨acc, c, rfl, _⟩ := hac
      rcases List.mem_cons.mp hp with e | e
      · rw [e] at z
        exact absurd (hlt b hb) (by rw [← z]; exact Nat.lt_irrefl _)
      · rw [List.mem_singleton.mp e] at z
        exact hfS b hb z.symm
    · rcases List.mem_cons.mp hp with e | e
      · rw [e]
        exact I6.pin (ga, go) (List.mem_append_right _ List.mem_cons_self)
      · rw [List.mem_singleton.mp e]
        exact ⟨hS₄, fS.1, fS.2.1, fS.2.2.1, fun v q => by cases q⟩
end
section
variable {X : Cx}
/-- tuple(elt for tg in iter ..) -/
def tTupX (P : Addr) (wi : TI) (g : TG) (tt : TT) (te : TE) (vs : List Nat) : TE := fun σ H Q => wi σ H fun J H1 => GxR.TabG H1 P ∧ ∀ H2, GxR.Tabbed P H1 H2 → ∃ W : Nat → Nat → List V → Hp → Prop, (∃ m, W 0 m [] H2) ∧
  tGx J g tt te (wipe σ vs) vs (fun ys H => ys.length ≤ sizeLine ∧ ∀ p, H p = none → Q (.ref p) (upd H p (.tup ys))) YdL W
theorem pe_tupX {c P : Addr} {elt tg iter : Expr} {ifs : List Expr} {p pos gpos : Pos} {scope : Scope} {own : List (Str × Nat)} {wi : TI} {g : TG} {tt : TT} {te : TE} {k : Nat}
    (hr : Room (k + 1) X.A) (hc : X.calm = true) (hN : X.N.Nodup) (hgl : Gl X "tuple") (hm : X.mg "tuple" = none) (hb : bootBuiltins "tuple" = some (.type "tuple")) (TB : GxR.TabB X.base X.mg c P) (hcode : X.env.code = .ref c)
    (hco : scope.isCoroutine = false) (hdot : scope.names.lookup (".0" : Str) = some NameKind.local) (nocell : ∀ y ∈ scope.names, y.2 ≠ .cell) (ok : BlkOk X.N X.env.scope scope own) (hi : PI X tg iter wi)
    (hg : ∀ (A' : Around) (s : Shared) (H : Hp) (C : Addr) (cl : List (Str × Addr)) (code : Value) (fp : List Addr), Room k A' → A'.guards = X.A.guards → PG (gblk X A' s H (genEnv scope cl C code builtinsNs X.env) fp) tg g)
    (ht : ∀ (A' : Around) (s : Shared) (H : Hp) (C : Addr) (cl : List (Str × Addr)) (code : Value) (fp : List Addr), Room k A' → A'.guards = X.A.guards → PTs (gblk X A' s H (genEnv scope cl C code builtinsNs X.env) fp) ifs tt)
    (he : ∀ (A' : Around) (s : Shared) (H : Hp) (C : Addr) (cl : List (Str × Addr)) (code : Value) (fp : List Addr), Room k A' → A'.guards = X.A.guards → PE (gblk X A' s H (genEnv scope cl C code builtinsNs X.env) fp) elt te)
    (hs : ∀ v, genFold iter X.env v = pure v)
    (hst : starEach [.GeneratorExp elt [⟨tg, iter, ifs, 0⟩] scope gpos] X.env = (false, eval (.GeneratorExp elt [⟨tg, iter, ifs, 0⟩] scope gpos) X.env) :: starEach [] X.env := by rfl) :
    PE X (.Call (.Name "tuple" p) [.GeneratorExp elt [⟨tg, iter, ifs, 0⟩] scope gpos] [] pos) (tTupX P wi g tt te (own.map (·.2))) := by
  refine ⟨fun pins s σ H Q I h => ?_⟩
  refine wpAny_Call_Name_kw (ld_blt I hgl hm hb ?_)
  refine PyProof.Rows.callWith_type1 ?_ hst (by rfl)
  rw [hst]
  show wpAny _ _ (spliced ((false, eval (.GeneratorExp elt [⟨tg, iter, ifs, 0⟩] scope gpos) X.env) :: backTo pos (starEach [] X.env))) _ _ s
  refine Calls.spliced_cons (gx_make (A := X.A.in1.in1.in1.in1) hr ⟨rfl, rfl, rfl, rfl, (by show X.A.units + 1 + 1 + 1 + 1 ≤ _; omega)⟩ hc hN TB hcode hco hdot nocell ok hi hg ht he hs I h fun J H1 H2 u s5 hR hT hG => ?_)
  obtain ⟨W, ⟨m, w0⟩, turn⟩ := hR H2 hT
  refine Calls.spliced_nil ?_
  have ⟨A', s_0, H_0, cenv, fp, ga, gn, go, tn, gs, eu, hGO, hgs, hbare, I5, st5, nf, hlt, keep, back, goes⟩ := hG
  have pin5 := (I5.pin (ga, go) (List.mem_append_right _ List.mem_cons_self)).1
  rw [eu] at hG ⊢
  refine callType_codes (Q₁ := fun obj s₁ => s₁.TypeIs obj "tuple" ∧ EP X pins σ Q obj s₁) F.called_tuple (F.typeCall_tuple_1 _) F.entry_object_init ?_ fun obj s₁ h₁ =>
    ⟨h₁.1, F.args_object_init_2 obj _, object_init_meets F.called_tuple.init.lookup F.called_tuple.made (by decide) X.prog X.w X.A.in1 _ s₁ ⟨h₁.1, rfl, h₁.2⟩⟩
  refine codeAny_of_tree ?_
  show wpAny _ X.A.in1.in1 (do checkBuiltinCall "tuple.__new__" ⟨[.type "tuple", .ref ga], []⟩; again (.builtin "tuple.__new__" ⟨[.type "tuple", .ref ga], []⟩)) _ _ s5
  refine wpAny_bind (wpAny_of_eq (F.newCall_tuple_1 _) (wpAny_pure ⟨plainId_quiet F.plain_tuple_new _, codeAny_builtin F.entry_tuple_new ?_⟩))
  rw [Around.under_plainId F.plain_tuple_new _]
  have hsub := sub_tuple_self
  have hinit := init_tuple_lookup
  have hmh := madeHere_tuple
  have hTI : s5.TypeIs (.ref ga) "generator" := (hGO.isGen pin5).typeIs
  have col : ∀ {Q0 : List Value → Shared → Prop} {E0 : Value → Shared → Prop}, (∀ (s' : Shared) (acc : Array Value), (∃ (ys : List V) (H' : Hp), Inv X pins σ H' s' ∧ Vals ys acc.toList ∧ ys.length ≤ sizeLine ∧ ∀ p, H' p = none → Q (.ref p) (upd H' p (.tup ys))) → Q0 acc.toList s') →
      wpAny (model X.prog X.w) X.A.in1.in1 (collect (.ref ga)) Q0 E0 s5 := fun hq => collect_gx hr.hd hr.depth hG w0 turn (fun s' acc ys H' I' rv q => hq s' acc ⟨ys, H', I', rv, q.1, q.2⟩)
  wp_walk using wpAny_typeOf hTI, col
  rintro s' acc ⟨ys, H', I', rv, small, q⟩
  show wpAny _ _ (Builtin.Tuple.tupleExact acc.toList.toArray >>= fun v => ret v) _ _ _
  unfold Builtin.Tuple.tupleExact
  refine wpAny_bind (wpAny_newObj_type ?_ (by show acc.toList.toArray.size ≤ sizeLine; rw [List.size_toArray, ← rv.length]; exact small))
  refine wpAny_pure ?_
  have free : H' s'.heap.objs.size = none := I'.hok.fresh (Nat.le_refl _)
  refine ⟨⟨_, Heap.get?_push_size _ rfl, rfl⟩, .ref s'.heap.objs.size, upd H' s'.heap.objs.size (.tup ys), I'.laid (t' := s'.toks) (fun b u z => Heap.get?_push_of_some _ z) (Nat.le_refl _) ⟨small, acc.toList, rv, ?_⟩, rfl, q _ free⟩
  exact ⟨_, Heap.get?_push_size _ rfl, rfl, 0, rfl⟩
end
/-! ### a def by its body, its code object known -/
theorem okC {P : Program} {w : World} {K : PySem.W.Frag} {mg : Str → Option Value} {base : Heap} {x qual : Str} {st : Stmt} {f : Addr} {fd : FuncData} {N ps : List Str} {k : Nat} {sp : Sp} (F : Fun K x qual st f fd) (S : FnScope N ps (defScope st)) (len : ∀ vs H Q E, sp vs H Q E → vs.length = ps.length)
    (body : ∀ (A : Around) (outer : List Env) (s : Shared) (H : Hp) (vs : List V) (Q : VK) (E : XK), Room k (A.deeper (envOfC qual (defScope st) s.heap.objs.size f fd.code)) → sp vs H Q E →
      ∃ t, PSs (cxOf CX0 P w K mg base N qual (defScope st) f fd.code A outer s H E).nox (defBody st) t ∧ t { nx := fun _ H' => Q .non H', rt := Q } (start N vs) H) : FnOk P w K mg base CX0 (k + 1) f fd ps sp := by
  obtain ⟨oc, od, kV, doc, pm, an, cdv, ct, osl, rfl, lk, hcd⟩ := F.ex
  refine fn_of lk hcd S len fun A outer s H vs Q E hr hsp => ?_
  obtain ⟨t, h, q⟩ := body A outer s H vs Q E hr hsp
  exact ⟨t, h.nox, q⟩
/-! ### from the head's facts -/
theorem fun_of {K : PySem.W.Frag} {x qual : Str} {st : Stmt} {f : Addr} {fd : FuncData} (F : FunD K x qual (defArgs st) (defBody st) (defScope st) [] [] f fd) : Fun K x qual st f fd := by
  obtain ⟨oc, od, dV, kV, doc, pm, an, cdv, ct, osl, rfl, lk, hcd, hd, _⟩ := F.ex
  rcases hd with ⟨_, rfl⟩ | ⟨z, _⟩
  · exact ⟨⟨oc, od, kV, doc, pm, an, cdv, ct, osl, rfl, lk, hcd⟩, F.kp⟩
  · exact absurd rfl z
theorem code_of {K : PySem.W.Frag} {x qual : Str} {st : Stmt} {p : He.Defn} {fd : FuncData} (F : Fun K x qual st (He.fAd K p) fd) : fd.code = .ref (He.cT K p).1 := by
  obtain ⟨oc, od, kV, doc, pm, an, cdv, ct, osl, rfl, lk, hcd⟩ := F.ex
  obtain ⟨c, rfl⟩ := He.codeIn_ref hcd
  show Value.ref c = Value.ref (He.codeOf K p)
  rw [He.codeOf_eq lk rfl]
theorem tab_of {base : Heap} {mg : Str → Option Value} {c P : Addr} (h : LamX.TabB base mg c P) : GxR.TabB base mg c P := ⟨h.code, h.bm, h.gP⟩
/-! ### heaps whose tables grow -/
def Tabs (H : Hp) (Ps : List Addr) : Prop := ∀ P ∈ Ps, GxR.TabG H P
/-- what is no table stays; tables stay tables -/
def Gr (H H' : Hp) : Prop := (∀ b o, (∀ ps, o ≠ HO.tbl ps) → H b = some o → H' b = some o) ∧ ∀ b, GxR.TabG H b → GxR.TabG H' b
theorem Gr.refl {H : Hp} : Gr H H := ⟨fun _ _ _ e => e, fun _ e => e⟩
theorem Gr.trans {H H1 H2 : Hp} (a : Gr H H1) (b : Gr H1 H2) : Gr H H2 := ⟨fun c o n e => b.1 c o n (a.1 c o n e), fun c e => b.2 c (a.2 c e)⟩
theorem Gr.of {H H' : Hp} (h : ∀ b o, H b = some o → H' b = some o) : Gr H H' := ⟨fun b o _ e => h b o e, fun b ⟨ps, e, t⟩ => ⟨ps, h _ _ e, t⟩⟩
theorem Gr.tab {P : Addr} {H H' : Hp} (t : GxR.TabG H P) (h : GxR.Tabbed P H H') : Gr H H' := by
  obtain ⟨ps, e, _⟩ := t
  refine ⟨fun b o n q => ?_, fun b q => ?_⟩
  · by_cases hb : b = P
    · rw [hb, e] at q
      exact absurd (Option.some.inj q).symm (n ps)
    · rw [h.2 b hb]; exact q
  · by_cases hb : b = P
    · rw [hb]; exact h.1
    · obtain ⟨ps', e', t'⟩ := q
      exact ⟨ps', by rw [h.2 b hb]; exact e', t'⟩
theorem Gr.tup {H H' : Hp} (g : Gr H H') {a : Addr} {xs : List V} (h : H a = some (.tup xs)) : H' a = some (.tup xs) := g.1 a _ (fun _ z => by cases z) h
theorem Gr.lst {H H' : Hp} (g : Gr H H') {a : Addr} {xs : List V} (h : H a = some (.lst xs)) : H' a = some (.lst xs) := g.1 a _ (fun _ z => by cases z) h
theorem Gr.tabs {H H' : Hp} (g : Gr H H') {Ps : List Addr} (h : Tabs H Ps) : Tabs H' Ps := fun P hP => g.2 P (h P hP)
theorem Gr.none {H : Hp} {a : Addr} {o : HO} (n : H a = Option.none) : Gr H (upd H a o) := Gr.of fun b u e => by
  rw [upd_ne (ne_of_none e n)]
  exact e
namespace CwR
/-- behind it a token is out -/
def PEp (X : Cx) (e : Expr) (t : TE) : Prop := ∀ (pins : List (Addr × Obj)) (s : Shared) (σ : L2.St) (H : Hp) (Q : VK), Inv X pins σ H s → t σ H Q → wpAny (model X.prog X.w) X.A (eval e X.env) (fun u s' => 1 ≤ s'.toks ∧ EP X pins σ Q u s') X.xe s
theorem pep_ix {X : Cx} {a : Expr} {i : Int} {j : Nat} {p pos : Pos} {ta : TE} {r : R2} (hr : IxR X r) (ha : PE X a ta) (hs : PlainIx (.Constant (.int i) j p)) : PEp X (.Subscript a (.Constant (.int i) j p) pos) (tOp r ta (tC (.int i))) := by
  intro pins s σ H Q I h
  refine Subscript_ (thn (ha.run pins s σ H _ I h) fun v s1 ⟨x, H1, I1, r1, q1⟩ => wpAny_Constant_int ?_)
  refine wpAny_mono (PySem.wpAny_toks (hr a _ pins { s1 with toks := s1.toks + 1 } σ H1 x (.int i) v (.int i s1.toks) Q (I1.tok _) r1 ⟨_, rfl⟩ q1 (hs _ _))) (fun u s2 q => ⟨?_, q.2⟩) fun _ _ z => z.2
  have h1 : s1.toks + 1 ≤ s2.toks := q.1
  omega
theorem pep_repl {X : Cx} {o : Expr} {to : TE} {y z : Str} {j k : Nat} {c0 c1 apos pos : Pos} (ho : PEp X o to) (hyz : (y == z) = false := by decide)
    (hst : starEach [.Constant (.str y) j c0, .Constant (.str z) k c1] X.env = [(false, eval (.Constant (.str y) j c0) X.env), (false, eval (.Constant (.str z) k c1) X.env)] := by rfl)
    (hbase : attributeBase o "replace" X.env (eval o X.env) = eval o X.env := by rfl) (hline : (apos.endLine == pos.line) = true := by rfl) :
    PEp X (.Call (.Attribute o "replace" apos) [.Constant (.str y) j c0, .Constant (.str z) k c1] [] pos) (CwR.tReplC to y z) := by
  intro pins s σ H Q I h
  refine PySem.Call_method2 hbase hst hline (wpAny_mono (ho pins s σ H _ I h) (fun v s1 q => ?_) fun _ _ z => z)
  obtain ⟨hk, v', H1, I1, r1, x, e1, hb, q⟩ := q
  subst e1
  obtain ⟨tx, e2⟩ := r1
  subst e2
  refine ⟨"str", _, PySem.F.plainAttrs_str, PySem.F.slot_str_replace, PySem.F.type_str_replace, typeIs_str _ _ _, (fun _ e => nomatch e), Calls.callWith_builtin rfl (Calls.evalArgs_plain (Calls.spliced_cons ?_))⟩
  refine Calls.Constant_str (Calls.spliced_cons (Calls.Constant_str (Calls.spliced_nil ?_)))
  refine wpAny_mono (PySem.wpAny_toks (PySem.SC.replace (Q := fun u s' => EP X pins σ Q u s') (by show s1.toks ≠ 0; omega) (by show s1.toks + 1 ≠ 0; omega) (by show s1.toks ≠ s1.toks + 1; omega) hyz hb fun t' k => ⟨.str (Txt.replace x y z), H1, I1.tok k, ⟨t', rfl⟩, q⟩)) (fun u s2 q => ⟨?_, q.2⟩) fun _ _ z => z.2
  have h1 : s1.toks + 1 + 1 ≤ s2.toks := q.1
  omega
theorem pe_replP {X : Cx} {e : Expr} {t : TE} (h : PEp X e t) : PE X e t := ⟨fun pins s σ H Q I q => wpAny_mono (h pins s σ H Q I q) (fun _ _ z => z.2) fun _ _ z => z⟩
end CwR

/-! ### any(..) -/
section
variable {α : Type} {X : Cx} {A A' : Around} {s_0 : Shared} {H_0 : Hp} {cenv : Env} {fp : List Addr} {tn : Nat → Heap → Prop} {AC : α → List (Addr × Obj) → Prop} {End : α → Hp → Prop} {Yd : α → V → Hp → (α → Hp → Prop) → Prop} {ga : Addr} {gn n : Nat} {go : Obj}
/-- any(..) asks on -/
theorem any_gx {R : Result → Shared → Prop} {Stop : Hp → Prop} {End : Unit → Hp → Prop} (hh : A.handled = none) (hroom : A.depth < recursionLimit) (hG : GenObj go gn)
    (yes : ∀ (σ : L2.St) (H : Hp) (cp : List (Addr × Obj)) (s1 : Shared), Inv (gblk X A' s_0 H_0 cenv fp) cp σ H s1 → End () H → R (.ok (.ret (.bool false))) s1)
    (no : ∀ (σ : L2.St) (H : Hp) (cp : List (Addr × Obj)) (s1 : Shared), Inv (gblk X A' s_0 H_0 cenv fp) cp σ H s1 → Stop H → R (.ok (.ret (.bool true))) s1) :
    ∀ (n : Nat) (s : Shared), s.heap.NoLimit → s.heap.get? ga = some go → (∃ gs, s.gens[gn]? = some gs ∧ gs.Goes (model X.prog X.w) A.in1.in1 (RG (gblk X A' s_0 H_0 cenv fp) (fun _ cp => cp = [(ga, go)]) End)
      (YG (gblk X A' s_0 H_0 cenv fp) fp tn (fun _ cp => cp = [(ga, go)]) (fun _ y H Nx => ∃ b : Bool, y = .bl b ∧ if b = true then Stop H else Nx () H)) n (.send .none) (s.setGen gn .running)) →
      codeAny (model X.prog X.w) A (.builtin "any.loop" ⟨[.ref ga], []⟩) R s := by
  intro n
  induction n with
  | zero =>
    rintro s hl e ⟨gs, hgs, hgo⟩
    refine codeAny_builtin F.entry_any_loop ?_
    rw [Around.under_plainId F.plain_any_loop _]
    show wpAny _ A.in1 (pyNext (.ref ga) >>= _) _ _ s
    refine wpAny_bind (next_gx (A := A.in1) hh hroom hl hG e hgs hgo (fun a x σ H i cp Nx v s1 gs' r hac I st hy at_ kap => ?_) fun a σ H cp s1 hac I q => ?_)
    · obtain ⟨b, rfl, hb⟩ := hy
      cases (show v = Value.bool b from r)
      refine wpAny_bind (wpAny_holding (wpAny_truthy_bool ?_))
      refine wpAny_bind (wpAny_letGo ?_)
      cases b with
      | false =>
        obtain ⟨m, hm, _⟩ := kap () cp s1 (by simpa using hb) hac I st
        cases hm
      | true =>
        simp only [if_true] at hb ⊢
        exact wpAny_bind (wpAny_rule (wpAny_pure (no σ H cp s1 I hb)))
    · exact wpAny_bind (wpAny_rule (wpAny_pure (yes σ H cp s1 I q)))
  | succ n ih =>
    rintro s hl e ⟨gs, hgs, hgo⟩
    refine codeAny_builtin F.entry_any_loop ?_
    rw [Around.under_plainId F.plain_any_loop _]
    show wpAny _ A.in1 (pyNext (.ref ga) >>= _) _ _ s
    refine wpAny_bind (next_gx (A := A.in1) hh hroom hl hG e hgs hgo (fun a x σ H i cp Nx v s1 gs' r hac I st hy at_ kap => ?_) fun a σ H cp s1 hac I q => ?_)
    · obtain ⟨b, rfl, hb⟩ := hy
      cases (show v = Value.bool b from r)
      refine wpAny_bind (wpAny_holding (wpAny_truthy_bool ?_))
      refine wpAny_bind (wpAny_letGo ?_)
      cases b with
      | false =>
        simp only [Bool.false_eq_true, if_false] at hb ⊢
        subst hac
        refine wpAny_pure ⟨plainId_quiet F.plain_any_loop _, ih s1 I.nolimit (I.pin (ga, go) (List.mem_append_right _ List.mem_cons_self)).1 ⟨gs', at_, ?_⟩⟩
        obtain ⟨m, hm, z⟩ := kap () [(ga, go)] (s1.setGen gn .running) hb rfl (inv_moved I rfl (allBare_setGen I.bare rfl) fun _ _ q => q) st
        cases hm
        exact z
      | true =>
        simp only [if_true] at hb ⊢
        exact wpAny_bind (wpAny_rule (wpAny_pure (no σ H cp s1 I hb)))
    · exact wpAny_bind (wpAny_rule (wpAny_pure (yes σ H cp s1 I q)))
end
section
variable {X : Cx}
/-- any(elt for tg in iter ..) -/
def tAnyX (P : Addr) (wi : TI) (g : TG) (tt : TT) (te : TE) (vs : List Nat) : TE := fun σ H Q => wi σ H fun J H1 => GxR.TabG H1 P ∧ ∀ H2, GxR.Tabbed P H1 H2 → ∃ W : Nat → Nat → Unit → Hp → Prop, (∃ m, W 0 m () H2) ∧
  tGx J g tt te (wipe σ vs) vs (fun _ H => Q (.bl false) H) (fun _ y H Nx => ∃ b : Bool, y = .bl b ∧ if b = true then Q (.bl true) H else Nx () H) W
theorem pe_anyX {c P : Addr} {elt tg iter : Expr} {ifs : List Expr} {p pos gpos : Pos} {scope : Scope} {own : List (Str × Nat)} {wi : TI} {g : TG} {tt : TT} {te : TE} {k : Nat}
    (hr : Room (k + 1) X.A) (hc : X.calm = true) (hN : X.N.Nodup) (hgl : Gl X "any") (hm : X.mg "any" = none) (hb : bootBuiltins "any" = some (.builtin "any")) (TB : GxR.TabB X.base X.mg c P) (hcode : X.env.code = .ref c)
    (hco : scope.isCoroutine = false) (hdot : scope.names.lookup (".0" : Str) = some NameKind.local) (nocell : ∀ y ∈ scope.names, y.2 ≠ .cell) (ok : BlkOk X.N X.env.scope scope own) (hi : PI X tg iter wi)
    (hg : ∀ (A' : Around) (s : Shared) (H : Hp) (C : Addr) (cl : List (Str × Addr)) (code : Value) (fp : List Addr), Room k A' → A'.guards = X.A.guards → PG (gblk X A' s H (genEnv scope cl C code builtinsNs X.env) fp) tg g)
    (ht : ∀ (A' : Around) (s : Shared) (H : Hp) (C : Addr) (cl : List (Str × Addr)) (code : Value) (fp : List Addr), Room k A' → A'.guards = X.A.guards → PTs (gblk X A' s H (genEnv scope cl C code builtinsNs X.env) fp) ifs tt)
    (he : ∀ (A' : Around) (s : Shared) (H : Hp) (C : Addr) (cl : List (Str × Addr)) (code : Value) (fp : List Addr), Room k A' → A'.guards = X.A.guards → PE (gblk X A' s H (genEnv scope cl C code builtinsNs X.env) fp) elt te)
    (hs : ∀ v, genFold iter X.env v = pure v)
    (hst : starEach [.GeneratorExp elt [⟨tg, iter, ifs, 0⟩] scope gpos] X.env = (false, eval (.GeneratorExp elt [⟨tg, iter, ifs, 0⟩] scope gpos) X.env) :: starEach [] X.env := by rfl) :
    PE X (.Call (.Name "any" p) [.GeneratorExp elt [⟨tg, iter, ifs, 0⟩] scope gpos] [] pos) (tAnyX P wi g tt te (own.map (·.2))) := by
  refine ⟨fun pins s σ H Q I h => ?_⟩
  refine wpAny_Call_Name_kw (ld_blt I hgl hm hb ?_)
  refine PyProof.Rows.callWith_builtin1 ?_ hst (by rfl)
  rw [hst]
  show wpAny _ _ (spliced ((false, eval (.GeneratorExp elt [⟨tg, iter, ifs, 0⟩] scope gpos) X.env) :: backTo pos (starEach [] X.env))) _ _ s
  refine Calls.spliced_cons (gx_make (A := X.A.in1.in1) hr ⟨rfl, rfl, rfl, rfl, (by show X.A.units + 1 + 1 ≤ _; omega)⟩ hc hN TB hcode hco hdot nocell ok hi hg ht he hs I h fun J H1 H2 u s5 hR hT hG => ?_)
  obtain ⟨A', s_0, H_0, cenv, fp, ga, gn, go, tn, gs, rfl, hGO, hgs, hbare, I5, st5, nf, hlt, keep, back, goes⟩ := hG
  obtain ⟨W, ⟨m, w0⟩, turn⟩ := hR H2 hT
  refine Calls.spliced_nil ?_
  have pin5 := (I5.pin (ga, go) (List.mem_append_right _ List.mem_cons_self)).1
  refine call_function_tree F.kind_any F.plain_any F.entry_any (F.args_any1 _) ?_
  unfold Builtin.«any»
  refine wpAny_bind (m := oneArg "any" _) (wpAny_pure ?_)
  refine wpAny_bind (wpAny_pyIter_gen (hGO.isGen pin5) ?_)
  refine wpAny_pure ⟨plainId_quiet F.plain_any_loop _, any_gx (A' := A') (s_0 := s_0) (H_0 := H_0) (cenv := cenv) (fp := fp) (tn := tn) (go := go) (gn := gn) (Stop := fun H => Q (.bl true) H) (End := fun _ H => Q (.bl false) H) hr.hd hr.depth hGO
    (fun σ' H' cp s1 I1 q => ⟨.bl false, H', back _ _ _ _ I1, rfl, q⟩) (fun σ' H' cp s1 I1 q => ⟨.bl true, H', back _ _ _ _ I1, rfl, q⟩) (m + 1) s5 I5.nolimit pin5 ⟨gs, hgs, ?_⟩⟩
  refine goes Unit _ _ _ W m (m + 1) () [(ga, go)] _ turn w0 (Nat.lt_succ_self _) (fun a cp hac p hp b hb z => ?_) rfl (inv_moved I5 rfl (allBare_setGen I5.bare rfl) fun _ _ q => q) st5
  subst hac
  have e : p = (ga, go) := by simpa using hp
  subst e
  exact absurd (hlt b hb) (by rw [← z]; exact Nat.lt_irrefl _)
end

/-! ### sep.join(elt for tg in iter ..) -/
namespace GxJ
open PySem PySem.Spec PyProof.Rows L2 Builtin Builtin.Str
section
variable {X : Cx}
def tJoinX (P : Addr) (to : TE) (wi : TI) (g : TG) (tt : TT) (te : TE) (vs : List Nat) : TE := fun σ H Q => to σ H fun v H0 => ∃ sep : PySem.Str, v = .str sep ∧ wi σ H0 fun J H1 => GxR.TabG H1 P ∧ ∀ H2, GxR.Tabbed P H1 H2 → ∃ W : Nat → Nat → List V → Hp → Prop, (∃ m, W 0 m [] H2) ∧
  tGx J g tt te (wipe σ vs) vs (fun ys H => ∃ ws : List PySem.Str, ys = ws.map V.str ∧ JoinOk sep ws = true ∧ Q (.str (Txt.join sep ws)) H) YdL W
theorem l_strs : ∀ {ws : List PySem.Str} {us : List Value}, Vals (ws.map V.str) us → ∃ l : List (PySem.Str × Tok), strValues l = us ∧ l.map (·.1) = ws
  | [], _, .nil => ⟨[], rfl, rfl⟩
  | y :: ys, _, .cons r t => by
    obtain ⟨k, rfl⟩ := r
    obtain ⟨l, rfl, e⟩ := l_strs t
    exact ⟨(y, k) :: l, rfl, by rw [List.map_cons, e]⟩
theorem pe_joinX {c P : Addr} {o elt tg iter : Expr} {ifs : List Expr} {apos cpos gpos : Pos} {scope : Scope} {own : List (PySem.Str × Nat)} {to : TE} {wi : TI} {g : TG} {tt : TT} {te : TE} {k : Nat}
    (hr : Room (k + 1) X.A) (hc : X.calm = true) (hN : X.N.Nodup) (ho : PE X o to) (TB : GxR.TabB X.base X.mg c P) (hcode : X.env.code = .ref c)
    (hco : scope.isCoroutine = false) (hdot : scope.names.lookup (".0" : PySem.Str) = some NameKind.local) (nocell : ∀ y ∈ scope.names, y.2 ≠ .cell) (ok : BlkOk X.N X.env.scope scope own) (hi : PI X tg iter wi)
    (hg : ∀ (A' : Around) (s : Shared) (H : Hp) (C : Addr) (cl : List (PySem.Str × Addr)) (code : Value) (fp : List Addr), Room k A' → A'.guards = X.A.guards → PG (gblk X A' s H (genEnv scope cl C code builtinsNs X.env) fp) tg g)
    (ht : ∀ (A' : Around) (s : Shared) (H : Hp) (C : Addr) (cl : List (PySem.Str × Addr)) (code : Value) (fp : List Addr), Room k A' → A'.guards = X.A.guards → PTs (gblk X A' s H (genEnv scope cl C code builtinsNs X.env) fp) ifs tt)
    (he : ∀ (A' : Around) (s : Shared) (H : Hp) (C : Addr) (cl : List (PySem.Str × Addr)) (code : Value) (fp : List Addr), Room k A' → A'.guards = X.A.guards → PE (gblk X A' s H (genEnv scope cl C code builtinsNs X.env) fp) elt te)
    (hs : ∀ v, genFold iter X.env v = pure v) (hbase : attributeBase o "join" X.env (eval o X.env) = eval o X.env := by rfl)
    (hfew : ((backTo cpos (starEach [.GeneratorExp elt [⟨tg, iter, ifs, 0⟩] scope gpos] X.env)).all (fun x => !x.1) && (backToKw cpos (keywordEach [] X.env)).all (fun x => x.1.isSome)
      && decide (([.GeneratorExp elt [⟨tg, iter, ifs, 0⟩] scope gpos] : List Expr).length + ([] : List Keyword).length + (if ([] : List Keyword).isEmpty then 0 else 1) < 30)) = true := by rfl)
    (hline : (apos.endLine == cpos.line) = true := by rfl)
    (hst : starEach [.GeneratorExp elt [⟨tg, iter, ifs, 0⟩] scope gpos] X.env = (false, eval (.GeneratorExp elt [⟨tg, iter, ifs, 0⟩] scope gpos) X.env) :: starEach [] X.env := by rfl)
    (hplain : (backTo cpos (starEach [] X.env)).any (·.1) = false := by rfl) :
    PE X (.Call (.Attribute o "join" apos) [.GeneratorExp elt [⟨tg, iter, ifs, 0⟩] scope gpos] [] cpos) (tJoinX P to wi g tt te (own.map (·.2))) := by
  refine ⟨fun pins s σ H Q I h => ?_⟩
  refine wpAny_Call_method_late hbase hfew hline rfl (thn (ho.run pins s σ H _ I h) fun v s1 ⟨x', H1, I1, r1, sep, ex, q1⟩ => ?_)
  subst ex
  obtain ⟨tk, rfl⟩ := (show ∃ t, v = Value.str sep t from r1)
  refine ⟨"str", _, PySem.F.plainAttrs_str, PySem.F.slot_str_join, PySem.F.type_str_join, typeIs_str _ _ _, (fun _ e => nomatch e), ?_⟩
  rw [hst]
  refine Calls.callWith_builtin (by show (false || (backTo cpos (starEach [] X.env)).any (·.1)) = false; rw [hplain] <;> rfl) (Calls.evalArgs_plain ?_)
  show wpAny _ _ (spliced ((false, eval (.GeneratorExp elt [⟨tg, iter, ifs, 0⟩] scope gpos) X.env) :: backTo cpos (starEach [] X.env))) _ _ s1
  refine Calls.spliced_cons (gx_make (A := X.A.in1.in1.in1) hr ⟨rfl, rfl, rfl, rfl, (by show X.A.units + 1 + 1 + 1 ≤ _; omega)⟩ hc hN TB hcode hco hdot nocell ok hi hg ht he hs I1 q1 fun J H2 H3 u s5 hR hT hG => ?_)
  obtain ⟨W, ⟨m, w0⟩, turn⟩ := hR H3 hT
  refine Calls.spliced_nil ?_
  have ⟨A', s_0, H_0, cenv, fp, ga, gn, go, tn, gs, eu, hGO, hgs, hbare, I5, st5, nf, hlt, keep, back, goes⟩ := hG
  have pin5 := (I5.pin (ga, go) (List.mem_append_right _ List.mem_cons_self)).1
  rw [eu] at hG ⊢
  have hTI : s5.TypeIs (.ref ga) "generator" := (hGO.isGen pin5).typeIs
  refine wpAny_call (codeAny_call_builtin F.slot_str_join.plain F.entry_str_join (F.slot_str_join.check _ _ _ _ _ _ _ _ (typeIs_str _ _ _) (F.args_str_join_2 _ _) ?_))
  show wpAny _ X.A.in1 («str.join» ⟨[.str sep tk, .ref ga], []⟩) _ _ s5
  rw [join_tree_other]
  refine wpAny_bind (wpAny_typeOf hTI ?_)
  show wpAny _ X.A.in1 ((pyIter (.ref ga)).tryCatch _ >>= fun it => collect it >>= fun items => joinTail sep items) _ _ s5
  refine wpAny_bind (wpAny_tryCatch (wpAny_pyIter_gen (hGO.isGen pin5) ?_))
  refine wpAny_bind (collect_gx (A := X.A.in1) hr.hd hr.depth hG w0 turn (fun s' acc ys H' I' rv q => ?_))
  obtain ⟨ws, rfl, hok, hq⟩ := q
  obtain ⟨l, hl, el⟩ := l_strs rv
  rw [← hl]
  subst el
  unfold JoinOk at hok
  rw [Bool.not_eq_true'] at hok
  have gj : Gives (joinTail sep (strValues l)) (joinMade sep l) := by
    have g0 := gives_joinTail sep l hok
    cases l with
    | nil => exact g0
    | cons p r => cases r with
      | nil => exact g0
      | cons q r' => exact g0
  exact gj X.prog X.w X.A (wants _ _) s' (post_join l ⟨joinFit_length hok, fun t' k' => ⟨.str _, H', I'.tok k', ⟨t', rfl⟩, hq⟩⟩)
end
end GxJ

/-! ### heaps -/
theorem same_upd {H : Hp} {p : Addr} {o : HO} (h : H p = none) : Same H (upd H p o) := fun b x e => by
  rw [upd_ne (ne_of_none e h)]
  exact e
def Fr (d l : Addr) (H H' : Hp) : Prop := ∀ b o, b ≠ d → b ≠ l → H b = some o → H' b = some o
theorem Fr.trans {d l : Addr} {H H1 H2 : Hp} (a : Fr d l H H1) (b : Fr d l H1 H2) : Fr d l H H2 := fun c o h1 h2 h => b c o h1 h2 (a c o h1 h2 h)
theorem Fr.refl {d l : Addr} {H : Hp} : Fr d l H H := fun _ _ _ _ h => h
theorem Fr.new {d l p : Addr} {H : Hp} {o : HO} (h : H p = none) : Fr d l H (upd H p o) := fun b x _ _ e => same_upd h b x e
theorem Fr.of {d l : Addr} {H H' : Hp} (h : Same H H') : Fr d l H H' := fun b x _ _ e => h b x e
theorem Fr.d {d l : Addr} {H : Hp} {o : HO} : Fr d l H (upd H d o) := fun b x h1 _ e => by rw [upd_ne h1]; exact e
theorem Fr.l {d l : Addr} {H : Hp} {o : HO} : Fr d l H (upd H l o) := fun b x _ h2 e => by rw [upd_ne h2]; exact e
def Deck (H : Hp) (d l : Addr) : Prop := d ≠ l ∧ ∃ (cs : List Int) (z : Int), H d = some (.lst [.ref l, .int z]) ∧ H l = some (.lst (cs.map V.int)) ∧ cs.length ≤ 63 ∧ 0 ≤ z ∧ z < 4294967296
theorem Deck.same {H H' : Hp} {d l : Addr} (D : Deck H d l) (s : Same H H') : Deck H' d l := by
  obtain ⟨ne, cs, z, hd, hl, r⟩ := D
  exact ⟨ne, cs, z, s _ _ hd, s _ _ hl, r⟩
theorem Deck.new {H : Hp} {d l p : Addr} {o : HO} (D : Deck H d l) (h : H p = none) : Deck (upd H p o) d l := D.same (same_upd h)
theorem Deck.ne_new {H : Hp} {d l p : Addr} (D : Deck H d l) (h : H p = none) : p ≠ d ∧ p ≠ l := by
  obtain ⟨ne, cs, z, hd, hl, r⟩ := D
  exact ⟨(ne_of_none hd h).symm, (ne_of_none hl h).symm⟩
theorem p29 : (0 : Int) < 2147483629 := by decide
theorem p47 : (0 : Int) < 2147483647 := by decide
theorem p87 : (0 : Int) < 2147483587 := by decide
theorem sl1 : 1 ≤ sizeLine := by decide
theorem sl2 : 2 ≤ sizeLine := by decide
theorem sl3 : 3 ≤ sizeLine := by decide
theorem sl4 : 4 ≤ sizeLine := by decide
theorem seqIx0 {α : Type} (x : α) (xs : List α) : seqIndex? 0 (x :: xs).length = some 0 := by
  refine (ixN_seq (n := (x :: xs).length) (i := 0) (j := 0) ?_).1
  unfold ixN
  rw [if_pos (by decide), if_pos (by rw [List.length_cons]; omega)]
  rfl
theorem dpInts {K : PySem.W.Frag} {H : Hp} : ∀ cs : List Int, DpAll K H (cs.map V.int) (cs.map PyData.int)
  | [] => .nil
  | c :: r => .cons (.int c) (dpInts r)
theorem shInts (ns : List Int) : SeqAt.shaped (.list (ns.map PyData.int)) = true := by
  unfold SeqAt.shaped
  rw [Bool.and_eq_true]
  refine ⟨?_, ?_⟩
  · simp only [PyData.canLay0, canLayAll_ints]
  · simp only [PyData.depth, depthAll_ints]
    decide
theorem at_pick {xs : List V} {j : Int} (h0 : 0 ≤ j) (h1 : j < xs.length) : ∃ x, atI xs j = some x ∧ x ∈ xs := by
  obtain ⟨k, rfl⟩ : ∃ k : Nat, j = (k : Int) := ⟨j.toNat, (Int.toNat_of_nonneg h0).symm⟩
  have hk : k < xs.length := by omega
  exact ⟨xs[k], atI_nat (List.getElem?_eq_getElem hk), List.getElem_mem hk⟩
theorem units65 {k : Nat} {A : Around} (r : Room k A) : A.units + 65 < cLine := by have := r.un; omega
def rLenK (K : PySem.W.Frag) : List V → Hp → VK → Prop := fun xs H Q => ∃ p ys, xs = [.ref p] ∧ (SqL K H p ys ∨ SqT K H p ys) ∧ Q (.int ys.length) H
def rTupK (K : PySem.W.Frag) : List V → Hp → VK → Prop := fun xs H Q => ∃ p ys, xs = [.ref p] ∧ ((SqL K H p ys ∧ ∀ l, H l = none → Q (.ref l) (upd H l (.tup ys))) ∨ (SqT K H p ys ∧ Q (.ref p) H))
def rLstK (K : PySem.W.Frag) : List V → Hp → VK → Prop := fun xs H Q => ∃ p ys, xs = [.ref p] ∧ (SqL K H p ys ∨ SqT K H p ys) ∧ ∀ l, H l = none → Q (.ref l) (upd H l (.lst ys))
/-- joining ways behind a test, behind an expression -/
def tCutT (t : TT) : TT := fun σ H Q => ∃ Mid : Bool → Hp → Prop, t σ H Mid ∧ ∀ b H1, Mid b H1 → Q b H1
theorem pt_cut {X : Cx} {e : Expr} {t : TT} (h : PT X e t) : PT X e (tCutT t) := ⟨fun pins s σ H Q I hw => by
  obtain ⟨Mid, h1, q⟩ := hw
  exact thn (h.run pins s σ H _ I h1) fun c s1 ⟨H1, I1, m⟩ => ⟨H1, I1, q _ _ m⟩⟩
def tCutE (t : TE) : TE := fun σ H Q => ∃ Mid : VK, t σ H Mid ∧ ∀ v H1, Mid v H1 → Q v H1
theorem pe_cut {X : Cx} {e : Expr} {t : TE} (h : PE X e t) : PE X e (tCutE t) := ⟨fun pins s σ H Q I hw => by
  obtain ⟨Mid, h1, q⟩ := hw
  exact thn (h.run pins s σ H _ I h1) fun u s1 ⟨v, H1, I1, r, m⟩ => ⟨v, H1, I1, r, q _ _ m⟩⟩

/-! ### data made by the law or the program: numbers, truths, texts, lists and tuples of these -/
mutual
inductive Tk (H : Hp) : V → PyData → Prop
  | bl (b : Bool) : Tk H (.bl b) (.bool b)
  | int (i : Int) : Tk H (.int i) (.int i)
  | str (x : Str) : Tk H (.str x) (.str x)
  | lst {a : Addr} {xs : List V} {ds : List PyData} : H a = some (.lst xs) → TkAll H xs ds → Tk H (.ref a) (.list ds)
  | tup {a : Addr} {xs : List V} {ds : List PyData} : H a = some (.tup xs) → TkAll H xs ds → Tk H (.ref a) (.tuple ds)
inductive TkAll (H : Hp) : List V → List PyData → Prop
  | nil : TkAll H [] []
  | cons {v : V} {vs : List V} {d : PyData} {ds : List PyData} : Tk H v d → TkAll H vs ds → TkAll H (v :: vs) (d :: ds)
end
theorem TkAll.length {H : Hp} : ∀ {vs : List V} {ds : List PyData}, TkAll H vs ds → vs.length = ds.length
  | _, _, .nil => rfl
  | _, _, .cons _ t => by rw [List.length_cons, List.length_cons, t.length]
mutual
theorem Tk.same {H H' : Hp} (s : Same H H') : ∀ {v : V} {d : PyData}, Tk H v d → Tk H' v d
  | _, _, .bl b => .bl b
  | _, _, .int i => .int i
  | _, _, .str x => .str x
  | _, _, .lst h t => .lst (s _ _ h) (t.same s)
  | _, _, .tup h t => .tup (s _ _ h) (t.same s)
theorem TkAll.same {H H' : Hp} (s : Same H H') : ∀ {vs : List V} {ds : List PyData}, TkAll H vs ds → TkAll H' vs ds
  | _, _, .nil => .nil
  | _, _, .cons h t => .cons (h.same s) (t.same s)
end
theorem TkAll.get {H : Hp} : ∀ {xs : List V} {ds : List PyData} {j : Nat} {x : V}, TkAll H xs ds → xs[j]? = some x → ∃ d, ds[j]? = some d ∧ Tk H x d
  | _, _, _, _, .nil, h => by simp at h
  | _, _, 0, _, .cons (d := d) a _, h => by
    cases (Option.some.inj h)
    exact ⟨d, rfl, a⟩
  | _, _, j + 1, _, .cons _ t, h => t.get h
theorem TkAll.append {H : Hp} : ∀ {xs ys : List V} {ds es : List PyData}, TkAll H xs ds → TkAll H ys es → TkAll H (xs ++ ys) (ds ++ es)
  | _, _, _, _, .nil, t => t
  | _, _, _, _, .cons a r, t => .cons a (r.append t)
theorem TkAll.ints {H : Hp} : ∀ ns : List Int, TkAll H (ns.map V.int) (ns.map PyData.int)
  | [] => .nil
  | n :: r => .cons (.int n) (TkAll.ints r)
theorem Tk.int_inv {H : Hp} {v : V} {i : Int} (h : Tk H v (.int i)) : v = .int i := by cases h; rfl
theorem Tk.tup_inv {H : Hp} {v : V} {ds : List PyData} (h : Tk H v (.tuple ds)) : ∃ a xs, v = .ref a ∧ H a = some (.tup xs) ∧ TkAll H xs ds := by
  cases h with
  | tup h t => exact ⟨_, _, rfl, h, t⟩
theorem Tk.lst_inv {H : Hp} {v : V} {ds : List PyData} (h : Tk H v (.list ds)) : ∃ a xs, v = .ref a ∧ H a = some (.lst xs) ∧ TkAll H xs ds := by
  cases h with
  | lst h t => exact ⟨_, _, rfl, h, t⟩
theorem TkAll.int_inv {H : Hp} : ∀ {vs : List V} {ns : List Int}, TkAll H vs (ns.map PyData.int) → vs = ns.map V.int
  | _, [], .nil => rfl
  | _, n :: r, .cons h t => by rw [List.map_cons, h.int_inv, t.int_inv]
/-- heaps without one place -/
def hd1 (p : Addr) (H : Hp) : Hp := fun b => if b = p then none else H b
theorem hd1_le {p : Addr} {H : Hp} : Same (hd1 p H) H := fun b o e => by
  unfold hd1 at e
  by_cases h : b = p
  · rw [if_pos h] at e; cases e
  · rw [if_neg h] at e; exact e
theorem hd1_same {p : Addr} {H H' : Hp} (s : Same H H') : Same (hd1 p H) (hd1 p H') := fun b o e => by
  unfold hd1 at e ⊢
  by_cases h : b = p
  · rw [if_pos h] at e; cases e
  · rw [if_neg h] at e ⊢; exact s _ _ e
theorem hd1_upd {p : Addr} {H : Hp} {o : HO} : Same (hd1 p H) (hd1 p (upd H p o)) := fun b x e => by
  unfold hd1 at e ⊢
  by_cases h : b = p
  · rw [if_pos h] at e; cases e
  · rw [if_neg h] at e ⊢; rw [upd_ne h]; exact e
theorem hd1_at {p b : Addr} {H : Hp} (h : b ≠ p) : hd1 p H b = H b := if_neg h
theorem hd1_of {p : Addr} {H H' : Hp} (s : Same H H') (n : H p = none) : Same H (hd1 p H') := fun b o e => by
  rw [hd1_at (ne_of_none e n)]
  exact s _ _ e
theorem same_of_hd1 {p : Addr} {H H' : Hp} {o : HO} (s : Same H (hd1 p H')) : Same H (upd H' p o) := fun b x e => by
  have z := s b x e
  unfold hd1 at z
  by_cases h : b = p
  · rw [if_pos h] at z; cases z
  · rw [if_neg h] at z; rw [upd_ne h]; exact z

/-! ### tables and gates -/
def tabOf (bs : List Bool) : Str := ⟨(bs.map fun b => if b = true then 49 else 48).toArray⟩
def plc (ws : List Int) : Int := ws.foldl (fun p w => 2 * p + w) 0
def gateM (bs : List Bool) (ws : List Int) : Int := if bs.getD (plc ws).toNat false = true then 1 else 0
theorem plc_snoc (ws : List Int) (w : Int) : plc (ws ++ [w]) = 2 * plc ws + w := by
  unfold plc
  rw [List.foldl_append]
  rfl
theorem plc_take {ws : List Int} {i : Nat} {u : Int} (h : ws[i]? = some u) : plc (ws.take (i + 1)) = 2 * plc (ws.take i) + u := by
  rw [List.take_add_one, h]
  exact plc_snoc _ _
theorem plc_bd : ∀ (n : Nat) (ws : List Int), ws.length = n → (∀ w ∈ ws, w = 0 ∨ w = 1) → 0 ≤ plc ws ∧ plc ws < 2 ^ n := by
  intro n
  induction n with
  | zero =>
    intro ws h _
    cases List.eq_nil_of_length_eq_zero h
    decide
  | succ n ih =>
    intro ws h hw
    have hne : ws ≠ [] := fun z => by rw [z] at h; cases h
    obtain ⟨r, x, rfl⟩ : ∃ r x, ws = r ++ [x] := ⟨ws.dropLast, ws.getLast hne, (List.dropLast_concat_getLast hne).symm⟩
    have hr := ih r (by rw [List.length_append] at h; simpa using h) fun w h' => hw w (List.mem_append_left _ h')
    have hx := hw x (by simp)
    rw [plc_snoc, Int.pow_succ]
    omega
theorem gate01 (bs : List Bool) (ws : List Int) : gateM bs ws = 0 ∨ gateM bs ws = 1 := by
  unfold gateM
  split
  · exact .inr rfl
  · exact .inl rfl
theorem int_sign (b : Bool) : PySem.intText? ⟨#[if b = true then 49 else 48]⟩ = some (if b = true then 1 else 0) := by
  cases b <;> decide +kernel
def spGate (K : PySem.W.Frag) : Sp := fun vs H Q _ => ∃ (bs : List Bool) (la : Addr) (ws : List Int), vs = [.str (tabOf bs), .ref la] ∧ SqL K H la (ws.map V.int) ∧ (∀ w ∈ ws, w = 0 ∨ w = 1) ∧ bs.length = 2 ^ ws.length ∧ ws.length ≤ 3 ∧ Q (.int (gateM bs ws)) H
theorem gate_read {bs : List Bool} {ws : List Int} (hw : ∀ w ∈ ws, w = 0 ∨ w = 1) (hb : bs.length = 2 ^ ws.length) (h3 : ws.length ≤ 3) : ∃ b : Bool, 0 ≤ plc ws ∧ plc ws < 2 ^ 63 ∧ plc ws < (tabOf bs).length ∧ (tabOf bs).cps[(plc ws).toNat]? = some (if b = true then 49 else 48) ∧ gateM bs ws = if b = true then 1 else 0 := by
  obtain ⟨p0, p1⟩ := plc_bd _ ws rfl hw
  have p8 : plc ws < 8 := by
    have : (2 : Int) ^ ws.length ≤ 8 := by
      have : ws.length = 0 ∨ ws.length = 1 ∨ ws.length = 2 ∨ ws.length = 3 := by omega
      rcases this with h | h | h | h <;> rw [h] <;> decide
    omega
  have hlt : (plc ws).toNat < bs.length := by
    have : ((2 ^ ws.length : Nat) : Int) = (2 : Int) ^ ws.length := by simp
    omega
  refine ⟨bs[(plc ws).toNat], p0, by omega, ?_, ?_, ?_⟩
  · have : (tabOf bs).length = bs.length := by simp [tabOf, Str.length]
    rw [this]
    omega
  · simp [tabOf, List.getElem?_eq_getElem hlt]
  · unfold gateM
    rw [List.getD_eq_getElem?_getD, List.getElem?_eq_getElem hlt]
    rfl

/-! ### walks -/
theorem gx_tup {α : Type} {K : PySem.W.Frag} {a : Addr} {xs : List V} {g : TG} {tt : TT} {te : TE} {vs : List Nat} {σ0 : L2.St} {End : α → Hp → Prop} {Yd : α → V → Hp → (α → Hp → Prop) → Prop} {a0 : α} {H0 : Hp} (Pv : Nat → α → Hp → Prop) (h0 : Pv 0 a0 H0)
    (hl : ∀ i c H, i ≤ xs.length → Pv i c H → SqT K H a xs)
    (hs : ∀ i x c H, xs[i]? = some x → Pv i c H → g x σ0 H fun σ2 H2 => wipe σ2 vs = σ0 ∧ tt σ2 H2 fun b H3 => if b = true then te σ2 H3 fun y H4 => Yd c y H4 (Pv (i + 1)) else Pv (i + 1) c H3) (hd : ∀ c H, Pv xs.length c H → End c H) :
    ∃ W : Nat → Nat → α → Hp → Prop, (∃ m, W 0 m a0 H0) ∧ tGx (Itt K a) g tt te σ0 vs End Yd W := by
  refine ⟨fun i m c H => m = xs.length - i ∧ i ≤ xs.length ∧ Pv i c H, ⟨xs.length, rfl, Nat.zero_le _, h0⟩, ?_⟩
  rintro i m c H ⟨rfl, hi, p⟩
  by_cases hlt : i < xs.length
  · have hx : xs[i]? = some xs[i] := List.getElem?_eq_getElem hlt
    refine .inr ⟨⟨xs, xs[i], hl i c H hi p, hx⟩, Pv (i + 1), fun c' H' p' => ⟨xs.length - (i + 1), by omega, rfl, hlt, p'⟩, fun x H' y => ?_⟩
    obtain ⟨rfl, y⟩ := y
    exact hs i x c _ (y xs (hl i c _ hi p)) p
  · have e : i = xs.length := by omega
    subst e
    exact .inl ⟨⟨xs, hl _ c H hi p, Nat.le_refl _⟩, hd c H p⟩
theorem lc_zipT {K : PySem.W.Frag} {a b : Addr} {xs ys : List V} {g : TG} {tt : TT} {te : TE} {vs : List Nat} {σ : L2.St} {H1 : Hp} {D : Addr} {Qd : Hp → Prop} (el : xs.length = ys.length) (Pv : Nat → Hp → Prop) (h0 : Pv 0 (upd H1 D (.lst []))) (hl : ∀ i H, i ≤ xs.length → Pv i H → SqT K H a xs ∧ SqT K H b ys)
    (hs : ∀ i x y T H, xs[i]? = some x → ys[i]? = some y → H T = none → Pv i H → g (.ref T) (wipe σ vs) (upd H T (.tup [x, y])) fun σ2 H2 => wipe σ2 vs = wipe σ vs ∧ tt σ2 H2 fun b H3 =>
      if b = true then te σ2 H3 fun y H4 => ∃ acc, H4 D = some (.lst acc) ∧ acc.length < sizeLine ∧ Pv (i + 1) (upd H4 D (.lst (acc ++ [y]))) else Pv (i + 1) H3) (hd : ∀ H, Pv xs.length H → Qd H) :
    ∃ W : Nat → Nat → Hp → Prop, (∃ m, W 0 m (upd H1 D (.lst []))) ∧ ∀ i m H, W i m H →
      ((RZ.ItzT K a b).stop i H ∧ Qd H) ∨ ((RZ.ItzT K a b).go i H ∧ ∃ Nx : Hp → Prop, (∀ H', Nx H' → ∃ m', m' < m ∧ W (i + 1) m' H') ∧ ∀ x H', (RZ.ItzT K a b).yld i H x H' → g x (wipe σ vs) H' fun σ2 H2 => wipe σ2 vs = wipe σ vs ∧ tt σ2 H2 fun b H3 =>
        if b = true then te σ2 H3 fun y H4 => ∃ acc, H4 D = some (.lst acc) ∧ acc.length < sizeLine ∧ Nx (upd H4 D (.lst (acc ++ [y]))) else Nx H3) := by
  refine ⟨fun i m H => m = xs.length - i ∧ i ≤ xs.length ∧ Pv i H, ⟨xs.length, by simp, Nat.zero_le _, h0⟩, ?_⟩
  rintro i m H ⟨rfl, hi, p⟩
  obtain ⟨qx, qy⟩ := hl i H hi p
  by_cases hlt : i < xs.length
  · have hx : xs[i]? = some xs[i] := List.getElem?_eq_getElem hlt
    have hy : ys[i]? = some (ys[i]'(by omega)) := List.getElem?_eq_getElem _
    refine .inr ⟨⟨xs, ys, _, _, qx, qy, hx, hy⟩, Pv (i + 1), fun H' p' => ⟨xs.length - (i + 1), by omega, rfl, hlt, p'⟩, fun x H' y => ?_⟩
    obtain ⟨T, x1, y1, rfl, nT, rfl, e1, e2⟩ := y
    exact hs i x1 y1 T H (e1 xs qx) (e2 ys qy) nT p
  · have e : i = xs.length := by omega
    subst e
    exact .inl ⟨⟨xs, ys, qx, qy, .inl (Nat.le_refl _)⟩, hd H p⟩

/-! ### nets, and the words of nets -/
abbrev Gt := List Bool × List Nat
def gD (g : Gt) : PyData := .tuple [.str (tabOf g.1), .tuple ((g.2.map Int.ofNat).map PyData.int)]
def netD (many : Int) (gs : List Gt) : PyData := .tuple [.int many, .tuple (gs.map gD)]
def rowD (r : List Int) : PyData := .tuple (r.map PyData.int)
def chD (a b : List Int) : PyData := .tuple [rowD a, rowD b]
def GtOk (n : Nat) (g : Gt) : Prop := g.1.length = 2 ^ g.2.length ∧ 1 ≤ g.2.length ∧ g.2.length ≤ 3 ∧ ∀ i ∈ g.2, i < n
def NetOk (n : Nat) (gs : List Gt) : Prop := ∀ k g, gs[k]? = some g → GtOk (n + k) g
def Row01 (r : List Int) : Prop := ∀ x ∈ r, x = 0 ∨ x = 1
mutual
theorem Tk.gr {H H' : Hp} (s : Gr H H') : ∀ {v : V} {d : PyData}, Tk H v d → Tk H' v d
  | _, _, .bl b => .bl b
  | _, _, .int i => .int i
  | _, _, .str x => .str x
  | _, _, .lst h t => .lst (s.lst h) (t.gr s)
  | _, _, .tup h t => .tup (s.tup h) (t.gr s)
theorem TkAll.gr {H H' : Hp} (s : Gr H H') : ∀ {vs : List V} {ds : List PyData}, TkAll H vs ds → TkAll H' vs ds
  | _, _, .nil => .nil
  | _, _, .cons h t => .cons (h.gr s) (t.gr s)
end
theorem Tk.row_inv {H : Hp} {v : V} {r : List Int} (h : Tk H v (rowD r)) : ∃ a, v = .ref a ∧ H a = some (.tup (r.map V.int)) := by
  obtain ⟨a, xs, rfl, ha, t⟩ := h.tup_inv
  rw [t.int_inv] at ha
  exact ⟨a, rfl, ha⟩
theorem Tk.ch_inv {H : Hp} {v : V} {a b : List Int} (h : Tk H v (chD a b)) : ∃ c ra rb, v = .ref c ∧ H c = some (.tup [.ref ra, .ref rb]) ∧ H ra = some (.tup (a.map V.int)) ∧ H rb = some (.tup (b.map V.int)) := by
  obtain ⟨c, xs, rfl, hc, t⟩ := h.tup_inv
  cases t with
  | cons h1 t => cases t with
    | cons h2 t =>
      cases t
      obtain ⟨ra, rfl, ha⟩ := h1.row_inv
      obtain ⟨rb, rfl, hb⟩ := h2.row_inv
      exact ⟨c, ra, rb, rfl, hc, ha, hb⟩
theorem Tk.net_inv {H : Hp} {v : V} {m : Int} {gs : List Gt} (h : Tk H v (netD m gs)) : ∃ n g xs, v = .ref n ∧ H n = some (.tup [.int m, .ref g]) ∧ H g = some (.tup xs) ∧ TkAll H xs (gs.map gD) := by
  obtain ⟨n, xs, rfl, hn, t⟩ := h.tup_inv
  cases t with
  | cons h1 t => cases t with
    | cons h2 t =>
      cases t
      cases h1
      obtain ⟨g, ys, rfl, hg, t2⟩ := h2.tup_inv
      exact ⟨n, g, ys, rfl, hn, hg, t2⟩
theorem Tk.gt_inv {H : Hp} {v : V} {g : Gt} (h : Tk H v (gD g)) : ∃ a i, v = .ref a ∧ H a = some (.tup [.str (tabOf g.1), .ref i]) ∧ H i = some (.tup ((g.2.map Int.ofNat).map V.int)) := by
  obtain ⟨a, xs, rfl, ha, t⟩ := h.tup_inv
  cases t with
  | cons h1 t => cases t with
    | cons h2 t =>
      cases t
      cases h1
      obtain ⟨i, rfl, hi⟩ := (show Tk H _ (rowD (g.2.map Int.ofNat)) from h2).row_inv
      exact ⟨a, i, rfl, ha, hi⟩
theorem TkAll.at {H : Hp} {α : Type} {f : α → PyData} {xs : List V} {ds : List α} (t : TkAll H xs (ds.map f)) {j : Nat} {v : V} (h : xs[j]? = some v) : ∃ x, ds[j]? = some x ∧ Tk H v (f x) := by
  obtain ⟨dx, hdx, tx⟩ := t.get h
  rw [List.getElem?_map] at hdx
  cases hz : ds[j]? with
  | none => rw [hz] at hdx; cases hdx
  | some x =>
    rw [hz] at hdx
    cases Option.some.inj hdx
    exact ⟨x, rfl, tx⟩
theorem TkAll.at' {H : Hp} {α : Type} {f : α → PyData} {xs : List V} {ds : List α} (t : TkAll H xs (ds.map f)) {j : Nat} {x : α} (h : ds[j]? = some x) : ∃ v, xs[j]? = some v ∧ Tk H v (f x) := by
  have hl := t.length
  rw [List.length_map] at hl
  have hj := (List.getElem?_eq_some_iff.mp h).1
  obtain ⟨y, hy, ty⟩ := t.at (List.getElem?_eq_getElem (l := xs) (i := j) (by omega))
  cases Option.some.inj (h.symm.trans hy)
  exact ⟨_, List.getElem?_eq_getElem _, ty⟩
theorem grow_upd {H H' : Hp} {p : Addr} {o : HO} (g : Gr H H') (n : H' p = none) : Gr H (upd H' p o) := g.trans (Gr.none n)
/-- no table, no older list: only the list at D is written -/
def GrD (D : Addr) (H H' : Hp) : Prop := Gr H (hd1 D H')
theorem GrD.gr {D : Addr} {H H' : Hp} (g : GrD D H H') : Gr H H' := g.trans (Gr.of hd1_le)
theorem TabG_hd1 {D P : Addr} {H : Hp} (h : GxR.TabG H P) (n : D ≠ P) : GxR.TabG (hd1 D H) P := by
  obtain ⟨ps, e, t⟩ := h
  exact ⟨ps, by rw [hd1_at (Ne.symm n)]; exact e, t⟩
theorem GrD.new {D : Addr} {H : Hp} {o : HO} (n : H D = none) : GrD D H (upd H D o) := Gr.of (hd1_of (same_upd n) n)
theorem hd1_gr {D : Addr} {H H' : Hp} (g : Gr H H') (hD : ∀ P, GxR.TabG H P → D ≠ P) : Gr (hd1 D H) (hd1 D H') := by
  refine ⟨fun b o n e => ?_, fun b t => ?_⟩
  · have hb : b ≠ D := fun z => by
      unfold hd1 at e
      rw [if_pos z] at e; cases e
    rw [hd1_at hb] at e ⊢
    exact g.1 b o n e
  · obtain ⟨ps, e, t⟩ := t
    have e' := hd1_le _ _ e
    exact TabG_hd1 (g.2 b ⟨ps, e', t⟩) (hD b ⟨ps, e', t⟩)
theorem GrD.then {D : Addr} {H H1 H2 : Hp} {xs : List V} (a : GrD D H H1) (hD : H1 D = some (.lst xs)) (b : Gr H1 H2) : GrD D H H2 := a.trans (hd1_gr b fun P ⟨ps, e, _⟩ z => by
  rw [← z, hD] at e
  cases e)
theorem GrD.set {D : Addr} {H H1 : Hp} {o : HO} (a : GrD D H H1) : GrD D H (upd H1 D o) := a.trans (Gr.of hd1_upd)

end Gk

set_option Elab.async false
set_option linter.all false
set_option maxRecDepth 100000
set_option maxHeartbeats 1000000
set_option pp.maxSteps 1500
namespace Gk
open PySem PySem.Spec PyProof.Rows L2
/-! ### xs[lo::st] of a list -/
namespace SlSt
def pickL {α : Type} (xs : List α) (lo hi st : Option Int) : List α :=
  (sliceRange (sliceBounds lo hi st xs.length).1 (sliceBounds lo hi st xs.length).2.1 (sliceBounds lo hi st xs.length).2.2).filterMap (xs[·]?)
theorem pick_mem {α : Type} {xs : List α} {lo hi st : Option Int} : ∀ x ∈ pickL xs lo hi st, x ∈ xs := fun x hx => by
  unfold pickL at hx
  obtain ⟨i, _, hi⟩ := List.mem_filterMap.mp hx
  exact List.mem_of_getElem? hi
theorem vals_at : ∀ {xs : List V} {us : List Value}, Vals xs us → ∀ i : Nat, (xs[i]? = none ∧ us[i]? = none) ∨ ∃ x u, xs[i]? = some x ∧ us[i]? = some u ∧ RelV x u
  | _, _, .nil, _ => .inl ⟨rfl, rfl⟩
  | _, _, .cons a _, 0 => .inr ⟨_, _, rfl, rfl, a⟩
  | _, _, .cons _ t, i + 1 => by
    rw [List.getElem?_cons_succ, List.getElem?_cons_succ]
    exact vals_at t i
theorem vals_pick {xs : List V} {us : List Value} (r : Vals xs us) : ∀ ks : List Nat, Vals (ks.filterMap (xs[·]?)) (ks.filterMap (us[·]?))
  | [] => .nil
  | k :: ks => by
    have ih := vals_pick r ks
    rcases vals_at r k with ⟨h1, h2⟩ | ⟨x, u, h1, h2, z⟩
    · rw [List.filterMap_cons_none h1, List.filterMap_cons_none h2]
      exact ih
    · rw [List.filterMap_cons_some h1, List.filterMap_cons_some h2]
      exact .cons z ih
section
variable {X : Cx}
def tSlSt (K : PySem.W.Frag) (te : TE) (tl ts : TO) : TE := fun σ H Q => te σ H fun x H1 => tl σ H1 fun l H2 => ts σ H2 fun st H3 => ∃ a xs, x = .ref a ∧ SqL K H3 a xs ∧ st ≠ some 0 ∧ ∀ p, H3 p = none → Q (.ref p) (upd H3 p (.lst (pickL xs l none st)))
theorem pe_sliceSt {e : Expr} {te : TE} {lo : Option Expr} {st : Expr} {tl ts : TO} {p3 pos : Pos} (he : PE X e te) (hl : PO X lo tl) (hs : PO X (some st) ts) : PE X (.Subscript e (.Slice lo none (some st) p3) pos) (tSlSt X.K te tl ts) := by
  refine ⟨fun pins s σ H Q I h => ?_⟩
  refine Subscript_ (thn (he.run pins s σ H _ I h) fun v s1 ⟨x, H1, I1, r1, q1⟩ => ?_)
  refine wpAny_Slice (thn (hl.run pins s1 σ H1 _ I1 q1) fun vl s2 ⟨l, H2, I2, pl, q2⟩ => ?_)
  refine thn (po_none.run pins s2 σ H2 (fun o H3 => o = none ∧ H3 = H2) I2 ⟨rfl, rfl⟩) fun vu s3 ⟨u, H3, I3, pu, eu, e3⟩ => ?_
  subst eu e3
  refine thn (hs.run pins s3 σ H3 _ I3 q2) fun vs s4 ⟨o, H4, I4, ps, q4⟩ => ?_
  obtain ⟨a, xs, ex, hx, h0, q⟩ := q4
  subst ex
  cases r1
  have I5 : Inv X pins σ H4 { s4 with heap := s4.heap.push { cls := .type "slice", data := .fields #[vl, vu, vs] } } := I4.kept (t' := s4.toks) fun b ob q => Heap.get?_push_of_some _ q
  obtain ⟨its, r, ht, hz⟩ := I5.list hx
  have hlen := r.length
  show wpAny (model X.prog X.w) X.A (subscriptTail e (.Slice lo none (some st) p3) (.ref a) (.ref s4.heap.objs.size)) (EP X pins σ Q) X.xe { s4 with heap := s4.heap.push { cls := .type "slice", data := .fields #[vl, vu, vs] } }
  refine tail_any (ops := [.ref a, .ref s4.heap.objs.size]) ht.isList.typeIs (PySem.slot_list_getitem.lookup) ?_ (by with_unfolding_all rfl)
  refine wpAny_getItem_list_slice ht.isList (Heap.IsSliceOf.new _ vl vu vs) pl pu ps h0 ?_ (by rw [List.size_toArray]; omega)
  have e1 : slicePick its.toArray l none o = ((sliceRange (sliceBounds l none o xs.length).1 (sliceBounds l none o xs.length).2.1 (sliceBounds l none o xs.length).2.2).filterMap (its[·]?)).toArray := by
    unfold slicePick
    rw [List.size_toArray, hlen]
    have e0 : ∀ i : Nat, its.toArray[i]? = its[i]? := fun i => List.getElem?_toArray
    rw [funext e0]
  have hsz := slicePick_size_le its.toArray l none o
  rw [List.size_toArray] at hsz
  rw [e1] at hsz
  simp only [List.size_toArray] at hsz
  rw [e1]
  have rv := vals_pick r (sliceRange (sliceBounds l none o xs.length).1 (sliceBounds l none o xs.length).2.1 (sliceBounds l none o xs.length).2.2)
  have lp := rv.length
  refine ⟨.ref _, _, I5.laid (t' := s4.toks) (o := .lst (pickL xs l none o)) (fun b ob q => Heap.get?_push_of_some _ q) (Nat.le_refl _) ?_, rfl, q _ (I5.hok.fresh (Nat.le_refl _))⟩
  refine ⟨?_, _, 0, rv, Heap.get?_push_size _ rfl⟩
  show (List.filterMap _ _).length ≤ _
  omega
end
end SlSt

end Gk

set_option Elab.async false
set_option linter.all false
set_option maxRecDepth 100000
set_option maxHeartbeats 1000000
set_option pp.maxSteps 1500
namespace Gk
open PySem PySem.Spec PyProof.Rows L2
/-! ### zip of two or three texts, tuples, lists -/
namespace ZpG
open PySem PySem.Spec PyProof.Rows L2
inductive ZS where
  | tx (x : PySem.Str)
  | tu (a : Addr)
  | li (a : Addr)
def ZS.val : ZS → V
  | .tx x => .str x
  | .tu a => .ref a
  | .li a => .ref a
def ZS.at (K : PySem.W.Frag) : ZS → Hp → List V → Prop
  | .tx x, _, xs => xs = x.cps.toList.map fun c => V.str ⟨#[c]⟩
  | .tu a, H, xs => SqT K H a xs
  | .li a, H, xs => SqL K H a xs
def ZS.it : ZS → Addr → Nat → Heap → Prop
  | .tx x, it, i, h => ∃ t, h.IsStrIter it (strIterType x) x t i
  | .tu a, it, i, h => h.IsTupleIter it a i
  | .li a, it, i, h => h.IsListIter it a i
def ZS.lt : ZS → Nat → Prop
  | .tx _, _ => True
  | .tu a, n => a < n
  | .li a, n => a < n
def ZS.off : ZS → Addr → Prop
  | .tx _, _ => True
  | .tu a, c => a ≠ c
  | .li a, c => a ≠ c
theorem ne' {a b : Nat} (h : a ≠ b) : @Ne Addr a b := h
theorem ZS.off_of {n c : Nat} (hc : n ≤ c) : ∀ {z : ZS}, z.lt n → z.off c
  | .tx _, _ => trivial
  | .tu _, h => Nat.ne_of_lt (Nat.lt_of_lt_of_le h hc)
  | .li _, h => Nat.ne_of_lt (Nat.lt_of_lt_of_le h hc)
theorem ZS.obj {it : Addr} {i : Nat} {h : Heap} : ∀ {z : ZS}, z.it it i h → ∃ o, h.get? it = some o ∧ ∀ v, o.data ≠ .cell v
  | .tx _, ⟨_, o, e, _, d⟩ => ⟨o, e, fun v q => by rw [d] at q; cases q⟩
  | .tu _, ⟨o, e, _, d⟩ => ⟨o, e, fun v q => by rw [d] at q; cases q⟩
  | .li _, ⟨o, e, _, d⟩ => ⟨o, e, fun v q => by rw [d] at q; cases q⟩
theorem ZS.move {it : Addr} {i : Nat} {h h' : Heap} (k : ∀ o, h.get? it = some o → h'.get? it = some o) : ∀ {z : ZS}, z.it it i h → z.it it i h'
  | .tx _, ⟨t, o, e, r⟩ => ⟨t, o, k o e, r⟩
  | .tu _, ⟨o, e, r⟩ => ⟨o, k o e, r⟩
  | .li _, ⟨o, e, r⟩ => ⟨o, k o e, r⟩
section
variable {X : Cx} {pins : List (Addr × Obj)} {σ : L2.St} {H : Hp} {s : Shared}
theorem ZS.inj (I : Inv X pins σ H s) {z : ZS} {xs ys : List V} (h1 : z.at X.K H xs) (h2 : z.at X.K H ys) : xs = ys := by
  cases z with
  | tx x =>
    have e1 : xs = _ := h1
    have e2 : ys = _ := h2
    rw [e1, e2]
  | tu a => exact I.tuple_inj h1 h2
  | li a => exact I.list_inj h1 h2
theorem ZS.draws {A : Around} {it : Addr} {i : Nat} {xs : List V} (z : ZS) (I : Inv X pins σ H s) (hq : z.at X.K H xs) (hh : A.handled = none) (off : z.off it) (st : z.it it i s.heap) :
    ∃ (fp : List Addr) (P : Nat → Value → Prop) (St : Nat → Heap → Prop), Draws X.prog X.w A it fp xs.length P St ∧ it ∈ fp ∧ (∀ c, c ∈ fp → c = it ∨ ¬ z.off c) ∧ St i s.heap ∧ (∀ j h, St j h → z.it it j h) ∧ ∀ j v, P j v → ∃ x, xs[j]? = some x ∧ RelV x v := by
  cases z with
  | tx x =>
    obtain ⟨t, st⟩ := st
    have e : xs = x.cps.toList.map fun c => V.str ⟨#[c]⟩ := hq
    have el : xs.length = x.cps.size := by rw [e, List.length_map, Array.length_toList]
    refine ⟨[it], fun i v => ∃ c u, x.cps[i]? = some c ∧ v = .str ⟨#[c]⟩ u, fun i h => h.IsStrIter it (strIterType x) x t i, ?_, List.mem_cons_self, fun c hc => .inl (List.mem_singleton.mp hc), st, fun j h q => ⟨t, q⟩, fun j v p => ?_⟩
    · rw [el]
      exact Draws.text hh it x t
    · obtain ⟨c, u, hc, rfl⟩ := p
      refine ⟨.str ⟨#[c]⟩, ?_, ⟨u, rfl⟩⟩
      rw [e, List.getElem?_map, Array.getElem?_toList, hc]
      rfl
  | tu a =>
    obtain ⟨its, rv, p, _⟩ := I.tuple hq
    have hl := rv.length
    refine ⟨[it, a], fun i v => its.toArray[i]? = some v, fun i h => h.IsTupleIter it a i ∧ h.IsTuple a its.toArray, ?_, List.mem_cons_self, fun c hc => ?_, ⟨st, p⟩, fun j h q => q.1, fun j v q => ?_⟩
    · rw [hl, ← List.size_toArray]
      exact Draws.tuple hh it a off its.toArray
    · rcases List.mem_cons.mp hc with e | e
      · exact .inl e
      · refine .inr fun q => ?_
        rw [List.mem_singleton.mp e] at q
        exact q rfl
    · have q : its[j]? = some v := by simpa using q
      have hj := (List.getElem?_eq_some_iff.mp q).1
      have hx : xs[j]? = some (xs[j]'(by omega)) := List.getElem?_eq_getElem _
      obtain ⟨u, hu, ru⟩ := rv.get hx
      rw [q] at hu
      cases Option.some.inj hu
      exact ⟨_, hx, ru⟩
  | li a =>
    obtain ⟨its, rv, p, _⟩ := I.list hq
    have hl := rv.length
    refine ⟨[it, a], fun i v => its.toArray[i]? = some v, fun i h => h.IsListIter it a i ∧ h.IsList a its.toArray, ?_, List.mem_cons_self, fun c hc => ?_, ⟨st, p.isList⟩, fun j h q => q.1, fun j v q => ?_⟩
    · rw [hl, ← List.size_toArray]
      exact Draws.list hh it a off its.toArray
    · rcases List.mem_cons.mp hc with e | e
      · exact .inl e
      · refine .inr fun q => ?_
        rw [List.mem_singleton.mp e] at q
        exact q rfl
    · have q : its[j]? = some v := by simpa using q
      have hj := (List.getElem?_eq_some_iff.mp q).1
      have hx : xs[j]? = some (xs[j]'(by omega)) := List.getElem?_eq_getElem _
      obtain ⟨u, hu, ru⟩ := rv.get hx
      rw [q] at hu
      cases Option.some.inj hu
      exact ⟨_, hx, ru⟩
theorem ZS.begins {v : Value} {xs : List V} (z : ZS) (I : Inv X pins σ H s) (hq : z.at X.K H xs) (r : RelV z.val v) : ∃ o Hh, Begins v o Hh ∧ Hh s.heap ∧ (∀ it h, h.get? it = some o → z.it it 0 h) ∧ z.lt s.heap.objs.size := by
  cases z with
  | tx x =>
    obtain ⟨t, rfl⟩ := (show ∃ t, v = Value.str x t from r)
    exact ⟨_, _, begins_text x t, trivial, fun it h e => ⟨t, _, e, rfl, rfl⟩, trivial⟩
  | tu a =>
    cases (show v = Value.ref a from r)
    obtain ⟨its, rv, p, _⟩ := I.tuple hq
    obtain ⟨o1, ho1, _⟩ := id p
    exact ⟨_, _, begins_tuple a its.toArray, p, fun it h e => ⟨_, e, rfl, rfl⟩, Heap.lt_size ho1⟩
  | li a =>
    cases (show v = Value.ref a from r)
    obtain ⟨its, rv, p, _⟩ := I.list hq
    exact ⟨_, _, begins_list a its.toArray, p.isList, fun it h e => ⟨_, e, rfl, rfl⟩, p.lt⟩
end
def Itz2 (K : PySem.W.Frag) (z1 z2 : ZS) : It :=
  ⟨fun i H => ∃ (xs1 xs2 : List V) (x1 x2 : V), z1.at K H xs1 ∧ z2.at K H xs2 ∧ xs1[i]? = some x1 ∧ xs2[i]? = some x2,
    fun i H v H' => ∃ T x1 x2, v = .ref T ∧ H T = none ∧ H' = upd H T (.tup [x1, x2]) ∧ (∀ xs, z1.at K H xs → xs[i]? = some x1) ∧ (∀ xs, z2.at K H xs → xs[i]? = some x2),
    fun i H => ∃ xs1 xs2 : List V, z1.at K H xs1 ∧ z2.at K H xs2 ∧ i ≤ xs1.length ∧ i ≤ xs2.length ∧ (i = xs1.length ∨ i = xs2.length)⟩
theorem turn_zip2 {P : Program} {w : World} {K : PySem.W.Frag} {elts : List Expr} {kk : Nat} {tpos : Pos} {z1 z2 : ZS} {n : Nat} (l1 : z1.lt n) (l2 : z2.lt n) :
    Turn P w K (.Tuple elts kk tpos) (Itz2 K z1 z2) [n + 4, n + 2, n + 3, n, n + 1] (n + 4) (fun i h => IsZip h (n + 4) (n + 2) (n + 3) .none ∧ IsTupOf2 h (n + 2) (.ref (n)) (.ref (n + 1)) ∧ (∃ x1 x2, IsTupOf2 h (n + 3) x1 x2) ∧ z1.it (n) i h ∧ z2.it (n + 1) i h) where
  mem := List.mem_cons_self
  obj := fun i h st c hc => by
    obtain ⟨hz, hTI, ⟨x1, x2, hTO⟩, st1, st2⟩ := st
    have e' : c = n + 4 ∨ c = n + 2 ∨ c = n + 3 ∨ c = n ∨ c = n + 1 := by simpa using hc
    rcases e' with q | q | q | q | q
    · rw [q]; exact ⟨_, hz, fun v q => nomatch q⟩
    · rw [q]; exact ⟨_, hTI, fun v q => nomatch q⟩
    · rw [q]; exact ⟨_, hTO, fun v q => nomatch q⟩
    · rw [q]; exact ZS.obj (z := z1) st1
    · rw [q]; exact ZS.obj (z := z2) st2
  keep := fun i h h' st k => by
    obtain ⟨hz, hTI, ⟨x1, x2, hTO⟩, st1, st2⟩ := st
    exact ⟨k _ (by simp) _ hz, k _ (by simp) _ hTI, ⟨x1, x2, k _ (by simp) _ hTO⟩, ZS.move (z := z1) (fun o q => k _ (by simp) o q) st1, ZS.move (z := z2) (fun o q => k _ (by simp) o q) st2⟩
  item := by
    intro X hP hw hK hc i pins s σ H E I hf st hg
    subst hP hw hK
    obtain ⟨hz, hTI, ⟨y1, y2, hTO⟩, st1, st2⟩ := st
    obtain ⟨xs1, xs2, x1, x2, q1, q2, h1, h2⟩ := hg
    have hh : X.A.in1.handled = none := I.ok.hd hc
    obtain ⟨fp1, P1, St1, D1, m1, f1, s1, b1, p1⟩ := z1.draws (A := X.A.in1) I q1 hh (ZS.off_of (by omega) l1) st1
    have nf1 : ∀ c, n ≤ c → c ≠ n → c ∉ fp1 := fun c h1 h2 h3 => by
      rcases f1 c h3 with e | e
      · exact h2 e
      · exact e (ZS.off_of h1 l1)
    obtain ⟨fp2, P2, St2, D2, m2, f2, s2, b2, p2⟩ := z2.draws (A := X.A.in1) I q2 hh (ZS.off_of (by omega) l2) st2
    have nf2 : ∀ c, n ≤ c → c ≠ n + 1 → c ∉ fp2 := fun c h1 h2 h3 => by
      rcases f2 c h3 with e | e
      · exact h2 e
      · exact e (ZS.off_of h1 l2)
    have t1 : i < xs1.length := (List.getElem?_eq_some_iff.mp h1).1
    have t2 : i < xs2.length := (List.getElem?_eq_some_iff.mp h2).1
    have hzl : n + 4 < s.heap.objs.size := Heap.lt_size hz
    have S : ZipSep2 (n + 4) (n + 2) (n + 3) (n) (n + 1) fp1 fp2 := { TIz := (ne' (a := n + 2) (b := n + 4) (by omega)), TOz := (ne' (a := n + 3) (b := n + 4) (by omega)), TITO := (ne' (a := n + 2) (b := n + 3) (by omega)), TIi1 := (ne' (a := n + 2) (b := n) (by omega)), mem1 := m1, zf1 := nf1 (n + 4) (by omega) (ne' (a := n + 4) (b := n) (by omega)), Tf1 := nf1 (n + 3) (by omega) (ne' (a := n + 3) (b := n) (by omega)), TIi2 := (ne' (a := n + 2) (b := n + 1) (by omega)), mem2 := m2, zf2 := nf2 (n + 4) (by omega) (ne' (a := n + 4) (b := n + 1) (by omega)), Tf2 := nf2 (n + 3) (by omega) (ne' (a := n + 3) (b := n + 1) (by omega)), sep1_2 := nf2 (n) (by omega) (ne' (a := n) (b := n + 1) (by omega)), sep2_1 := nf1 (n + 1) (by omega) (ne' (a := n + 1) (b := n) (by omega)) }
    refine wpAny_pyNext_zipD2_item S D1 D2 hz hTI hTO s1 s2 t1 t2 fun u1 u2 h' tk g1 g2 z' TO' w1 w2 hT hsz hk => ?_
    refine ⟨_, rfl, wpAny_letOwnedTupleGo_zip (s := { s with heap := h', toks := tk }) z' fun h'' z'' sb => ?_⟩
    obtain ⟨x1', e1, ru1⟩ := p1 i u1 g1
    rw [h1] at e1
    cases Option.some.inj e1
    obtain ⟨x2', e2, ru2⟩ := p2 i u2 g2
    rw [h2] at e2
    cases Option.some.inj e2
    have hT2 : h''.get? s.heap.objs.size = some { cls := .type "tuple", data := .seq #[u1, u2] } := (sb.2 _ (Nat.ne_of_gt hzl)).trans hT
    have new : ObjOk X.prog X.w (upd H s.heap.objs.size (.tup [x1, x2])) h'' s.heap.objs.size (.tup [x1, x2]) :=
      ⟨by show 2 ≤ sizeLine; decide, [u1, u2], .cons ru1 (.cons ru2 (.nil)), ⟨_, hT2, rfl, _, rfl⟩⟩
    have out5 : ∀ c, c ∉ [n + 4, n + 2, n + 3, n, n + 1] → c ≠ n + 4 ∧ c ≠ n + 3 ∧ c ≠ n ∧ c ≠ n + 1 := fun c hb => ⟨fun q' => hb (by simp [q']), fun q' => hb (by simp [q']), fun q' => hb (by simp [q']), fun q' => hb (by simp [q'])⟩
    have I1 : Inv X pins σ (upd H s.heap.objs.size (.tup [x1, x2])) { s with heap := h'', toks := tk } :=
      I.turnedNew (t' := tk) (ch := [n + 4, n + 2, n + 3, n, n + 1]) (fun c o hb q => by
        obtain ⟨a1, a2, b1', b2'⟩ := out5 c hb
        exact (sb.2 c a1).trans (hk c o a1 a2 b1' b2' q)) hf (Nat.le_refl _) new
    refine ⟨.ref s.heap.objs.size, _, I1, rfl, ⟨_, x1, x2, rfl, I.hok.fresh (Nat.le_refl _), rfl, fun l hl => by rw [ZS.inj I hl q1]; exact h1, fun l hl => by rw [ZS.inj I hl q2]; exact h2⟩, ⟨z'', ?_, ⟨u1, u2, ?_⟩, ?_, ?_⟩, fun c hcm => ?_⟩
    · exact (sb.2 (n + 2) (ne' (a := n + 2) (b := n + 4) (by omega))).trans (hk (n + 2) _ (ne' (a := n + 2) (b := n + 4) (by omega)) (ne' (a := n + 2) (b := n + 3) (by omega)) (ne' (a := n + 2) (b := n) (by omega)) (ne' (a := n + 2) (b := n + 1) (by omega)) hTI)
    · exact (sb.2 (n + 3) (ne' (a := n + 3) (b := n + 4) (by omega))).trans TO'
    · exact ZS.move (z := z1) (fun o q => (sb.2 (n) (ne' (a := n) (b := n + 4) (by omega))).trans q) (b1 _ _ w1)
    · exact ZS.move (z := z2) (fun o q => (sb.2 (n + 1) (ne' (a := n + 1) (b := n + 4) (by omega))).trans q) (b2 _ _ w2)
    · have hlt : c < s.heap.objs.size := by
        have e' : c = n + 4 ∨ c = n + 2 ∨ c = n + 3 ∨ c = n ∨ c = n + 1 := by simpa using hcm
        rcases e' with q | q | q | q | q
        · rw [q]; exact (show (n + 4 : Nat) < s.heap.objs.size by omega)
        · rw [q]; exact (show (n + 2 : Nat) < s.heap.objs.size by omega)
        · rw [q]; exact (show (n + 3 : Nat) < s.heap.objs.size by omega)
        · rw [q]; exact (show (n : Nat) < s.heap.objs.size by omega)
        · rw [q]; exact (show (n + 1 : Nat) < s.heap.objs.size by omega)
      rw [upd_ne (Nat.ne_of_lt hlt)]
      exact (hf c hcm).1
  done := by
    intro X hP hw hK hc i pins s σ H E I hf st hg
    subst hP hw hK
    obtain ⟨hz, hTI, ⟨y1, y2, hTO⟩, st1, st2⟩ := st
    obtain ⟨xs1, xs2, q1, q2, t1, t2, hend⟩ := hg
    have hh : X.A.in1.handled = none := I.ok.hd hc
    obtain ⟨fp1, P1, St1, D1, m1, f1, s1, b1, p1⟩ := z1.draws (A := X.A.in1) I q1 hh (ZS.off_of (by omega) l1) st1
    have nf1 : ∀ c, n ≤ c → c ≠ n → c ∉ fp1 := fun c h1 h2 h3 => by
      rcases f1 c h3 with e | e
      · exact h2 e
      · exact e (ZS.off_of h1 l1)
    obtain ⟨fp2, P2, St2, D2, m2, f2, s2, b2, p2⟩ := z2.draws (A := X.A.in1) I q2 hh (ZS.off_of (by omega) l2) st2
    have nf2 : ∀ c, n ≤ c → c ≠ n + 1 → c ∉ fp2 := fun c h1 h2 h3 => by
      rcases f2 c h3 with e | e
      · exact h2 e
      · exact e (ZS.off_of h1 l2)
    have S : ZipSep2 (n + 4) (n + 2) (n + 3) (n) (n + 1) fp1 fp2 := { TIz := (ne' (a := n + 2) (b := n + 4) (by omega)), TOz := (ne' (a := n + 3) (b := n + 4) (by omega)), TITO := (ne' (a := n + 2) (b := n + 3) (by omega)), TIi1 := (ne' (a := n + 2) (b := n) (by omega)), mem1 := m1, zf1 := nf1 (n + 4) (by omega) (ne' (a := n + 4) (b := n) (by omega)), Tf1 := nf1 (n + 3) (by omega) (ne' (a := n + 3) (b := n) (by omega)), TIi2 := (ne' (a := n + 2) (b := n + 1) (by omega)), mem2 := m2, zf2 := nf2 (n + 4) (by omega) (ne' (a := n + 4) (b := n + 1) (by omega)), Tf2 := nf2 (n + 3) (by omega) (ne' (a := n + 3) (b := n + 1) (by omega)), sep1_2 := nf2 (n) (by omega) (ne' (a := n) (b := n + 1) (by omega)), sep2_1 := nf1 (n + 1) (by omega) (ne' (a := n + 1) (b := n) (by omega)) }
    exact wpAny_pyNext_zipD2_end S D1 D2 hz hTI hTO s1 s2 t1 t2 hend fun h' tk hk => ⟨rfl, I.turnedL (t' := tk) (ch := [n + 4, n + 2, n + 3, n, n + 1]) (fun c o hb q =>
      hk c o (fun q' => hb (by simp [q'])) (fun q' => hb (by simp [q'])) (fun q' => hb (by simp [q'])) (fun q' => hb (by simp [q'])) q) hf⟩
  self := fun A i s Q E st h => wpAny_pyIter_zip st.1 h
def iZip2 (K : PySem.W.Frag) (ta : TA) : TI := fun σ H R => ta σ H fun vs H1 => ∃ (z1 z2 : ZS) (xs1 xs2 : List V), vs = [z1.val, z2.val] ∧ z1.at K H1 xs1 ∧ z2.at K H1 xs2 ∧ R (Itz2 K z1 z2) H1
theorem pi_zip2 {X : Cx} {e e2 : Expr} {ta : TA} {p pos tpos : Pos} {elts : List Expr} {kk : Nat} (hg : Gl X "zip") (hm : X.mg "zip" = none) (ha : PA X [e, e2] ta)
    (hs : starEach [e, e2] X.env = (false, eval e X.env) :: starEach [e2] X.env := by rfl) (hpl : (backTo pos (starEach [e2] X.env)).any (·.1) = false := by rfl) :
    PI X (.Tuple elts kk tpos) (.Call (.Name "zip" p) [e, e2] [] pos) (iZip2 X.K ta) := by
  refine ⟨fun pins s σ H R I h => ?_⟩
  refine Call_ (ld_blt I hg hm PyProof.Rows.boot_zip (PyProof.Rows.callWith_type1 (thn (ha.run pos pins s σ H _ I h) fun us s1 ⟨vs, H1, I1, r1, q1⟩ => ?_) hs hpl))
  obtain ⟨z1, z2, xs1, xs2, ex, q1, q2, q⟩ := q1
  subst ex
  cases r1 with
  | cons r1 rr =>
    cases rr with
    | cons r2 rr =>
      cases rr
      obtain ⟨o1, G1, B1, h1, i1, l1⟩ := z1.begins I1 q1 r1
      obtain ⟨o2, G2, B2, h2, i2, l2⟩ := z2.begins I1 q2 r2
      have fresh5 : ∀ c, c ∈ [s1.heap.objs.size + 4, s1.heap.objs.size + 2, s1.heap.objs.size + 3, s1.heap.objs.size, s1.heap.objs.size + 1] → FpOk X pins H1 c := fun c hcm => by
        have e' : c = s1.heap.objs.size + 4 ∨ c = s1.heap.objs.size + 2 ∨ c = s1.heap.objs.size + 3 ∨ c = s1.heap.objs.size ∨ c = s1.heap.objs.size + 1 := by simpa using hcm
        have hle : s1.heap.objs.size ≤ c := by omega
        exact I1.fpOk hle (I1.hok.fresh hle)
      refine zip_begins2 B1 B2 h1 h2 fun h' hz hTI hTO g1 g2 hsz hk => wpAny_pyIter_zip hz ?_
      have I2 : Inv X pins σ H1 { s1 with heap := h' } := I1.kept (t' := s1.toks) hk
      exact ⟨s1.heap.objs.size + 4, [s1.heap.objs.size + 4, s1.heap.objs.size + 2, s1.heap.objs.size + 3, s1.heap.objs.size, s1.heap.objs.size + 1], _, _, H1, rfl, I2, turn_zip2 l1 l2, ⟨hz, hTI, ⟨_, _, hTO⟩, i1 _ _ g1, i2 _ _ g2⟩, fresh5, q⟩
theorem for_zip2 {K : PySem.W.Frag} {z1 z2 : ZS} {xs1 xs2 : List V} {n : Nat} {g : TG} {tb : TS} {D : Ends} {σ : L2.St} {H : Hp} (n1 : xs1.length = n) (n2 : xs2.length = n) (Pv : Nat → L2.St → Hp → Prop) (h0 : Pv 0 σ H) (hl : ∀ i σ H, i ≤ n → Pv i σ H → z1.at K H xs1 ∧ z2.at K H xs2)
    (hs : ∀ (i : Nat) (x1 x2 : V) (T : Addr) (σ : L2.St) (H : Hp), xs1[i]? = some x1 → xs2[i]? = some x2 → H T = none → Pv i σ H → g (.ref T) σ (upd H T (.tup [x1, x2])) fun σ2 H2 => tb { D with nx := Pv (i + 1), ct := Pv (i + 1), bk := D.nx } σ2 H2) (hd : ∀ σ H, Pv n σ H → D.nx σ H) :
    ∃ W : Nat → Nat → L2.St → Hp → Prop, (∃ m, W 0 m σ H) ∧ ∀ i m σ H, W i m σ H →
      ((Itz2 K z1 z2).stop i H ∧ D.nx σ H) ∨ ((Itz2 K z1 z2).go i H ∧ ∃ N : L2.St → Hp → Prop, (∀ σ' H', N σ' H' → ∃ m', m' < m ∧ W (i + 1) m' σ' H') ∧ ∀ v H', (Itz2 K z1 z2).yld i H v H' → g v σ H' fun σ2 H2 => tb { D with nx := N, ct := N, bk := D.nx } σ2 H2) := by
  refine ⟨fun i m σ H => m = n - i ∧ i ≤ n ∧ Pv i σ H, ⟨n, rfl, Nat.zero_le _, h0⟩, ?_⟩
  rintro i m σ H ⟨rfl, hi, p⟩
  obtain ⟨q1, q2⟩ := hl i σ H hi p
  by_cases hlt : i < n
  · have e1 : xs1[i]? = some (xs1[i]'(by omega)) := List.getElem?_eq_getElem _
    have e2 : xs2[i]? = some (xs2[i]'(by omega)) := List.getElem?_eq_getElem _
    refine .inr ⟨⟨xs1, xs2, _, _, q1, q2, e1, e2⟩, Pv (i + 1), fun σ' H' p' => ⟨n - (i + 1), by omega, rfl, hlt, p'⟩, fun v H' y => ?_⟩
    obtain ⟨T, y1, y2, rfl, hT, rfl, f1, f2⟩ := y
    exact hs i y1 y2 T σ H (f1 xs1 q1) (f2 xs2 q2) hT p
  · have e : i = n := by omega
    subst e
    exact .inl ⟨⟨xs1, xs2, q1, q2, by omega, by omega, .inl (by omega)⟩, hd σ H p⟩
theorem lc_zip2 {K : PySem.W.Frag} {z1 z2 : ZS} {xs1 xs2 : List V} {n : Nat} {g : TG} {tt : TT} {te : TE} {vs : List Nat} {σ : L2.St} {H1 : Hp} {D : Addr} {Qd : Hp → Prop} (n1 : xs1.length = n) (n2 : xs2.length = n) (Pv : Nat → Hp → Prop) (h0 : Pv 0 (upd H1 D (.lst []))) (hl : ∀ i H, i ≤ n → Pv i H → z1.at K H xs1 ∧ z2.at K H xs2)
    (hs : ∀ (i : Nat) (x1 x2 : V) (T : Addr) (H : Hp), xs1[i]? = some x1 → xs2[i]? = some x2 → H T = none → Pv i H → g (.ref T) (wipe σ vs) (upd H T (.tup [x1, x2])) fun σ2 H2 => wipe σ2 vs = wipe σ vs ∧ tt σ2 H2 fun b H3 =>
      if b = true then te σ2 H3 fun y H4 => ∃ acc, H4 D = some (.lst acc) ∧ acc.length < sizeLine ∧ Pv (i + 1) (upd H4 D (.lst (acc ++ [y]))) else Pv (i + 1) H3) (hd : ∀ H, Pv n H → Qd H) :
    ∃ W : Nat → Nat → Hp → Prop, (∃ m, W 0 m (upd H1 D (.lst []))) ∧ ∀ i m H, W i m H →
      ((Itz2 K z1 z2).stop i H ∧ Qd H) ∨ ((Itz2 K z1 z2).go i H ∧ ∃ Nx : Hp → Prop, (∀ H', Nx H' → ∃ m', m' < m ∧ W (i + 1) m' H') ∧ ∀ x H', (Itz2 K z1 z2).yld i H x H' → g x (wipe σ vs) H' fun σ2 H2 => wipe σ2 vs = wipe σ vs ∧ tt σ2 H2 fun b H3 =>
        if b = true then te σ2 H3 fun y H4 => ∃ acc, H4 D = some (.lst acc) ∧ acc.length < sizeLine ∧ Nx (upd H4 D (.lst (acc ++ [y]))) else Nx H3) := by
  refine ⟨fun i m H => m = n - i ∧ i ≤ n ∧ Pv i H, ⟨n, by simp, Nat.zero_le _, h0⟩, ?_⟩
  rintro i m H ⟨rfl, hi, p⟩
  obtain ⟨q1, q2⟩ := hl i H hi p
  by_cases hlt : i < n
  · have e1 : xs1[i]? = some (xs1[i]'(by omega)) := List.getElem?_eq_getElem _
    have e2 : xs2[i]? = some (xs2[i]'(by omega)) := List.getElem?_eq_getElem _
    refine .inr ⟨⟨xs1, xs2, _, _, q1, q2, e1, e2⟩, Pv (i + 1), fun H' p' => ⟨n - (i + 1), by omega, rfl, hlt, p'⟩, fun v H' y => ?_⟩
    obtain ⟨T, y1, y2, rfl, hT, rfl, f1, f2⟩ := y
    exact hs i y1 y2 T H (f1 xs1 q1) (f2 xs2 q2) hT p
  · have e : i = n := by omega
    subst e
    exact .inl ⟨⟨xs1, xs2, q1, q2, by omega, by omega, .inl (by omega)⟩, hd H p⟩
theorem gx_zip2 {α : Type} {K : PySem.W.Frag} {z1 z2 : ZS} {xs1 xs2 : List V} {n : Nat} {g : TG} {tt : TT} {te : TE} {vs : List Nat} {σ0 : L2.St} {End : α → Hp → Prop} {Yd : α → V → Hp → (α → Hp → Prop) → Prop} {a0 : α} {H0 : Hp} (n1 : xs1.length = n) (n2 : xs2.length = n) (Pv : Nat → α → Hp → Prop) (h0 : Pv 0 a0 H0) (hl : ∀ i c H, i ≤ n → Pv i c H → z1.at K H xs1 ∧ z2.at K H xs2)
    (hs : ∀ (i : Nat) (x1 x2 : V) (T : Addr) (c : α) (H : Hp), xs1[i]? = some x1 → xs2[i]? = some x2 → H T = none → Pv i c H → g (.ref T) σ0 (upd H T (.tup [x1, x2])) fun σ2 H2 => wipe σ2 vs = σ0 ∧ tt σ2 H2 fun b H3 => if b = true then te σ2 H3 fun y H4 => Yd c y H4 (Pv (i + 1)) else Pv (i + 1) c H3) (hd : ∀ c H, Pv n c H → End c H) :
    ∃ W : Nat → Nat → α → Hp → Prop, (∃ m, W 0 m a0 H0) ∧ tGx (Itz2 K z1 z2) g tt te σ0 vs End Yd W := by
  refine ⟨fun i m c H => m = n - i ∧ i ≤ n ∧ Pv i c H, ⟨n, rfl, Nat.zero_le _, h0⟩, ?_⟩
  rintro i m c H ⟨rfl, hi, p⟩
  obtain ⟨q1, q2⟩ := hl i c H hi p
  by_cases hlt : i < n
  · have e1 : xs1[i]? = some (xs1[i]'(by omega)) := List.getElem?_eq_getElem _
    have e2 : xs2[i]? = some (xs2[i]'(by omega)) := List.getElem?_eq_getElem _
    refine .inr ⟨⟨xs1, xs2, _, _, q1, q2, e1, e2⟩, Pv (i + 1), fun c' H' p' => ⟨n - (i + 1), by omega, rfl, hlt, p'⟩, fun v H' y => ?_⟩
    obtain ⟨T, y1, y2, rfl, hT, rfl, f1, f2⟩ := y
    exact hs i y1 y2 T c H (f1 xs1 q1) (f2 xs2 q2) hT p
  · have e : i = n := by omega
    subst e
    exact .inl ⟨⟨xs1, xs2, q1, q2, by omega, by omega, .inl (by omega)⟩, hd c H p⟩
def Itz3 (K : PySem.W.Frag) (z1 z2 z3 : ZS) : It :=
  ⟨fun i H => ∃ (xs1 xs2 xs3 : List V) (x1 x2 x3 : V), z1.at K H xs1 ∧ z2.at K H xs2 ∧ z3.at K H xs3 ∧ xs1[i]? = some x1 ∧ xs2[i]? = some x2 ∧ xs3[i]? = some x3,
    fun i H v H' => ∃ T x1 x2 x3, v = .ref T ∧ H T = none ∧ H' = upd H T (.tup [x1, x2, x3]) ∧ (∀ xs, z1.at K H xs → xs[i]? = some x1) ∧ (∀ xs, z2.at K H xs → xs[i]? = some x2) ∧ (∀ xs, z3.at K H xs → xs[i]? = some x3),
    fun i H => ∃ xs1 xs2 xs3 : List V, z1.at K H xs1 ∧ z2.at K H xs2 ∧ z3.at K H xs3 ∧ i ≤ xs1.length ∧ i ≤ xs2.length ∧ i ≤ xs3.length ∧ (i = xs1.length ∨ i = xs2.length ∨ i = xs3.length)⟩
theorem turn_zip3 {P : Program} {w : World} {K : PySem.W.Frag} {elts : List Expr} {kk : Nat} {tpos : Pos} {z1 z2 z3 : ZS} {n : Nat} (l1 : z1.lt n) (l2 : z2.lt n) (l3 : z3.lt n) :
    Turn P w K (.Tuple elts kk tpos) (Itz3 K z1 z2 z3) [n + 5, n + 3, n + 4, n, n + 1, n + 2] (n + 5) (fun i h => IsZip h (n + 5) (n + 3) (n + 4) .none ∧ IsTupOf3 h (n + 3) (.ref (n)) (.ref (n + 1)) (.ref (n + 2)) ∧ (∃ x1 x2 x3, IsTupOf3 h (n + 4) x1 x2 x3) ∧ z1.it (n) i h ∧ z2.it (n + 1) i h ∧ z3.it (n + 2) i h) where
  mem := List.mem_cons_self
  obj := fun i h st c hc => by
    obtain ⟨hz, hTI, ⟨x1, x2, x3, hTO⟩, st1, st2, st3⟩ := st
    have e' : c = n + 5 ∨ c = n + 3 ∨ c = n + 4 ∨ c = n ∨ c = n + 1 ∨ c = n + 2 := by simpa using hc
    rcases e' with q | q | q | q | q | q
    · rw [q]; exact ⟨_, hz, fun v q => nomatch q⟩
    · rw [q]; exact ⟨_, hTI, fun v q => nomatch q⟩
    · rw [q]; exact ⟨_, hTO, fun v q => nomatch q⟩
    · rw [q]; exact ZS.obj (z := z1) st1
    · rw [q]; exact ZS.obj (z := z2) st2
    · rw [q]; exact ZS.obj (z := z3) st3
  keep := fun i h h' st k => by
    obtain ⟨hz, hTI, ⟨x1, x2, x3, hTO⟩, st1, st2, st3⟩ := st
    exact ⟨k _ (by simp) _ hz, k _ (by simp) _ hTI, ⟨x1, x2, x3, k _ (by simp) _ hTO⟩, ZS.move (z := z1) (fun o q => k _ (by simp) o q) st1, ZS.move (z := z2) (fun o q => k _ (by simp) o q) st2, ZS.move (z := z3) (fun o q => k _ (by simp) o q) st3⟩
  item := by
    intro X hP hw hK hc i pins s σ H E I hf st hg
    subst hP hw hK
    obtain ⟨hz, hTI, ⟨y1, y2, y3, hTO⟩, st1, st2, st3⟩ := st
    obtain ⟨xs1, xs2, xs3, x1, x2, x3, q1, q2, q3, h1, h2, h3⟩ := hg
    have hh : X.A.in1.handled = none := I.ok.hd hc
    obtain ⟨fp1, P1, St1, D1, m1, f1, s1, b1, p1⟩ := z1.draws (A := X.A.in1) I q1 hh (ZS.off_of (by omega) l1) st1
    have nf1 : ∀ c, n ≤ c → c ≠ n → c ∉ fp1 := fun c h1 h2 h3 => by
      rcases f1 c h3 with e | e
      · exact h2 e
      · exact e (ZS.off_of h1 l1)
    obtain ⟨fp2, P2, St2, D2, m2, f2, s2, b2, p2⟩ := z2.draws (A := X.A.in1) I q2 hh (ZS.off_of (by omega) l2) st2
    have nf2 : ∀ c, n ≤ c → c ≠ n + 1 → c ∉ fp2 := fun c h1 h2 h3 => by
      rcases f2 c h3 with e | e
      · exact h2 e
      · exact e (ZS.off_of h1 l2)
    obtain ⟨fp3, P3, St3, D3, m3, f3, s3, b3, p3⟩ := z3.draws (A := X.A.in1) I q3 hh (ZS.off_of (by omega) l3) st3
    have nf3 : ∀ c, n ≤ c → c ≠ n + 2 → c ∉ fp3 := fun c h1 h2 h3 => by
      rcases f3 c h3 with e | e
      · exact h2 e
      · exact e (ZS.off_of h1 l3)
    have t1 : i < xs1.length := (List.getElem?_eq_some_iff.mp h1).1
    have t2 : i < xs2.length := (List.getElem?_eq_some_iff.mp h2).1
    have t3 : i < xs3.length := (List.getElem?_eq_some_iff.mp h3).1
    have hzl : n + 5 < s.heap.objs.size := Heap.lt_size hz
    have S : ZipSep3 (n + 5) (n + 3) (n + 4) (n) (n + 1) (n + 2) fp1 fp2 fp3 := { TIz := (ne' (a := n + 3) (b := n + 5) (by omega)), TOz := (ne' (a := n + 4) (b := n + 5) (by omega)), TITO := (ne' (a := n + 3) (b := n + 4) (by omega)), TIi1 := (ne' (a := n + 3) (b := n) (by omega)), mem1 := m1, zf1 := nf1 (n + 5) (by omega) (ne' (a := n + 5) (b := n) (by omega)), Tf1 := nf1 (n + 4) (by omega) (ne' (a := n + 4) (b := n) (by omega)), TIi2 := (ne' (a := n + 3) (b := n + 1) (by omega)), mem2 := m2, zf2 := nf2 (n + 5) (by omega) (ne' (a := n + 5) (b := n + 1) (by omega)), Tf2 := nf2 (n + 4) (by omega) (ne' (a := n + 4) (b := n + 1) (by omega)), TIi3 := (ne' (a := n + 3) (b := n + 2) (by omega)), mem3 := m3, zf3 := nf3 (n + 5) (by omega) (ne' (a := n + 5) (b := n + 2) (by omega)), Tf3 := nf3 (n + 4) (by omega) (ne' (a := n + 4) (b := n + 2) (by omega)), sep1_2 := nf2 (n) (by omega) (ne' (a := n) (b := n + 1) (by omega)), sep1_3 := nf3 (n) (by omega) (ne' (a := n) (b := n + 2) (by omega)), sep2_1 := nf1 (n + 1) (by omega) (ne' (a := n + 1) (b := n) (by omega)), sep2_3 := nf3 (n + 1) (by omega) (ne' (a := n + 1) (b := n + 2) (by omega)), sep3_1 := nf1 (n + 2) (by omega) (ne' (a := n + 2) (b := n) (by omega)), sep3_2 := nf2 (n + 2) (by omega) (ne' (a := n + 2) (b := n + 1) (by omega)) }
    refine wpAny_pyNext_zipD3_item S D1 D2 D3 hz hTI hTO s1 s2 s3 t1 t2 t3 fun u1 u2 u3 h' tk g1 g2 g3 z' TO' w1 w2 w3 hT hsz hk => ?_
    refine ⟨_, rfl, wpAny_letOwnedTupleGo_zip (s := { s with heap := h', toks := tk }) z' fun h'' z'' sb => ?_⟩
    obtain ⟨x1', e1, ru1⟩ := p1 i u1 g1
    rw [h1] at e1
    cases Option.some.inj e1
    obtain ⟨x2', e2, ru2⟩ := p2 i u2 g2
    rw [h2] at e2
    cases Option.some.inj e2
    obtain ⟨x3', e3, ru3⟩ := p3 i u3 g3
    rw [h3] at e3
    cases Option.some.inj e3
    have hT2 : h''.get? s.heap.objs.size = some { cls := .type "tuple", data := .seq #[u1, u2, u3] } := (sb.2 _ (Nat.ne_of_gt hzl)).trans hT
    have new : ObjOk X.prog X.w (upd H s.heap.objs.size (.tup [x1, x2, x3])) h'' s.heap.objs.size (.tup [x1, x2, x3]) :=
      ⟨by show 3 ≤ sizeLine; decide, [u1, u2, u3], .cons ru1 (.cons ru2 (.cons ru3 (.nil))), ⟨_, hT2, rfl, _, rfl⟩⟩
    have out5 : ∀ c, c ∉ [n + 5, n + 3, n + 4, n, n + 1, n + 2] → c ≠ n + 5 ∧ c ≠ n + 4 ∧ c ≠ n ∧ c ≠ n + 1 ∧ c ≠ n + 2 := fun c hb => ⟨fun q' => hb (by simp [q']), fun q' => hb (by simp [q']), fun q' => hb (by simp [q']), fun q' => hb (by simp [q']), fun q' => hb (by simp [q'])⟩
    have I1 : Inv X pins σ (upd H s.heap.objs.size (.tup [x1, x2, x3])) { s with heap := h'', toks := tk } :=
      I.turnedNew (t' := tk) (ch := [n + 5, n + 3, n + 4, n, n + 1, n + 2]) (fun c o hb q => by
        obtain ⟨a1, a2, b1', b2', b3'⟩ := out5 c hb
        exact (sb.2 c a1).trans (hk c o a1 a2 b1' b2' b3' q)) hf (Nat.le_refl _) new
    refine ⟨.ref s.heap.objs.size, _, I1, rfl, ⟨_, x1, x2, x3, rfl, I.hok.fresh (Nat.le_refl _), rfl, fun l hl => by rw [ZS.inj I hl q1]; exact h1, fun l hl => by rw [ZS.inj I hl q2]; exact h2, fun l hl => by rw [ZS.inj I hl q3]; exact h3⟩, ⟨z'', ?_, ⟨u1, u2, u3, ?_⟩, ?_, ?_, ?_⟩, fun c hcm => ?_⟩
    · exact (sb.2 (n + 3) (ne' (a := n + 3) (b := n + 5) (by omega))).trans (hk (n + 3) _ (ne' (a := n + 3) (b := n + 5) (by omega)) (ne' (a := n + 3) (b := n + 4) (by omega)) (ne' (a := n + 3) (b := n) (by omega)) (ne' (a := n + 3) (b := n + 1) (by omega)) (ne' (a := n + 3) (b := n + 2) (by omega)) hTI)
    · exact (sb.2 (n + 4) (ne' (a := n + 4) (b := n + 5) (by omega))).trans TO'
    · exact ZS.move (z := z1) (fun o q => (sb.2 (n) (ne' (a := n) (b := n + 5) (by omega))).trans q) (b1 _ _ w1)
    · exact ZS.move (z := z2) (fun o q => (sb.2 (n + 1) (ne' (a := n + 1) (b := n + 5) (by omega))).trans q) (b2 _ _ w2)
    · exact ZS.move (z := z3) (fun o q => (sb.2 (n + 2) (ne' (a := n + 2) (b := n + 5) (by omega))).trans q) (b3 _ _ w3)
    · have hlt : c < s.heap.objs.size := by
        have e' : c = n + 5 ∨ c = n + 3 ∨ c = n + 4 ∨ c = n ∨ c = n + 1 ∨ c = n + 2 := by simpa using hcm
        rcases e' with q | q | q | q | q | q
        · rw [q]; exact (show (n + 5 : Nat) < s.heap.objs.size by omega)
        · rw [q]; exact (show (n + 3 : Nat) < s.heap.objs.size by omega)
        · rw [q]; exact (show (n + 4 : Nat) < s.heap.objs.size by omega)
        · rw [q]; exact (show (n : Nat) < s.heap.objs.size by omega)
        · rw [q]; exact (show (n + 1 : Nat) < s.heap.objs.size by omega)
        · rw [q]; exact (show (n + 2 : Nat) < s.heap.objs.size by omega)
      rw [upd_ne (Nat.ne_of_lt hlt)]
      exact (hf c hcm).1
  done := by
    intro X hP hw hK hc i pins s σ H E I hf st hg
    subst hP hw hK
    obtain ⟨hz, hTI, ⟨y1, y2, y3, hTO⟩, st1, st2, st3⟩ := st
    obtain ⟨xs1, xs2, xs3, q1, q2, q3, t1, t2, t3, hend⟩ := hg
    have hh : X.A.in1.handled = none := I.ok.hd hc
    obtain ⟨fp1, P1, St1, D1, m1, f1, s1, b1, p1⟩ := z1.draws (A := X.A.in1) I q1 hh (ZS.off_of (by omega) l1) st1
    have nf1 : ∀ c, n ≤ c → c ≠ n → c ∉ fp1 := fun c h1 h2 h3 => by
      rcases f1 c h3 with e | e
      · exact h2 e
      · exact e (ZS.off_of h1 l1)
    obtain ⟨fp2, P2, St2, D2, m2, f2, s2, b2, p2⟩ := z2.draws (A := X.A.in1) I q2 hh (ZS.off_of (by omega) l2) st2
    have nf2 : ∀ c, n ≤ c → c ≠ n + 1 → c ∉ fp2 := fun c h1 h2 h3 => by
      rcases f2 c h3 with e | e
      · exact h2 e
      · exact e (ZS.off_of h1 l2)
    obtain ⟨fp3, P3, St3, D3, m3, f3, s3, b3, p3⟩ := z3.draws (A := X.A.in1) I q3 hh (ZS.off_of (by omega) l3) st3
    have nf3 : ∀ c, n ≤ c → c ≠ n + 2 → c ∉ fp3 := fun c h1 h2 h3 => by
      rcases f3 c h3 with e | e
      · exact h2 e
      · exact e (ZS.off_of h1 l3)
    have S : ZipSep3 (n + 5) (n + 3) (n + 4) (n) (n + 1) (n + 2) fp1 fp2 fp3 := { TIz := (ne' (a := n + 3) (b := n + 5) (by omega)), TOz := (ne' (a := n + 4) (b := n + 5) (by omega)), TITO := (ne' (a := n + 3) (b := n + 4) (by omega)), TIi1 := (ne' (a := n + 3) (b := n) (by omega)), mem1 := m1, zf1 := nf1 (n + 5) (by omega) (ne' (a := n + 5) (b := n) (by omega)), Tf1 := nf1 (n + 4) (by omega) (ne' (a := n + 4) (b := n) (by omega)), TIi2 := (ne' (a := n + 3) (b := n + 1) (by omega)), mem2 := m2, zf2 := nf2 (n + 5) (by omega) (ne' (a := n + 5) (b := n + 1) (by omega)), Tf2 := nf2 (n + 4) (by omega) (ne' (a := n + 4) (b := n + 1) (by omega)), TIi3 := (ne' (a := n + 3) (b := n + 2) (by omega)), mem3 := m3, zf3 := nf3 (n + 5) (by omega) (ne' (a := n + 5) (b := n + 2) (by omega)), Tf3 := nf3 (n + 4) (by omega) (ne' (a := n + 4) (b := n + 2) (by omega)), sep1_2 := nf2 (n) (by omega) (ne' (a := n) (b := n + 1) (by omega)), sep1_3 := nf3 (n) (by omega) (ne' (a := n) (b := n + 2) (by omega)), sep2_1 := nf1 (n + 1) (by omega) (ne' (a := n + 1) (b := n) (by omega)), sep2_3 := nf3 (n + 1) (by omega) (ne' (a := n + 1) (b := n + 2) (by omega)), sep3_1 := nf1 (n + 2) (by omega) (ne' (a := n + 2) (b := n) (by omega)), sep3_2 := nf2 (n + 2) (by omega) (ne' (a := n + 2) (b := n + 1) (by omega)) }
    exact wpAny_pyNext_zipD3_end S D1 D2 D3 hz hTI hTO s1 s2 s3 t1 t2 t3 hend fun h' tk hk => ⟨rfl, I.turnedL (t' := tk) (ch := [n + 5, n + 3, n + 4, n, n + 1, n + 2]) (fun c o hb q =>
      hk c o (fun q' => hb (by simp [q'])) (fun q' => hb (by simp [q'])) (fun q' => hb (by simp [q'])) (fun q' => hb (by simp [q'])) (fun q' => hb (by simp [q'])) q) hf⟩
  self := fun A i s Q E st h => wpAny_pyIter_zip st.1 h
def iZip3 (K : PySem.W.Frag) (ta : TA) : TI := fun σ H R => ta σ H fun vs H1 => ∃ (z1 z2 z3 : ZS) (xs1 xs2 xs3 : List V), vs = [z1.val, z2.val, z3.val] ∧ z1.at K H1 xs1 ∧ z2.at K H1 xs2 ∧ z3.at K H1 xs3 ∧ R (Itz3 K z1 z2 z3) H1
theorem pi_zip3 {X : Cx} {e e2 e3 : Expr} {ta : TA} {p pos tpos : Pos} {elts : List Expr} {kk : Nat} (hg : Gl X "zip") (hm : X.mg "zip" = none) (ha : PA X [e, e2, e3] ta)
    (hs : starEach [e, e2, e3] X.env = (false, eval e X.env) :: starEach [e2, e3] X.env := by rfl) (hpl : (backTo pos (starEach [e2, e3] X.env)).any (·.1) = false := by rfl) :
    PI X (.Tuple elts kk tpos) (.Call (.Name "zip" p) [e, e2, e3] [] pos) (iZip3 X.K ta) := by
  refine ⟨fun pins s σ H R I h => ?_⟩
  refine Call_ (ld_blt I hg hm PyProof.Rows.boot_zip (PyProof.Rows.callWith_type1 (thn (ha.run pos pins s σ H _ I h) fun us s1 ⟨vs, H1, I1, r1, q1⟩ => ?_) hs hpl))
  obtain ⟨z1, z2, z3, xs1, xs2, xs3, ex, q1, q2, q3, q⟩ := q1
  subst ex
  cases r1 with
  | cons r1 rr =>
    cases rr with
    | cons r2 rr =>
      cases rr with
      | cons r3 rr =>
        cases rr
        obtain ⟨o1, G1, B1, h1, i1, l1⟩ := z1.begins I1 q1 r1
        obtain ⟨o2, G2, B2, h2, i2, l2⟩ := z2.begins I1 q2 r2
        obtain ⟨o3, G3, B3, h3, i3, l3⟩ := z3.begins I1 q3 r3
        have fresh5 : ∀ c, c ∈ [s1.heap.objs.size + 5, s1.heap.objs.size + 3, s1.heap.objs.size + 4, s1.heap.objs.size, s1.heap.objs.size + 1, s1.heap.objs.size + 2] → FpOk X pins H1 c := fun c hcm => by
          have e' : c = s1.heap.objs.size + 5 ∨ c = s1.heap.objs.size + 3 ∨ c = s1.heap.objs.size + 4 ∨ c = s1.heap.objs.size ∨ c = s1.heap.objs.size + 1 ∨ c = s1.heap.objs.size + 2 := by simpa using hcm
          have hle : s1.heap.objs.size ≤ c := by omega
          exact I1.fpOk hle (I1.hok.fresh hle)
        refine zip_begins3 B1 B2 B3 h1 h2 h3 fun h' hz hTI hTO g1 g2 g3 hsz hk => wpAny_pyIter_zip hz ?_
        have I2 : Inv X pins σ H1 { s1 with heap := h' } := I1.kept (t' := s1.toks) hk
        exact ⟨s1.heap.objs.size + 5, [s1.heap.objs.size + 5, s1.heap.objs.size + 3, s1.heap.objs.size + 4, s1.heap.objs.size, s1.heap.objs.size + 1, s1.heap.objs.size + 2], _, _, H1, rfl, I2, turn_zip3 l1 l2 l3, ⟨hz, hTI, ⟨_, _, _, hTO⟩, i1 _ _ g1, i2 _ _ g2, i3 _ _ g3⟩, fresh5, q⟩
theorem for_zip3 {K : PySem.W.Frag} {z1 z2 z3 : ZS} {xs1 xs2 xs3 : List V} {n : Nat} {g : TG} {tb : TS} {D : Ends} {σ : L2.St} {H : Hp} (n1 : xs1.length = n) (n2 : xs2.length = n) (n3 : xs3.length = n) (Pv : Nat → L2.St → Hp → Prop) (h0 : Pv 0 σ H) (hl : ∀ i σ H, i ≤ n → Pv i σ H → z1.at K H xs1 ∧ z2.at K H xs2 ∧ z3.at K H xs3)
    (hs : ∀ (i : Nat) (x1 x2 x3 : V) (T : Addr) (σ : L2.St) (H : Hp), xs1[i]? = some x1 → xs2[i]? = some x2 → xs3[i]? = some x3 → H T = none → Pv i σ H → g (.ref T) σ (upd H T (.tup [x1, x2, x3])) fun σ2 H2 => tb { D with nx := Pv (i + 1), ct := Pv (i + 1), bk := D.nx } σ2 H2) (hd : ∀ σ H, Pv n σ H → D.nx σ H) :
    ∃ W : Nat → Nat → L2.St → Hp → Prop, (∃ m, W 0 m σ H) ∧ ∀ i m σ H, W i m σ H →
      ((Itz3 K z1 z2 z3).stop i H ∧ D.nx σ H) ∨ ((Itz3 K z1 z2 z3).go i H ∧ ∃ N : L2.St → Hp → Prop, (∀ σ' H', N σ' H' → ∃ m', m' < m ∧ W (i + 1) m' σ' H') ∧ ∀ v H', (Itz3 K z1 z2 z3).yld i H v H' → g v σ H' fun σ2 H2 => tb { D with nx := N, ct := N, bk := D.nx } σ2 H2) := by
  refine ⟨fun i m σ H => m = n - i ∧ i ≤ n ∧ Pv i σ H, ⟨n, rfl, Nat.zero_le _, h0⟩, ?_⟩
  rintro i m σ H ⟨rfl, hi, p⟩
  obtain ⟨q1, q2, q3⟩ := hl i σ H hi p
  by_cases hlt : i < n
  · have e1 : xs1[i]? = some (xs1[i]'(by omega)) := List.getElem?_eq_getElem _
    have e2 : xs2[i]? = some (xs2[i]'(by omega)) := List.getElem?_eq_getElem _
    have e3 : xs3[i]? = some (xs3[i]'(by omega)) := List.getElem?_eq_getElem _
    refine .inr ⟨⟨xs1, xs2, xs3, _, _, _, q1, q2, q3, e1, e2, e3⟩, Pv (i + 1), fun σ' H' p' => ⟨n - (i + 1), by omega, rfl, hlt, p'⟩, fun v H' y => ?_⟩
    obtain ⟨T, y1, y2, y3, rfl, hT, rfl, f1, f2, f3⟩ := y
    exact hs i y1 y2 y3 T σ H (f1 xs1 q1) (f2 xs2 q2) (f3 xs3 q3) hT p
  · have e : i = n := by omega
    subst e
    exact .inl ⟨⟨xs1, xs2, xs3, q1, q2, q3, by omega, by omega, by omega, .inl (by omega)⟩, hd σ H p⟩
theorem lc_zip3 {K : PySem.W.Frag} {z1 z2 z3 : ZS} {xs1 xs2 xs3 : List V} {n : Nat} {g : TG} {tt : TT} {te : TE} {vs : List Nat} {σ : L2.St} {H1 : Hp} {D : Addr} {Qd : Hp → Prop} (n1 : xs1.length = n) (n2 : xs2.length = n) (n3 : xs3.length = n) (Pv : Nat → Hp → Prop) (h0 : Pv 0 (upd H1 D (.lst []))) (hl : ∀ i H, i ≤ n → Pv i H → z1.at K H xs1 ∧ z2.at K H xs2 ∧ z3.at K H xs3)
    (hs : ∀ (i : Nat) (x1 x2 x3 : V) (T : Addr) (H : Hp), xs1[i]? = some x1 → xs2[i]? = some x2 → xs3[i]? = some x3 → H T = none → Pv i H → g (.ref T) (wipe σ vs) (upd H T (.tup [x1, x2, x3])) fun σ2 H2 => wipe σ2 vs = wipe σ vs ∧ tt σ2 H2 fun b H3 =>
      if b = true then te σ2 H3 fun y H4 => ∃ acc, H4 D = some (.lst acc) ∧ acc.length < sizeLine ∧ Pv (i + 1) (upd H4 D (.lst (acc ++ [y]))) else Pv (i + 1) H3) (hd : ∀ H, Pv n H → Qd H) :
    ∃ W : Nat → Nat → Hp → Prop, (∃ m, W 0 m (upd H1 D (.lst []))) ∧ ∀ i m H, W i m H →
      ((Itz3 K z1 z2 z3).stop i H ∧ Qd H) ∨ ((Itz3 K z1 z2 z3).go i H ∧ ∃ Nx : Hp → Prop, (∀ H', Nx H' → ∃ m', m' < m ∧ W (i + 1) m' H') ∧ ∀ x H', (Itz3 K z1 z2 z3).yld i H x H' → g x (wipe σ vs) H' fun σ2 H2 => wipe σ2 vs = wipe σ vs ∧ tt σ2 H2 fun b H3 =>
        if b = true then te σ2 H3 fun y H4 => ∃ acc, H4 D = some (.lst acc) ∧ acc.length < sizeLine ∧ Nx (upd H4 D (.lst (acc ++ [y]))) else Nx H3) := by
  refine ⟨fun i m H => m = n - i ∧ i ≤ n ∧ Pv i H, ⟨n, by simp, Nat.zero_le _, h0⟩, ?_⟩
  rintro i m H ⟨rfl, hi, p⟩
  obtain ⟨q1, q2, q3⟩ := hl i H hi p
  by_cases hlt : i < n
  · have e1 : xs1[i]? = some (xs1[i]'(by omega)) := List.getElem?_eq_getElem _
    have e2 : xs2[i]? = some (xs2[i]'(by omega)) := List.getElem?_eq_getElem _
    have e3 : xs3[i]? = some (xs3[i]'(by omega)) := List.getElem?_eq_getElem _
    refine .inr ⟨⟨xs1, xs2, xs3, _, _, _, q1, q2, q3, e1, e2, e3⟩, Pv (i + 1), fun H' p' => ⟨n - (i + 1), by omega, rfl, hlt, p'⟩, fun v H' y => ?_⟩
    obtain ⟨T, y1, y2, y3, rfl, hT, rfl, f1, f2, f3⟩ := y
    exact hs i y1 y2 y3 T H (f1 xs1 q1) (f2 xs2 q2) (f3 xs3 q3) hT p
  · have e : i = n := by omega
    subst e
    exact .inl ⟨⟨xs1, xs2, xs3, q1, q2, q3, by omega, by omega, by omega, .inl (by omega)⟩, hd H p⟩
theorem gx_zip3 {α : Type} {K : PySem.W.Frag} {z1 z2 z3 : ZS} {xs1 xs2 xs3 : List V} {n : Nat} {g : TG} {tt : TT} {te : TE} {vs : List Nat} {σ0 : L2.St} {End : α → Hp → Prop} {Yd : α → V → Hp → (α → Hp → Prop) → Prop} {a0 : α} {H0 : Hp} (n1 : xs1.length = n) (n2 : xs2.length = n) (n3 : xs3.length = n) (Pv : Nat → α → Hp → Prop) (h0 : Pv 0 a0 H0) (hl : ∀ i c H, i ≤ n → Pv i c H → z1.at K H xs1 ∧ z2.at K H xs2 ∧ z3.at K H xs3)
    (hs : ∀ (i : Nat) (x1 x2 x3 : V) (T : Addr) (c : α) (H : Hp), xs1[i]? = some x1 → xs2[i]? = some x2 → xs3[i]? = some x3 → H T = none → Pv i c H → g (.ref T) σ0 (upd H T (.tup [x1, x2, x3])) fun σ2 H2 => wipe σ2 vs = σ0 ∧ tt σ2 H2 fun b H3 => if b = true then te σ2 H3 fun y H4 => Yd c y H4 (Pv (i + 1)) else Pv (i + 1) c H3) (hd : ∀ c H, Pv n c H → End c H) :
    ∃ W : Nat → Nat → α → Hp → Prop, (∃ m, W 0 m a0 H0) ∧ tGx (Itz3 K z1 z2 z3) g tt te σ0 vs End Yd W := by
  refine ⟨fun i m c H => m = n - i ∧ i ≤ n ∧ Pv i c H, ⟨n, rfl, Nat.zero_le _, h0⟩, ?_⟩
  rintro i m c H ⟨rfl, hi, p⟩
  obtain ⟨q1, q2, q3⟩ := hl i c H hi p
  by_cases hlt : i < n
  · have e1 : xs1[i]? = some (xs1[i]'(by omega)) := List.getElem?_eq_getElem _
    have e2 : xs2[i]? = some (xs2[i]'(by omega)) := List.getElem?_eq_getElem _
    have e3 : xs3[i]? = some (xs3[i]'(by omega)) := List.getElem?_eq_getElem _
    refine .inr ⟨⟨xs1, xs2, xs3, _, _, _, q1, q2, q3, e1, e2, e3⟩, Pv (i + 1), fun c' H' p' => ⟨n - (i + 1), by omega, rfl, hlt, p'⟩, fun v H' y => ?_⟩
    obtain ⟨T, y1, y2, y3, rfl, hT, rfl, f1, f2, f3⟩ := y
    exact hs i y1 y2 y3 T c H (f1 xs1 q1) (f2 xs2 q2) (f3 xs3 q3) hT p
  · have e : i = n := by omega
    subst e
    exact .inl ⟨⟨xs1, xs2, xs3, q1, q2, q3, by omega, by omega, by omega, .inl (by omega)⟩, hd c H p⟩
end ZpG

end Gk

set_option Elab.async false
set_option linter.all false
set_option maxRecDepth 100000
set_option maxHeartbeats 1000000
namespace Gk
open PySem PySem.Spec PyProof.Rows L2
namespace SrtS
open PySem PyProof.Rows Srt SrtO
section
variable {prog : Program} {w : World} {A : Around} {E : Value → Shared → Prop} {s : Shared}
def ss : Value → PySem.Str
  | .str x _ => x
  | _ => PySem.Str.empty
def ltC (a b : PySem.Str) : Bool := decide (a.cps.toList < b.cps.toList)
def ltSv (v u : Value) : Bool := ltC (ss v) (ss u)
theorem swo_str : Swo ltSv := by
  refine ⟨fun x y h => ?_, fun x y z h1 h2 => ?_⟩
  · exact decide_eq_false (List.lt_asymm (of_decide_eq_true h))
  · have a := of_decide_eq_false h1
    have b := of_decide_eq_false h2
    exact decide_eq_false (List.not_lt.mpr (List.le_trans (List.not_lt.mp a) (List.not_lt.mp b)))
theorem strs_mem : ∀ {vs : List Value} {ns : List PySem.Str}, StrsAre vs ns → ∀ v ∈ vs, ∃ i t, v = Value.str i t
  | _, _, .nil, v, h => absurd h (by simp)
  | _, _, .cons n t r, v, h => by
    rcases List.mem_cons.mp h with e | h
    · exact ⟨n, t, e⟩
    · exact strs_mem r v h
theorem strs_ss : ∀ {vs : List Value}, (∀ v ∈ vs, ∃ i t, v = Value.str i t) → StrsAre vs (vs.map ss)
  | [], _ => .nil
  | v :: vs, h => by
    obtain ⟨i, t, e⟩ := h v List.mem_cons_self
    subst e
    exact .cons i t (strs_ss fun u hu => h u (List.mem_cons_of_mem _ hu))
theorem ss_strs : ∀ {vs : List Value} {ns : List PySem.Str}, StrsAre vs ns → vs.map ss = ns
  | _, _, .nil => rfl
  | _, _, .cons n t r => congrArg (n :: ·) (ss_strs r)
theorem str_cmp {vs : List Value} {ns : List PySem.Str} (hI : StrsAre vs ns) : SrtO.Cmp prog w A s oneType' (fun p => p.1 ∈ vs) (lt2 ltSv) := by
  intro p q hm hm'
  obtain ⟨a, t, e⟩ := strs_mem hI _ hm
  obtain ⟨b, u, e'⟩ := strs_mem hI _ hm'
  show wpAny (model prog w) A (keyLt' oneType' p.1 q.1) (fun r s' => s' = s ∧ r = ltSv p.1 q.1) (fun _ _ => False) s
  rw [e, e', keyLt'_oneType]
  exact oneLt_str ⟨rfl, rfl⟩
theorem strs_sortable {a : Addr} {vs : List Value} {ns : List PySem.Str} (hI : StrsAre vs ns) (h2 : 2 ≤ vs.length) : SortableO prog w A s a vs ltSv := by
  intro h' _
  refine ⟨oneType', fun Q E hq => ?_, str_cmp hI⟩
  match vs, hI, h2 with
  | v1 :: v2 :: rest, hI, _ =>
    rw [keyKind_strs hI]
    exact wpAny_pure hq
  | [], _, h => exact absurd h (by decide)
  | [v], _, h => exact absurd h (by simp)
theorem strs_out {vs out : List Value} {ns : List PySem.Str} (hI : StrsAre vs ns) (hs : Srtd ltSv out) (hb : Stb ltSv out vs) : StrsAre out (out.map ss) ∧ (out.map ss).Perm ns ∧ (out.map ss).Pairwise (fun x y => ltC y x = false) := by
  refine ⟨strs_ss fun v hv => strs_mem hI v (hb.perm.mem_iff.mp hv), ?_, ?_⟩
  · have q := hb.perm.map ss
    rw [ss_strs hI] at q
    exact q
  · exact List.pairwise_map.mpr (hs.imp fun {x y} h => h)
end
end SrtS
/-- sorted(xs), texts, any number of them -/
def rSortedTx (K : PySem.W.Frag) : List V → Hp → VK → Prop := fun vs H Q => ∃ (a : Addr) (xs : List Str), vs = [V.ref a] ∧ SqL K H a (xs.map V.str) ∧
  ∀ (ys : List Str) (p : Addr), ys.Perm xs → ys.Pairwise (fun x y => SrtS.ltC y x = false) → H p = none → Q (.ref p) (upd H p (.lst (ys.map V.str)))
theorem cr_sortedTx {X : Cx} : CallR X (.builtin "sorted") (rSortedTx X.K) := by
  intro pins s σ H vs us Q I r h
  obtain ⟨a, ns, rfl, hs, q⟩ := h
  obtain ⟨its, rv, hl, hz⟩ := I.list hs
  rw [Vals.ref1 r]
  have hi := rv.strs
  refine SrtO.sorted_ord SrtS.swo_str hl.isList (by rw [← rv.length]; exact hz) (fun h2 h₁ a' _ _ => SrtS.strs_sortable hi h2) fun out h1 h2 => ?_
  obtain ⟨k1, k2, k3⟩ := SrtS.strs_out hi h1 h2
  obtain ⟨ep, he'⟩ := PyProof.Rows.sortedAll_at s.heap its out.toArray
  have hlen : ((out.map SrtS.ss).map V.str).length ≤ sizeLine := by
    rw [List.length_map, k2.length_eq]
    rw [List.length_map] at hz
    exact hz
  exact ⟨.ref _, upd H (s.heap.objs.size + 1) (.lst ((out.map SrtS.ss).map V.str)), I.laid (t' := s.toks) (fun _ _ => PyProof.Rows.sortedAll_old) (Nat.le_succ _) ⟨hlen, out, ep, vals_of_strs k1, he'⟩, rfl, q _ _ k2 k3 (I.hok.fresh (Nat.le_succ _))⟩
/-- two sorted lists of the same texts are one -/
theorem ltC_antisymm {x y : Str} (h1 : SrtS.ltC x y = false) (h2 : SrtS.ltC y x = false) : x = y := by
  have a := List.not_lt.mp (of_decide_eq_false h1)
  have b := List.not_lt.mp (of_decide_eq_false h2)
  have e := List.le_antisymm b a
  cases x; cases y
  congr 1
  exact Array.toList_inj.mp e
theorem sorted_uniq {ys zs : List Str} (p : ys.Perm zs) (h1 : ys.Pairwise (fun x y => SrtS.ltC y x = false)) (h2 : zs.Pairwise (fun x y => SrtS.ltC y x = false)) : ys = zs :=
  List.Perm.eq_of_pairwise (fun a b _ _ u v => (ltC_antisymm v u)) h1 h2 p

end Gk

set_option Elab.async false
set_option linter.all false
set_option maxRecDepth 100000
set_option maxHeartbeats 1000000
set_option pp.maxSteps 1500
set_option pp.deepTerms false
namespace Gk
open PySem PySem.Spec PyProof.Rows L2
/-! ### data of tuples alone: no list that is written can harm it -/
mutual
def noL : PyData → Bool
  | .list _ => false
  | .tuple ds => noLs ds
  | _ => true
def noLs : List PyData → Bool
  | [] => true
  | d :: r => noL d && noLs r
end
def Ts (H H' : Hp) : Prop := ∀ b xs, H b = some (HO.tup xs) → H' b = some (.tup xs)
theorem Ts.refl {H : Hp} : Ts H H := fun _ _ e => e
theorem Ts.trans {H H1 H2 : Hp} (a : Ts H H1) (b : Ts H1 H2) : Ts H H2 := fun c xs e => b c xs (a c xs e)
theorem Ts.same {H H' : Hp} (s : Same H H') : Ts H H' := fun b xs e => s _ _ e
theorem Ts.gr {H H' : Hp} (s : Gr H H') : Ts H H' := fun b xs e => s.tup e
theorem Ts.new {H : Hp} {p : Addr} {o : HO} (h : H p = none) : Ts H (upd H p o) := Ts.same (same_upd h)
theorem Ts.set {H : Hp} {p : Addr} {xs ys : List V} (h : H p = some (.lst xs)) : Ts H (upd H p (.lst ys)) := fun b zs e => by
  rw [upd_ne (ne_of e h (by intro z; cases z))]
  exact e
mutual
theorem Tk.ts {H H' : Hp} (s : Ts H H') : ∀ {v : V} {d : PyData}, Tk H v d → noL d = true → Tk H' v d
  | _, _, .bl b, _ => .bl b
  | _, _, .int i, _ => .int i
  | _, _, .str x, _ => .str x
  | _, _, .lst h t, n => by cases n
  | _, _, .tup h t, n => .tup (s _ _ h) (t.ts s n)
theorem TkAll.ts {H H' : Hp} (s : Ts H H') : ∀ {vs : List V} {ds : List PyData}, TkAll H vs ds → noLs ds = true → TkAll H' vs ds
  | _, _, .nil, _ => .nil
  | _, _, .cons (d := d) (ds := ds) h t, n => by
    have n' : noL d = true ∧ noLs ds = true := Bool.and_eq_true_iff.mp n
    exact .cons (h.ts s n'.1) (t.ts s n'.2)
end
theorem noLs_map {α : Type} {f : α → PyData} (h : ∀ x, noL (f x) = true) : ∀ l : List α, noLs (l.map f) = true
  | [] => rfl
  | x :: r => by
    show (noL (f x) && noLs (r.map f)) = true
    rw [h x, noLs_map h r]
    rfl
theorem noL_row (r : List Int) : noL (rowD r) = true := noLs_map (fun _ => rfl) r
theorem noL_gate (g : Gt) : noL (gD g) = true := by
  show (true && (noLs ((g.2.map Int.ofNat).map PyData.int) && true)) = true
  rw [noLs_map (fun _ => rfl)]
  rfl
theorem noL_gates (gs : List Gt) : noLs (gs.map gD) = true := noLs_map noL_gate gs
theorem noL_net (m : Int) (gs : List Gt) : noL (netD m gs) = true := by
  show (true && (noLs (gs.map gD) && true)) = true
  rw [noL_gates]
  rfl
theorem noL_ch (a b : List Int) : noL (chD a b) = true := by
  show (noL (rowD a) && (noL (rowD b) && true)) = true
  rw [noL_row, noL_row]
  rfl

/-! ### slices and sums of tuples: what is told stands in a heap that has grown -/
theorem cut_all {xs : List V} {lo hi : Option Int} (h : HT.sIx xs.length 0 lo = 0 ∧ HT.sIx xs.length xs.length hi = xs.length) : cutV xs lo hi = xs := by
  unfold cutV
  rw [h.1, h.2, List.drop_zero, Nat.sub_zero, List.take_length]
theorem same_refl {H : Hp} : Same H H := fun _ _ e => e
theorem slA {K : PySem.W.Frag} {a : Addr} {xs : List V} {lo hi : Option Int} {H : Hp} {Q : VK} (h : H a = some (.tup xs)) (q : ∀ p H', Same H H' → H' p = some (.tup (cutV xs lo hi)) → Q (.ref p) H') : rSlA K (.ref a) lo hi H Q :=
  ⟨a, xs, rfl, SqT.of h, fun w => q a H same_refl (by rw [cut_all w]; exact h), fun _ p np => q p _ (same_upd np) upd_same⟩
theorem slAn {K : PySem.W.Frag} {a : Addr} {xs : List V} {lo : Option Int} {H : Hp} {Q : VK} {σ : L2.St} (h : H a = some (.tup xs)) (q : ∀ p H', Same H H' → H' p = some (.tup (cutV xs lo none)) → Q (.ref p) H') : tNoPart σ H (fun u H3 => rSlA K (.ref a) lo u H3 Q) := slA h q
theorem catA {K : PySem.W.Frag} {a b : Addr} {xs ys : List V} {H : Hp} {Q : VK} (ha : H a = some (.tup xs)) (hb : H b = some (.tup ys)) (hl : xs.length + ys.length ≤ sizeLine) (q : ∀ p H', Same H H' → H' p = some (.tup (xs ++ ys)) → Q (.ref p) H') : rCatA K (.ref a) (.ref b) H Q :=
  ⟨a, b, xs, ys, rfl, rfl, SqT.of ha, SqT.of hb, hl, fun e => q b H same_refl (by rw [e]; exact hb), fun _ e => q a H same_refl (by rw [e, List.append_nil]; exact ha), fun _ _ p np => q p _ (same_upd np) upd_same⟩
theorem cut_to {xs : List V} {k : Nat} : cutV xs none (some (k : Int)) = xs.take k := by
  unfold cutV
  rw [HT.sIx_none, HT.sIx_nat, List.drop_zero, Nat.sub_zero]
  apply List.ext_getElem?
  intro i
  rw [List.getElem?_take, List.getElem?_take]
  by_cases h : i < k
  · rw [if_pos h]
    by_cases h2 : i < xs.length
    · rw [if_pos (by omega)]
    · rw [List.getElem?_eq_none (by omega)]
      split <;> rfl
  · rw [if_neg h, if_neg (by omega)]
theorem cut_from {xs : List V} {k : Nat} : cutV xs (some (k : Int)) none = xs.drop k := by
  unfold cutV
  rw [HT.sIx_none, HT.sIx_nat]
  by_cases h : k ≤ xs.length
  · rw [Nat.min_eq_left h]
    exact List.take_of_length_le (by rw [List.length_drop]; exact Nat.le_refl _)
  · rw [Nat.min_eq_right (by omega), Nat.sub_self, List.take_zero, List.drop_eq_nil_of_le (by omega)]
theorem TkAll.take {H : Hp} : ∀ {xs : List V} {ds : List PyData} (k : Nat), TkAll H xs ds → TkAll H (xs.take k) (ds.take k)
  | _, _, 0, _ => by rw [List.take_zero, List.take_zero]; exact .nil
  | _, _, _ + 1, .nil => .nil
  | _, _, k + 1, .cons a t => .cons a (t.take k)
theorem TkAll.drop {H : Hp} : ∀ {xs : List V} {ds : List PyData} (k : Nat), TkAll H xs ds → TkAll H (xs.drop k) (ds.drop k)
  | _, _, 0, t => t
  | _, _, _ + 1, .nil => .nil
  | _, _, k + 1, .cons _ t => t.drop k
theorem set_put {α : Type} {l : List α} {i : Nat} {x : α} (h : i < l.length) : (l.take i ++ [x]) ++ l.drop (i + 1) = l.set i x := by
  rw [List.set_eq_take_append_cons_drop, if_pos h, List.append_assoc]
  rfl
def rJoinK (K : PySem.W.Frag) : V → List V → Hp → VK → Prop := fun x xs H Q => ∃ a p, ∃ ys : List Str, x = .str a ∧ xs = [.ref p] ∧ (SqL K H p (ys.map V.str) ∨ SqT K H p (ys.map V.str)) ∧ (ys.map (·.length)).sum + ys.length * a.length ≤ 16777216 ∧ Q (.str (Txt.join a ys)) H

/-! ### walks over texts -/
theorem lc_str {z : Str} {g : TG} {tt : TT} {te : TE} {vs : List Nat} {σ : L2.St} {H1 : Hp} {D : Addr} {Qd : Hp → Prop} (Pv : Nat → Hp → Prop) (h0 : Pv 0 (upd H1 D (.lst [])))
    (hs : ∀ i x H, z.cps[i]? = some x → Pv i H → g (.str ⟨#[x]⟩) (wipe σ vs) H fun σ2 H2 => wipe σ2 vs = wipe σ vs ∧ tt σ2 H2 fun b H3 =>
      if b = true then te σ2 H3 fun y H4 => ∃ acc, H4 D = some (.lst acc) ∧ acc.length < sizeLine ∧ Pv (i + 1) (upd H4 D (.lst (acc ++ [y]))) else Pv (i + 1) H3) (hd : ∀ H, Pv z.cps.size H → Qd H) :
    ∃ W : Nat → Nat → Hp → Prop, (∃ m, W 0 m (upd H1 D (.lst []))) ∧ ∀ i m H, W i m H →
      ((Its z).stop i H ∧ Qd H) ∨ ((Its z).go i H ∧ ∃ Nx : Hp → Prop, (∀ H', Nx H' → ∃ m', m' < m ∧ W (i + 1) m' H') ∧ ∀ x H', (Its z).yld i H x H' → g x (wipe σ vs) H' fun σ2 H2 => wipe σ2 vs = wipe σ vs ∧ tt σ2 H2 fun b H3 =>
        if b = true then te σ2 H3 fun y H4 => ∃ acc, H4 D = some (.lst acc) ∧ acc.length < sizeLine ∧ Nx (upd H4 D (.lst (acc ++ [y]))) else Nx H3) := by
  refine ⟨fun i m H => m = z.cps.size - i ∧ i ≤ z.cps.size ∧ Pv i H, ⟨z.cps.size, by simp, Nat.zero_le _, h0⟩, ?_⟩
  rintro i m H ⟨rfl, hi, p⟩
  by_cases hlt : i < z.cps.size
  · refine .inr ⟨hlt, Pv (i + 1), fun H' p' => ⟨z.cps.size - (i + 1), by omega, rfl, hlt, p'⟩, fun x H' y => ?_⟩
    obtain ⟨rfl, ch, hc, rfl⟩ := y
    exact hs i ch _ hc p
  · have e : i = z.cps.size := by omega
    subst e
    exact .inl ⟨Nat.le_refl _, hd H p⟩
theorem for_str {z : Str} {g : TG} {tb : TS} {D : Ends} {σ : L2.St} {H : Hp} (Pv : Nat → L2.St → Hp → Prop) (h0 : Pv 0 σ H)
    (hs : ∀ i x σ H, z.cps[i]? = some x → Pv i σ H → g (.str ⟨#[x]⟩) σ H fun σ2 H2 => tb { D with nx := Pv (i + 1), ct := Pv (i + 1), bk := D.nx } σ2 H2) (hd : ∀ σ H, Pv z.cps.size σ H → D.nx σ H) :
    ∃ W : Nat → Nat → L2.St → Hp → Prop, (∃ m, W 0 m σ H) ∧ ∀ i m σ H, W i m σ H →
      ((Its z).stop i H ∧ D.nx σ H) ∨ ((Its z).go i H ∧ ∃ N : L2.St → Hp → Prop, (∀ σ' H', N σ' H' → ∃ m', m' < m ∧ W (i + 1) m' σ' H') ∧ ∀ x H', (Its z).yld i H x H' → g x σ H' fun σ2 H2 => tb { D with nx := N, ct := N, bk := D.nx } σ2 H2) := by
  refine ⟨fun i m σ H => m = z.cps.size - i ∧ i ≤ z.cps.size ∧ Pv i σ H, ⟨z.cps.size, by simp, Nat.zero_le _, h0⟩, ?_⟩
  rintro i m σ H ⟨rfl, hi, p⟩
  by_cases hlt : i < z.cps.size
  · refine .inr ⟨hlt, Pv (i + 1), fun σ' H' p' => ⟨z.cps.size - (i + 1), by omega, rfl, hlt, p'⟩, fun x H' y => ?_⟩
    obtain ⟨rfl, ch, hc, rfl⟩ := y
    exact hs i ch σ _ hc p
  · have e : i = z.cps.size := by omega
    subst e
    exact .inl ⟨Nat.le_refl _, hd σ H p⟩
theorem S_at {p : List Nat} {i x : Nat} (h : (SX.S p).cps[i]? = some x) : p[i]? = some x := by
  have : (SX.S p).cps = p.toArray := rfl
  rw [this, List.getElem?_toArray] at h
  exact h
theorem S_size (p : List Nat) : (SX.S p).cps.size = p.length := by
  show p.toArray.size = _
  simp

section
variable {P : Program} {w : World} {K : PySem.W.Frag} {mg : Str → Option Value} {base : Heap}
/-! ### the deck of k42 to k49: a dict with cells, a seed, a count -/
def kC : Key := .inr (Str.ofString "cells")
def kS : Key := .inr (Str.ofString "seed")
def kN : Key := .inr (Str.ofString "count")
def GO (l : Addr) (y z : Int) : HO := .dK [(kC, .ref l), (kS, .int y), (kN, .int z)]
def DeckG (H : Hp) (d l : Addr) (n : Int) : Prop := d ≠ l ∧ ∃ (cs : List Int) (y z : Int), H d = some (GO l y z) ∧ H l = some (.lst (cs.map V.int)) ∧ cs.length ≤ 63 ∧ 0 ≤ z ∧ z ≤ n
theorem DeckG.mono {H : Hp} {d l : Addr} {n m : Int} (D : DeckG H d l n) (h : n ≤ m) : DeckG H d l m := by
  obtain ⟨ne, cs, y, z, h1, h2, h3, h4, h5⟩ := D
  exact ⟨ne, cs, y, z, h1, h2, h3, h4, Int.le_trans h5 h⟩
theorem DeckG.same {H H' : Hp} {d l : Addr} {n : Int} (D : DeckG H d l n) (s : Same H H') : DeckG H' d l n := by
  obtain ⟨ne, cs, y, z, hd, hl, r⟩ := D
  exact ⟨ne, cs, y, z, s _ _ hd, s _ _ hl, r⟩
theorem DeckG.gr {H H' : Hp} {d l : Addr} {n : Int} (D : DeckG H d l n) (s : Gr H H') : DeckG H' d l n := by
  obtain ⟨ne, cs, y, z, hd, hl, r⟩ := D
  exact ⟨ne, cs, y, z, s.1 d _ (fun _ z => by cases z) hd, s.lst hl, r⟩
theorem DeckG.upd {H : Hp} {d l p : Addr} {n : Int} {o : HO} (D : DeckG H d l n) (h1 : p ≠ d) (h2 : p ≠ l) : DeckG (upd H p o) d l n := by
  obtain ⟨ne, cs, y, z, hd, hl, r⟩ := D
  exact ⟨ne, cs, y, z, by rw [upd_ne h1.symm]; exact hd, by rw [upd_ne h2.symm]; exact hl, r⟩
theorem DeckG.off {H : Hp} {d l p : Addr} {n : Int} (D : DeckG H d l n) (h : H p = none) : p ≠ d ∧ p ≠ l := by
  obtain ⟨ne, cs, y, z, hd, hl, r⟩ := D
  exact ⟨(ne_of_none hd h).symm, (ne_of_none hl h).symm⟩
theorem dgC {H : Hp} {d l : Addr} {y z : Int} (h : H d = some (GO l y z)) : DGet H d (.str (Str.ofString "cells")) (some (.ref l)) := DGet.k (k := kC) h
theorem dgS {H : Hp} {d l : Addr} {y z : Int} (h : H d = some (GO l y z)) : DGet H d (.str (Str.ofString "seed")) (some (.int y)) := DGet.k (k := kS) h
theorem dgN {H : Hp} {d l : Addr} {y z : Int} (h : H d = some (GO l y z)) : DGet H d (.str (Str.ofString "count")) (some (.int z)) := DGet.k (k := kN) h
theorem dpS {H : Hp} {d l : Addr} {y z : Int} (v : Int) (h : H d = some (GO l y z)) : DPut H d (.str (Str.ofString "seed")) (.int v) (upd H d (GO l v z)) := DPut.k (k := kS) h (by show 3 < sizeLine; decide)
theorem dpN {H : Hp} {d l : Addr} {y z : Int} (v : Int) (h : H d = some (GO l y z)) : DPut H d (.str (Str.ofString "count")) (.int v) (upd H d (GO l y v)) := DPut.k (k := kN) h (by show 3 < sizeLine; decide)
theorem cut63 {ns : List Int} (h : ns.length ≤ 63) : cutV (ns.map V.int) none (some 63) = ns.map V.int := by
  unfold cutV
  have e : HT.sIx (ns.map V.int).length (ns.map V.int).length (some 63) = min 63 (ns.map V.int).length := HT.sIx_nat _ _ 63
  rw [HT.sIx_none, e, List.length_map, List.drop_zero]
  apply List.take_of_length_le
  rw [List.length_map]
  omega
theorem sq_same {K : PySem.W.Frag} {H H' : Hp} {a : Addr} {xs : List V} (s : Same H H') (h : SqL K H a xs) : SqL K H' a xs := h.imp (fun r => r.imp (fun e => s _ _ e) (fun ⟨ob, e⟩ => ⟨ob, s _ _ e⟩)) id
theorem at_hd {c : Int} {r : List Int} : atI ((c :: r).map V.int) 0 = some (.int c) := by
  show atI _ ((0 : Nat) : Int) = _
  exact atI_nat rfl
def sp_deck (K : PySem.W.Frag) : Sp := fun vs H Q _ => ∃ (a : Addr) (ns : List Int), vs = [.ref a] ∧ SqL K H a (ns.map V.int) ∧ ns.length ≤ 63 ∧ ∀ H' d l, Same H H' → DeckG H' d l 0 → Q (.ref d) H'
theorem ok_deck (T : Tx K mg) : FnOk P w K mg base CX0 1 T.f_deck T.fd_deck ["_law_script"] (sp_deck K) := by
  refine T.F_deck.ok sc_deck (fun vs H Q E h => ?_) (fun cdv A outer s H vs Q E hr h => ?_)
  · obtain ⟨a, ns, rfl, _⟩ := h
    rfl
  · obtain ⟨a, ns, rfl, hS, hlen, q⟩ := h
    refine ⟨_, (pss_one (ps_ret (pe_disp (pps_cons pe_str (pe_callTy call_list_of (by rfl) T.m_list (by decide +kernel) (pa_cons (pe_slice sl_list (pv 0) po_none (po_some pe_int)) pa_nil)) (pps_cons pe_str (pe_op op_add (pe_op op_mod (pe_callB (cr_sum rfl) (by rfl) T.m_sum (by decide +kernel) (pa_cons (pv 0) pa_nil)) pe_int) pe_int) (pps_cons pe_str pe_int pps_nil))) (by rfl) (by rfl) (fun z => by cases z) (by decide)))), ?_⟩
    refine fun d nd => ?_
    have s1 := same_upd (o := (HO.dK [])) nd
    have h1 : upd H d (HO.dK []) d = some (HO.dK []) := upd_same
    generalize upd H d (HO.dK []) = H1 at s1 h1 ⊢
    refine ⟨.ref a, rfl, 63, rfl, a, _, rfl, sq_same s1 hS, fun c1 n1 => ?_⟩
    rw [cut63 hlen]
    have s2 := same_upd (o := (HO.lst (ns.map V.int))) n1
    have h2 : upd H1 c1 (HO.lst (ns.map V.int)) c1 = some (HO.lst (ns.map V.int)) := upd_same
    generalize upd H1 c1 (HO.lst (ns.map V.int)) = H2 at s2 h2 ⊢
    refine ⟨c1, _, rfl, .inl (SqL.of h2), fun l nl => ?_⟩
    have s3 := same_upd (o := (HO.lst (ns.map V.int))) nl
    have h3 : upd H2 l (HO.lst (ns.map V.int)) l = some (HO.lst (ns.map V.int)) := upd_same
    generalize upd H2 l (HO.lst (ns.map V.int)) = H3 at s3 h3 ⊢
    have s13 := s2.trans s3
    refine ⟨.ref a, rfl, a, ns, rfl, sq_same (s1.trans s13) hS, _, _, rfl, rfl, (show (0 : Int) < 2147483629 by decide), _, _, rfl, rfl, ?_⟩
    have hd3 := s13 _ _ h1
    refine ⟨hd3, [(kC, .ref l), (kS, _), (kN, .int 0)], rfl, (show 3 ≤ 15 by decide), ?_⟩
    have em : ∀ v1 v2 v3 : V, mergeK [] [(kC, v1), (kS, v2), (kN, v3)] = [(kC, v1), (kS, v2), (kN, v3)] := fun v1 v2 v3 => rfl
    rw [em]
    have ndl : l ≠ d := (ne_of_none (s2 _ _ h1) nl).symm
    refine q _ d l (fun b o e => ?_) ⟨ndl.symm, ns, _, 0, upd_same, by rw [upd_ne ndl]; exact h3, hlen, Int.le_refl _, Int.le_refl _⟩
    rw [upd_ne (ne_of_none e nd)]
    exact s13 _ _ (s1 _ _ e)
/-! ### the next number -/
def sp_next (K : PySem.W.Frag) : Sp := fun vs H Q _ => ∃ (d l : Addr) (m n : Int), vs = [.ref d, .int m] ∧ DeckG H d l n ∧ n < 1000000000 ∧ 0 < m ∧ m < 1073741824 ∧ ∀ H' v, DeckG H' d l (n + 1) → Fr d l H H' → 0 ≤ v → v < m → Q (.int v) H'
theorem ok_next (T : Tx K mg) : FnOk P w K mg base CX0 1 T.f_next T.fd_next ["_law_deck_here", "_law_most"] (sp_next K) := by
  refine T.F_next.ok sc_next (fun vs H Q E h => ?_) (fun cdv A outer s H vs Q E hr h => ?_)
  · obtain ⟨d, l, m, n, rfl, _⟩ := h
    rfl
  · obtain ⟨d, l, m, n, rfl, D, hn, hm0, hm1, q⟩ := h
    obtain ⟨ne, cs, y, z, hd, hl, hcs, hz0, hz1⟩ := D
    refine ⟨_, (pss_cons (ps_dput (hu_of hr) (pv 0) pe_str (pe_op op_add (pe_dget (hu_of hr) (pv 0) pe_str (fun _ _ => rfl)) pe_int) rfl) (pss_cons (ps_set (i := 2) sc_next.nd rfl (by first | exact .inl rfl | exact .inr rfl) (pe_dget (hu_of hr) (pv 0) pe_str (fun _ _ => rfl))) (pss_cons (ps_set (i := 3) sc_next.nd rfl (by first | exact .inl rfl | exact .inr rfl) pe_int) (pss_cons (ps_if (pt_cut (pw_and (pt_cmpR (op_neD hr.units) (pv 2) (pe_lst pa_nil) (nomark _)) (pw_and1 (pt_cmpR op_ge (pe_ix ix_list (pv 2) pe_int (fun _ _ => rfl)) (pe_op op_pow pe_int pe_int) (nomark _)))).pt) (pss_cons (ps_set (i := 3) sc_next.nd rfl (by first | exact .inl rfl | exact .inr rfl) (pe_op op_mod (pe_ix ix_list (pv 2) pe_int (fun _ _ => rfl)) (pv 1))) (pss_cons (ps_asg (pe_op op_fdiv (pe_ix ix_list (pv 2) pe_int (fun _ _ => rfl)) (pv 1)) (pg_sub (pv 2) pe_int set_list)) (pss_one (ps_ret (pv 3))))) pss_nil) (C8.pss_cut (ps_if (pt_cmpR (op_neD hr.units) (pv 2) (pe_lst pa_nil) (nomark _)) (pss_one (ps_set (i := 3) sc_next.nd rfl (by first | exact .inl rfl | exact .inr rfl) (pe_bm PySem.F.plainAttrs_list PySem.F.slot_list_pop PySem.F.type_list_pop mt_popAt (pv 2) (pa_cons pe_int pa_nil)))) pss_nil) (pss_cons (ps_set (i := 4) sc_next.nd rfl (by first | exact .inl rfl | exact .inr rfl) (pe_op op_mod (pe_op op_add (pe_op op_add (pe_op op_mul (pe_dget (hu_of hr) (pv 0) pe_str (fun _ _ => rfl)) pe_int) (pe_op op_mul pe_int (pe_dget (hu_of hr) (pv 0) pe_str (fun _ _ => rfl)))) (pv 3)) pe_int)) (pss_cons (ps_dput (hu_of hr) (pv 0) pe_str (pv 4) rfl) (pss_one (ps_ret (pe_op op_mod (pe_op op_fdiv (pe_op op_mod (pe_op op_mul (pv 4) (pe_op op_add (pe_op op_fdiv (pv 4) pe_int) pe_int)) pe_int) pe_int) (pv 1))))))))))), ?_⟩
    refine ⟨.ref d, rfl, d, .int z, rfl, dgN hd, _, _, rfl, rfl, .ref d, rfl, d, _, rfl, dpN (z + 1) hd, ?_⟩
    have hd1 : upd H d (GO l y (z + 1)) d = some (GO l y (z + 1)) := upd_same
    have hl1 : upd H d (GO l y (z + 1)) l = some (.lst (cs.map V.int)) := by rw [upd_ne ne.symm]; exact hl
    have fr1 : Fr d l H (upd H d (GO l y (z + 1))) := Fr.d
    generalize upd H d (GO l y (z + 1)) = H1 at hd1 hl1 fr1 ⊢
    have hz2 : 0 ≤ z + 1 := by omega
    have hz3 : z + 1 ≤ n + 1 := by omega
    have hz4 : z + 1 < 2000000000 := by omega
    revert hz2 hz3 hz4 hd1
    generalize z + 1 = z'
    intro hd1 hz2 hz3 hz4
    refine ⟨.ref d, rfl, d, .ref l, rfl, dgC hd1, ?_⟩
    refine ⟨fun b H' => Same H1 H' ∧ (b = true → cs ≠ []), ?_, ?_⟩
    · refine ⟨.ref l, rfl, Nat.zero_le _, fun p np => ?_⟩
      have s2 := same_upd (o := (HO.lst [])) np
      have h2 : upd H1 p (HO.lst []) p = some (HO.lst []) := upd_same
      generalize upd H1 p (HO.lst []) = H2 at s2 h2 ⊢
      have hl2 := s2 _ _ hl1
      refine ⟨.list (cs.map .int), .list [], .lst (SqL.of hl2) (dpInts cs), .lst (SqL.of h2) .nil, shInts cs, rfl, _, rfl, ?_⟩
      cases cs with
      | nil => exact iteF ⟨s2, fun z => by cases z⟩
      | cons c r =>
        refine iteT ?_
        exact ⟨.ref l, rfl, l, _, 0, .int c, rfl, rfl, SqL.of hl2, at_hd, _, _, rfl, rfl, ⟨by decide, by decide, by decide⟩, _, _, rfl, rfl, _, rfl, s2, fun _ => List.cons_ne_nil _ _⟩
    rintro b H2 ⟨s2, hb⟩
    have hd2 := s2 _ _ hd1
    have hl2 := s2 _ _ hl1
    have fr2 : Fr d l H H2 := fr1.trans (Fr.of s2)
    refine ite2 (fun e => ?_) (fun e => ?_)
    · have hne := hb e
      cases cs with
      | nil => exact absurd rfl hne
      | cons c r =>
        refine ⟨.ref l, rfl, l, _, 0, .int c, rfl, rfl, SqL.of hl2, at_hd, .int m, rfl, _, _, rfl, rfl, hm0, ?_⟩
        refine ⟨.ref l, rfl, l, _, 0, .int c, rfl, rfl, SqL.of hl2, at_hd, .int m, rfl, _, _, rfl, rfl, (⟨hm0, hm1⟩ : 0 < m ∧ m < 1073741824), .ref l, rfl, l, _, 0, 0, rfl, rfl, hl2, by unfold ixN; rw [if_pos (by decide), List.length_map, if_pos (by rw [List.length_cons]; omega)]; rfl, ?_⟩
        refine ⟨.int (c % m), rfl, ?_⟩
        exact q _ _ ⟨ne, (c / m) :: r, y, z', by rw [upd_ne ne]; exact hd2, upd_same, hcs, hz2, hz3⟩ (fr2.trans Fr.l) (Int.emod_nonneg _ (by omega)) (Int.emod_lt_of_pos _ hm0)
    · refine ⟨fun σ H' => ∃ (c : Int) (cs' : List Int), σ = [some (.ref d), some (.int m), some (.ref l), some (.int c), none] ∧ H' d = some (GO l y z') ∧ H' l = some (.lst (cs'.map V.int)) ∧ cs'.length ≤ 63 ∧ Fr d l H H', ?_, ?_⟩
      · refine ⟨.ref l, rfl, Nat.zero_le _, fun p np => ?_⟩
        have s3 := same_upd (o := (HO.lst [])) np
        have h3 : upd H2 p (HO.lst []) p = some (HO.lst []) := upd_same
        generalize upd H2 p (HO.lst []) = H3 at s3 h3 ⊢
        have hl3 := s3 _ _ hl2
        have hd3 := s3 _ _ hd2
        refine ⟨.list (cs.map .int), .list [], .lst (SqL.of hl3) (dpInts cs), .lst (SqL.of h3) .nil, shInts cs, rfl, _, rfl, ?_⟩
        have fr3 := fr2.trans (Fr.of (d := d) (l := l) s3)
        cases cs with
        | nil => exact iteF ⟨0, [], rfl, hd3, hl3, hcs, fr3⟩
        | cons c r =>
          refine iteT ?_
          refine ⟨.ref l, rfl, .inl ⟨rfl, _, SqL.of hl3⟩, l, _, 0, 0, .int c, rfl, rfl, hl3, by decide, by decide, seqIx0 _ _, rfl, ?_⟩
          exact ⟨c, r, rfl, by rw [upd_ne ne]; exact hd3, upd_same, by simp at hcs; omega, fr3.trans Fr.l⟩
      · rintro σ H3 ⟨c, cs', rfl, hd3, hl3, hc3, fr3⟩
        have p87 : (0 : Int) < 2147483587 := by decide
        have p63 : (0 : Int) < 2147483563 := by decide
        refine ⟨.ref d, rfl, d, .int y, rfl, dgS hd3, _, _, rfl, rfl, .inr ⟨by decide, by decide⟩, .ref d, rfl, d, .int z', rfl, dgN hd3, _, _, rfl, rfl, .inl ⟨by decide, by decide⟩, _, _, rfl, rfl, .int c, rfl, _, _, rfl, rfl, _, _, rfl, rfl, p87, ?_⟩
        dsimp only
        have v0 := Int.emod_nonneg (y * 48271 + 69621 * z' + c) (show (2147483587 : Int) ≠ 0 by decide)
        have v1 := Int.emod_lt_of_pos (y * 48271 + 69621 * z' + c) (show (0 : Int) < 2147483587 by decide)
        revert v0 v1
        generalize (y * 48271 + 69621 * z' + c) % 2147483587 = v
        intro v0 v1
        refine ⟨.int v, rfl, .ref d, rfl, d, _, rfl, dpS v hd3, ?_⟩
        refine ⟨.int v, rfl, .int v, rfl, _, _, rfl, rfl, (⟨by decide, by decide⟩ : (0 : Int) < 7 ∧ (7 : Int) < 1073741824), _, _, rfl, rfl, _, _, rfl, rfl, .inl ⟨by omega, by omega⟩, _, _, rfl, rfl, p63, _, _, rfl, rfl, (⟨by decide, by decide⟩ : (0 : Int) < 64 ∧ (64 : Int) < 1073741824), .int m, rfl, _, _, rfl, rfl, hm0, ?_⟩
        exact q _ _ ⟨ne, cs', v, z', upd_same, by rw [upd_ne ne.symm]; exact hl3, hc3, hz2, hz3⟩ (fr3.trans Fr.d) (Int.emod_nonneg _ (by omega)) (Int.emod_lt_of_pos _ hm0)

end
end Gk

set_option Elab.async false
set_option linter.all false
set_option maxRecDepth 100000
set_option maxHeartbeats 1000000
set_option pp.maxSteps 1500
set_option pp.deepTerms false
namespace Gk
open PySem PySem.Spec PyProof.Rows L2
section
variable {P : Program} {w : World} {K : PySem.W.Frag} {mg : Str → Option Value} {base : Heap}
/-! ### products -/
def one (c : Nat) : Str := SX.S [c]
theorem one_len (c : Nat) : (one c).length = 1 := rfl
theorem joinL_nil : ∀ l : List (List Nat), TL.joinL [] l = l.flatten
  | [] => rfl
  | [p] => by simp [TL.joinL]
  | p :: q :: r => by
    show p ++ ([] ++ TL.joinL [] (q :: r)) = _
    rw [joinL_nil (q :: r)]
    rfl
theorem join_one (cs : List Nat) : Txt.join (Str.ofString "") (cs.map one) = SX.S cs := by
  have e : cs.map one = (cs.map fun c => [c]).map SX.S := by rw [List.map_map]; rfl
  have z : Str.ofString "" = SX.S [] := by decide +kernel
  rw [e, z, SX.join_S, joinL_nil]
  have : (cs.map fun c => [c]).flatten = cs := by
    clear e z
    induction cs with
    | nil => rfl
    | cons b r ih => rw [List.map_cons, List.flatten_cons, ih]; rfl
  rw [this]
theorem ones_sum (cs : List Nat) : ((cs.map one).map (·.length)).sum = cs.length := by
  induction cs with
  | nil => rfl
  | cons b r ih =>
    rw [List.map_cons, List.map_cons, List.sum_cons, ih, List.length_cons, one_len]
    omega
theorem join_fit {cs : List Nat} (h : cs.length ≤ 64) : ((cs.map one).map (·.length)).sum + (cs.map one).length * (Str.ofString "").length ≤ 16777216 := by
  rw [ones_sum]
  show cs.length + (cs.map one).length * 0 ≤ _
  omega
def SgOk (c : Nat) : Prop := c = 45 ∨ c = 48 ∨ c = 49
def ProdOk (m : Nat) (p : List Nat) : Prop := p.length = m ∧ ∀ c ∈ p, SgOk c
theorem dash_S : Str.ofString "-" = one 45 := by decide +kernel
theorem s8_S : Str.ofString "01-01---" = SX.S [48, 49, 45, 48, 49, 45, 45, 45] := by decide +kernel
theorem it8 : ∀ k : Nat, k < 8 → ∃ c, (SX.S [48, 49, 45, 48, 49, 45, 45, 45]).cps[k]? = some c ∧ SgOk c := by
  intro k h
  rcases k with _ | _ | _ | _ | _ | _ | _ | _ | k
  · exact ⟨48, rfl, .inr (.inl rfl)⟩
  · exact ⟨49, rfl, .inr (.inr rfl)⟩
  · exact ⟨45, rfl, .inl rfl⟩
  · exact ⟨48, rfl, .inr (.inl rfl)⟩
  · exact ⟨49, rfl, .inr (.inr rfl)⟩
  · exact ⟨45, rfl, .inl rfl⟩
  · exact ⟨45, rfl, .inl rfl⟩
  · exact ⟨45, rfl, .inl rfl⟩
  · omega
theorem at6 {x : Int} (h0 : 0 ≤ x) (h1 : x < 6) : ∃ v : Int, atI [V.int 6, .int 4, .int 3, .int 8, .int 8, .int 5] x = some (.int v) ∧ 0 < v ∧ v ≤ 8 := by
  obtain ⟨k, rfl⟩ := Int.eq_ofNat_of_zero_le h0
  have hk : k < 6 := by omega
  rcases k with _ | _ | _ | _ | _ | _ | k
  · exact ⟨6, rfl, by decide, by decide⟩
  · exact ⟨4, rfl, by decide, by decide⟩
  · exact ⟨3, rfl, by decide, by decide⟩
  · exact ⟨8, rfl, by decide, by decide⟩
  · exact ⟨8, rfl, by decide, by decide⟩
  · exact ⟨5, rfl, by decide, by decide⟩
  · omega
theorem mul_dash {m : Nat} (h1 : 1 ≤ m) (h6 : m ≤ 6) : Txt.mul (one 45) (m : Int) = SX.S (List.replicate m 45) := by
  rcases m with _ | _ | _ | _ | _ | _ | _ | m
  · omega
  all_goals first | decide +kernel | omega
def wS (b : Int) : Nat := if b = 1 then 49 else 48
theorem str01 {b : Int} (h : b = 0 ∨ b = 1) : (toString b : Str) = one (wS b) := by
  rcases h with rfl | rfl <;> decide +kernel
def rRepS : V → V → Hp → VK → Prop := fun x y H Q => ∃ (z : Str) (n : Int), x = .str z ∧ y = .int n ∧ z.length ≤ 16 ∧ 0 ≤ n ∧ n ≤ 1048576 ∧ Q (.str (Txt.mul z n)) H
theorem op_repS {X : Cx} : OpR X (binaryOp .Mult) rRepS := by
  intro pins s σ H x y v u Q I rx ry h
  obtain ⟨i, j, rfl, rfl, h1, h2, h3, q⟩ := h
  obtain ⟨t, rfl⟩ := rx
  obtain ⟨t', rfl⟩ := ry
  exact SB.mul (mulOk_of 16 1048576 h1 h3 (by omega) (by decide) (by decide)) fun t' tk => ⟨.str _, H, I.tok _, ⟨_, rfl⟩, q⟩

def Row01' (r : List Int) : Prop := ∀ x ∈ r, x = 0 ∨ x = 1
def hall (p q : List Nat) : Bool := (p.zip q).all fun z => decide (z.1 = 45) || decide (z.1 = z.2)
def meetM (p q : List Nat) : Bool := (p.zip q).all fun z => decide (z.1 = 45) || decide (z.2 = 45) || decide (z.1 = z.2)
def rowS (r : List Int) : List Nat := r.map wS
def hrow (p : List Nat) (r : List Int) : Bool := hall p (rowS r)
def cubeM (a b : List Int) : List Nat := (a.zip b).map fun z => if z.1 = z.2 then wS z.1 else 45
theorem S_list (p : List Nat) : (SX.S p).cps.toList.map (fun c => V.str ⟨#[c]⟩) = p.map fun c => V.str (one c) := by
  show (p.toArray.toList).map _ = _
  rw [List.toList_toArray]
  rfl
theorem one_at {p : List Nat} {i : Nat} {x : V} (h : (p.map fun c => V.str (one c))[i]? = some x) : ∃ c, p[i]? = some c ∧ x = V.str (one c) := by
  rw [List.getElem?_map] at h
  cases hz : p[i]? with
  | none => rw [hz] at h; cases h
  | some u => rw [hz] at h; exact ⟨u, rfl, (Option.some.inj h).symm⟩
theorem eqV_one (a b : Nat) : eqV (.str (one a)) (.str (one b)) = decide (a = b) := by
  show (one a == one b) = _
  by_cases z : a = b
  · subst z
    simp
  · rw [decide_eq_false z]
    refine beq_eq_false_iff_ne.mpr fun k => z ?_
    have := SX.S_inj k
    simpa using this
theorem zip_take_succ {α β : Type} {p : List α} {q : List β} {i : Nat} {a : α} {b : β} (h1 : p[i]? = some a) (h2 : q[i]? = some b) : (p.zip q).take (i + 1) = (p.zip q).take i ++ [(a, b)] := by
  rw [List.take_add_one]
  have : (p.zip q)[i]? = some (a, b) := by
    rw [List.getElem?_zip_eq_some]
    exact ⟨h1, h2⟩
  rw [this]
  rfl
theorem all_stop {α : Type} {l : List α} {f : α → Bool} {i : Nat} {a : α} (h : l.take (i + 1) = l.take i ++ [a]) (e : f a = false) : l.all f = false := by
  rw [← List.take_append_drop (i + 1) l, List.all_append, h, List.all_append]
  simp [e]

/-! ### a product drawn -/
theorem s01_S : Str.ofString "01" = SX.S [48, 49] := by decide +kernel
theorem it2 : ∀ k : Nat, k < 2 → ∃ c, (SX.S [48, 49]).cps[k]? = some c ∧ SgOk c := by
  intro k h
  rcases k with _ | _ | k
  · exact ⟨48, rfl, .inr (.inl rfl)⟩
  · exact ⟨49, rfl, .inr (.inr rfl)⟩
  · omega
theorem S_app (a b : List Nat) : SX.S a ++ SX.S b = SX.S (a ++ b) := by
  show (⟨a.toArray ++ b.toArray⟩ : Str) = ⟨(a ++ b).toArray⟩
  congr 1
  simp
def sp_product (K : PySem.W.Frag) : Sp := fun vs H Q _ => ∃ (d l : Addr) (n : Int) (m : Nat), vs = [.ref d, .int m] ∧ DeckG H d l n ∧ n < 900000000 ∧ m ≤ 6 ∧ ∀ (p : List Nat) (H' : Hp), DeckG H' d l (n + 13) → Fr d l H H' → ProdOk m p → Q (.str (SX.S p)) H'
theorem ok_product (T : Tx K mg) : FnOk P w K mg base CX0 2 T.f_product T.fd_product ["_law_deck_here", "_law_many"] (sp_product K) := by
  refine T.F_product.ok sc_product (fun vs H Q E h => ?_) (fun cdv A outer s H vs Q E hr h => ?_)
  · obtain ⟨d, l, n, m, rfl, _⟩ := h
    rfl
  · obtain ⟨d, l, n, m, rfl, D, hn, m6, q⟩ := h
    refine ⟨_, (pss_cons (ps_set (i := 2) sc_product.nd rfl (by first | exact .inl rfl | exact .inr rfl) (pe_call (ok_next T) (hr.mono (by decide)) (by rfl) T.g_next T.F_next.kp T.b_next .nil pass0 (pa_cons (pv 0) (pa_cons pe_int pa_nil)))) (pss_cons (ps_set (i := 3) sc_product.nd rfl (by first | exact .inl rfl | exact .inr rfl) pe_str) (pss_cons (ps_for PassesOwn.never rfl (pi_range1 (by rfl) T.m_range (pa_cons (pv 1) pa_nil)) (pg_name (i := 4) sc_product.nd rfl (by first | exact .inl rfl | exact .inr rfl)) (pss_cons (ps_set (i := 5) sc_product.nd rfl (by first | exact .inl rfl | exact .inr rfl) (pe_item_str pe_str (pe_call (ok_next T) (hr.mono (by decide)) (by rfl) T.g_next T.F_next.kp T.b_next .nil pass0 (pa_cons (pv 0) (pa_cons pe_int pa_nil))) (fun _ _ => rfl))) (pss_one (ps_set (i := 3) sc_product.nd rfl (by first | exact .inl rfl | exact .inr rfl) (pe_op op_add_str (pv 3) (pe_ix ix_list (pe_lst (pa_cons (pv 5) (pa_cons pe_str pa_nil))) (pe_callTy call_int1 (by rfl) T.m_int (by decide +kernel) (pa_cons (pe_cmpR op_lt (pe_call (ok_next T) (hr.mono (by decide)) (by rfl) T.g_next T.F_next.kp T.b_next .nil pass0 (pa_cons (pv 0) (pa_cons pe_int pa_nil))) (pv 2) (nomark _)) pa_nil)) (fun _ _ => rfl))))))) (pss_one (ps_ret (pv 3)))))), ?_⟩
    refine ⟨.ref d, rfl, d, l, 4, _, rfl, D, by omega, by decide, by decide, fun H1 ba D1 fr1 b0 b1 => ?_⟩
    refine ⟨.int m, rfl, (m : Int), rfl, by omega, by omega, ?_⟩
    refine for_range (lo := 0) (n := (m : Int).toNat) (fun i σ H' => ∃ (acc : List Nat) (y4 y5 : Option V), σ = [some (.ref d), some (.int m), some (.int ba), some (.str (SX.S acc)), y4, y5] ∧ DeckG H' d l (n + 1 + 2 * i) ∧ Fr d l H H' ∧ acc.length = i ∧ ∀ c ∈ acc, SgOk c)
      ⟨[], _, _, by rw [show Str.ofString "" = SX.S [] from by decide +kernel]; rfl, D1.mono (by omega), fr1, rfl, fun c hc => by cases hc⟩ ?_ ?_
    · rintro i σ H2 hi ⟨acc, y4, y5, rfl, D2, fr2, la, oka⟩
      have hi' : i < m := by simpa using hi
      refine ⟨.ref d, rfl, d, l, 2, _, rfl, D2, by omega, by decide, by decide, fun H3 v D3 fr3 v0 v1 => ?_⟩
      obtain ⟨c, hc, okc⟩ := it2 v.toNat (by omega)
      refine ⟨Str.ofString "01", v, c, rfl, rfl, v0, by omega, by rw [s01_S, SX.S_len]; show v < 2; omega, by rw [s01_S]; exact hc, ?_⟩
      refine ⟨.str (SX.S acc), rfl, .str ⟨#[c]⟩, rfl, sl2, fun p np => ?_⟩
      have s4 := same_upd (o := (HO.lst [V.str ⟨#[c]⟩, V.str (Str.ofString "-")])) np
      have h4 : upd H3 p (HO.lst [V.str ⟨#[c]⟩, V.str (Str.ofString "-")]) p = some (HO.lst [V.str ⟨#[c]⟩, V.str (Str.ofString "-")]) := upd_same
      generalize upd H3 p (HO.lst [V.str ⟨#[c]⟩, V.str (Str.ofString "-")]) = A1 at s4 h4 ⊢
      have D4 := D3.same s4
      have o4 := D3.off np
      refine ⟨.ref d, rfl, d, l, 4, _, rfl, D4, by omega, by decide, by decide, fun H5 u D5 fr5 u0 u1 => ?_⟩
      have h5 := fr5 _ _ o4.1 o4.2 h4
      have pick : ∃ c' : Nat, SgOk c' ∧ atI [V.str ⟨#[c]⟩, V.str (Str.ofString "-")] (if decide (u < ba) = true then 1 else 0) = some (.str (one c')) := by
        split
        · exact ⟨45, .inl rfl, by rw [dash_S]; rfl⟩
        · exact ⟨c, okc, rfl⟩
      obtain ⟨c', okc', hat⟩ := pick
      refine ⟨.int ba, rfl, _, _, rfl, rfl, .inr ⟨_, rfl, p, _, _, .str (one c'), rfl, rfl, SqL.of h5, hat, ?_⟩⟩
      refine ⟨SX.S acc, one c', rfl, rfl, ?_, ?_⟩
      · rw [SX.S_len]
        show acc.length + 1 ≤ sizeLine
        exact Nat.le_trans (show acc.length + 1 ≤ 64 by omega) (by decide)
      have e1 : SX.S acc ++ one c' = SX.S (acc ++ [c']) := S_app acc [c']
      rw [e1]
      refine ⟨acc ++ [c'], _, _, rfl, D5.mono (by push_cast; omega), ((fr2.trans fr3).trans (Fr.of s4)).trans fr5, by rw [List.length_append, la]; rfl, fun x hx => ?_⟩
      rcases List.mem_append.mp hx with h | h
      · exact oka x h
      · rw [List.mem_singleton.mp h]; exact okc'
    · rintro σ H2 ⟨acc, y4, y5, rfl, D2, fr2, la, oka⟩
      have em : (m : Int).toNat = m := by omega
      rw [em] at la D2
      exact ⟨.str (SX.S acc), rfl, q acc H2 (D2.mono (by omega)) fr2 ⟨la, oka⟩⟩

end
end Gk

set_option Elab.async false
set_option linter.all false
set_option maxRecDepth 100000
set_option maxHeartbeats 1000000
set_option pp.maxSteps 1500
set_option pp.deepTerms false
namespace Gk
open PySem PySem.Spec PyProof.Rows L2
section
variable {P : Program} {w : World} {K : PySem.W.Frag} {mg : Str → Option Value} {base : Heap}
/-! ### products and rows, the law's own -/
theorem eq_nilI (bad : List Int) : PyData.eqv (.list (bad.map .int)) (.list []) = bad.isEmpty := by cases bad <;> rfl
theorem not_in_two (c a : Nat) : (if true = true then !inV (.str (one c)) [V.str (Str.ofString "-"), V.str (one a)] else inV (.str (one c)) [V.str (Str.ofString "-"), V.str (one a)]) = !(decide (c = 45) || decide (c = a)) := by
  show (!(eqV (.str (Str.ofString "-")) (.str (one c)) || (eqV (.str (one a)) (.str (one c)) || false))) = _
  rw [dash_S, eqV_one, eqV_one, Bool.or_false]
  congr 2
  · exact decide_eq_decide.mpr ⟨Eq.symm, Eq.symm⟩
  · exact decide_eq_decide.mpr ⟨Eq.symm, Eq.symm⟩
def sp_holds (K : PySem.W.Frag) : Sp := fun vs H Q _ => ∃ (m : Nat) (p : List Nat) (a : Addr) (r : List Int), vs = [.str (SX.S p), .ref a] ∧ p.length = m ∧ H a = some (.tup (r.map V.int)) ∧ Row01' r ∧ r.length = m ∧ m ≤ 6 ∧ ∀ H', Same H H' → Q (.bl (hrow p r)) H'
theorem ok_holds (T : Tx K mg) : FnOk P w K mg base CX0 1 T.f_holds T.fd_holds ["_law_product_here", "_law_row"] (sp_holds K) := by
  refine T.F_holds.ok sc_holds (fun vs H Q E h => ?_) (fun cdv A outer s H vs Q E hr h => ?_)
  · obtain ⟨m, p, a, r, rfl, _⟩ := h
    rfl
  · obtain ⟨m, p, a, r, rfl, lp, ha, ok, lr, m6, q⟩ := h
    refine ⟨_, (pss_one (ps_ret (pe_cmpR (op_eqD hr.units) (pe_lc (own := [("_law_k", 2)]) (by rfl) sc_holds.nd (pi_range1 (by rfl) T.m_range (pa_cons (pe_callB call_len_seq (by rfl) T.m_len PySem.boot_len (pa_cons (pv 1) pa_nil)) pa_nil)) (blkOk_by (own := [("_law_k", 2)]) (N := ["_law_product_here", "_law_row", "_law_k"]) (sc := defScope s_holds) (by decide +kernel)) (fun _ _ _ _ _ => (pg_name (i := 2) sc_holds.nd rfl (by first | exact .inl rfl | exact .inr rfl))) (fun _ _ _ _ _ => (pts_one (pt_cmpR (show OpR _ _ (rIn K true) from op_notIn_seq) (pe_item_str (pv 0) (pv 2) (fun _ _ => rfl)) (pe_tup (pa_cons pe_str (pa_cons (pe_callTy call_str_int (by rfl) T.m_str (by decide +kernel) (pa_cons (pe_ix (show IxR _ (rIxT K) from ix_tup) (pv 1) (pv 2) (fun _ _ => rfl)) pa_nil)) pa_nil))) rfl))) (fun _ _ _ _ _ => (pv 2))) (pe_lst pa_nil) (nomark _)))), ?_⟩
    refine ⟨.ref a, rfl, a, _, rfl, .inr (SqT.of ha), ?_⟩
    rw [List.length_map, lr]
    refine ⟨(m : Int), rfl, by omega, by omega, fun L nL => ?_⟩
    refine lc_range (lo := 0) (n := (m : Int).toNat) (fun j H' => Same H (hd1 L H') ∧ ∃ bad : List Int, H' L = some (.lst (bad.map V.int)) ∧ bad.length ≤ j ∧ bad.isEmpty = ((p.zip (rowS r)).take j).all fun z => decide (z.1 = 45) || decide (z.1 = z.2)) ⟨hd1_of (same_upd nL) nL, [], upd_same, Nat.le_refl _, rfl⟩ ?_ ?_
    · rintro j H1 hj ⟨s1, bad, hL, lb, ih⟩
      have hj' : j < m := by simpa using hj
      have hc : p[j]? = some (p[j]'(by omega)) := List.getElem?_eq_getElem _
      have hx : r[j]? = some (r[j]'(by omega)) := List.getElem?_eq_getElem _
      revert hc hx
      generalize p[j]'(by omega) = c
      generalize r[j]'(by omega) = x
      intro hc hx
      have x01 := ok x (List.mem_of_getElem? hx)
      have hw : (rowS r)[j]? = some (wS x) := by unfold rowS; rw [List.getElem?_map, hx]; rfl
      have ez := zip_take_succ hc hw
      have hat : atI (r.map V.int) (0 + (j : Int)) = some (.int x) := by rw [Int.zero_add]; exact atI_nat (by rw [List.getElem?_map, hx]; rfl)
      refine ⟨rfl, .str (SX.S p), rfl, .int (0 + (j : Int)), rfl, SX.S p, 0 + (j : Int), c, rfl, rfl, by omega, by omega, by rw [SX.S_len]; omega, ?_, .ref a, rfl, .int (0 + (j : Int)), rfl, a, _, _, .int x, rfl, rfl, SqT.of (hd1_le _ _ (s1 _ _ ha)), hat, x, rfl, by rcases x01 with rfl | rfl <;> decide, sl2, fun t nt => ?_⟩
      · rw [show (0 + (j : Int)).toNat = j by omega]
        show p.toArray[j]? = some c
        rw [List.getElem?_toArray]
        exact hc
      rw [str01 x01]
      have st := same_upd (o := HO.tup [V.str (Str.ofString "-"), V.str (one (wS x))]) nt
      refine ⟨t, _, rfl, .inr (SqT.of upd_same), rfl, rfl, _, rfl, ?_⟩
      have sL := s1.trans (hd1_same (p := L) st)
      have nin := not_in_two c (wS x)
      refine ite2 (fun e => ?_) (fun e => ?_)
      · have e' : (decide (c = 45) || decide (c = wS x)) = false := by
          have := nin.symm.trans e
          simpa using this
        refine ⟨.int (0 + (j : Int)), rfl, _, st _ _ hL, ?_, sL.trans hd1_upd, bad ++ [0 + (j : Int)], by rw [upd_same, List.map_append]; rfl, by rw [List.length_append]; exact Nat.succ_le_succ lb, ?_⟩
        · rw [List.length_map]
          exact Nat.lt_of_lt_of_le (show _ < 64 by omega) (by decide)
        · rw [ez, List.all_append]
          show _ = (_ && ((decide (c = 45) || decide (c = wS x)) && true))
          rw [e', Bool.false_and, Bool.and_false]
          cases bad <;> rfl
      · have e' : (decide (c = 45) || decide (c = wS x)) = true := by
          cases hh : (decide (c = 45) || decide (c = wS x)) with
          | true => rfl
          | false => exact absurd (nin.trans (by rw [hh]; rfl)) e
        refine ⟨sL, bad, st _ _ hL, by omega, ?_⟩
        rw [ez, List.all_append, ih]
        show _ = (_ && ((decide (c = 45) || decide (c = wS x)) && true))
        rw [e']
        simp
    · rintro H1 ⟨s1, bad, hL, lb, ih⟩
      have s1' : Same H H1 := fun b o e => hd1_le _ _ (s1 _ _ e)
      refine ⟨Nat.zero_le _, fun e ne => ?_⟩
      have s2 := same_upd (o := HO.lst []) ne
      refine ⟨.list (bad.map .int), .list [], .lst (SqL.of (s2 _ _ hL)) (dpInts bad), .lst (SqL.of upd_same) .nil, shInts bad, rfl, ?_⟩
      rw [eq_nilI, ih]
      have : (p.zip (rowS r)).length ≤ (m : Int).toNat := by rw [List.length_zip]; omega
      rw [List.take_of_length_le this]
      exact q _ (s1'.trans s2)

end
end Gk

set_option Elab.async false
set_option linter.all false
set_option maxRecDepth 100000
set_option maxHeartbeats 1000000
set_option pp.maxSteps 1500
set_option pp.deepTerms false
namespace Gk
open PySem PySem.Spec PyProof.Rows L2
theorem str_dec (x y : Str) : decide (V.str x = V.str y) = decide (x = y) := by
  by_cases z : x = y
  · rw [decide_eq_true z, decide_eq_true (by rw [z])]
  · rw [decide_eq_false z, decide_eq_false (fun k => z (V.str.inj k))]
theorem one_inj {a b : Nat} : decide (one a = one b) = decide (a = b) := by
  by_cases z : a = b
  · rw [decide_eq_true z, decide_eq_true (by rw [z])]
  · rw [decide_eq_false z, decide_eq_false (fun k => z (by have := SX.S_inj k; simpa using this))]

section
variable {P : Program} {w : World} {K : PySem.W.Frag} {mg : Str → Option Value} {base : Heap}
theorem dash_in_two (c a : Nat) : (if true = true then !inV (.str (Str.ofString "-")) [V.str (one c), V.str (one a)] else inV (.str (Str.ofString "-")) [V.str (one c), V.str (one a)]) = !(decide (c = 45) || decide (a = 45)) := by
  show (!(eqV (.str (one c)) (.str (Str.ofString "-")) || (eqV (.str (one a)) (.str (Str.ofString "-")) || false))) = _
  rw [dash_S, eqV_one, eqV_one, Bool.or_false]
def sp_meets (K : PySem.W.Frag) : Sp := fun vs H Q _ => ∃ (m : Nat) (p q' : List Nat), vs = [.str (SX.S p), .str (SX.S q')] ∧ p.length = m ∧ q'.length = m ∧ m ≤ 6 ∧ ∀ H', Same H H' → Q (.bl (meetM p q')) H'
theorem ok_meets (T : Tx K mg) : FnOk P w K mg base CX0 1 T.f_meets T.fd_meets ["_law_product_here", "_law_other"] (sp_meets K) := by
  refine T.F_meets.ok sc_meets (fun vs H Q E h => ?_) (fun cdv A outer s H vs Q E hr h => ?_)
  · obtain ⟨m, p, q', rfl, _⟩ := h
    rfl
  · obtain ⟨m, p, q', rfl, lp, lq, m6, q⟩ := h
    refine ⟨_, (pss_one (ps_ret (pe_cmpR (op_eqD hr.units) (pe_lc (own := [("_law_k", 2)]) (by rfl) sc_meets.nd (pi_range1 (by rfl) T.m_range (pa_cons (pe_callB call_len_str (by rfl) T.m_len PySem.boot_len (pa_cons (pv 1) pa_nil)) pa_nil)) (blkOk_by (own := [("_law_k", 2)]) (N := ["_law_product_here", "_law_other", "_law_k"]) (sc := defScope s_meets) (by decide +kernel)) (fun _ _ _ _ _ => (pg_name (i := 2) sc_meets.nd rfl (by first | exact .inl rfl | exact .inr rfl))) (fun _ _ _ _ _ => (pts_one (PW.pt (pw_and (pt_cmpR op_ne (pe_item_str (pv 0) (pv 2) (fun _ _ => rfl)) (pe_item_str (pv 1) (pv 2) (fun _ _ => rfl)) (nomark _)) (pw_and1 (pt_cmpR (show OpR _ _ (rIn K true) from op_notIn_seq) pe_str (pe_tup (pa_cons (pe_item_str (pv 0) (pv 2) (fun _ _ => rfl)) (pa_cons (pe_item_str (pv 1) (pv 2) (fun _ _ => rfl)) pa_nil))) rfl)))))) (fun _ _ _ _ _ => (pv 2))) (pe_lst pa_nil) (nomark _)))), ?_⟩
    refine ⟨.str (SX.S q'), rfl, _, rfl, ?_, ?_⟩
    · rw [SX.S_len, lq]
      exact Nat.le_trans (show m ≤ 64 by omega) (by decide)
    rw [SX.S_len, lq]
    refine ⟨(m : Int), rfl, by omega, by omega, fun L nL => ?_⟩
    refine lc_range (lo := 0) (n := (m : Int).toNat) (fun j H' => Same H (hd1 L H') ∧ ∃ bad : List Int, H' L = some (.lst (bad.map V.int)) ∧ bad.length ≤ j ∧ bad.isEmpty = ((p.zip q').take j).all fun z => decide (z.1 = 45) || decide (z.2 = 45) || decide (z.1 = z.2)) ⟨hd1_of (same_upd nL) nL, [], upd_same, Nat.le_refl _, rfl⟩ ?_ ?_
    · rintro j H1 hj ⟨s1, bad, hL, lb, ih⟩
      have hj' : j < m := by simpa using hj
      have hc : p[j]? = some (p[j]'(by omega)) := List.getElem?_eq_getElem _
      have hx : q'[j]? = some (q'[j]'(by omega)) := List.getElem?_eq_getElem _
      revert hc hx
      generalize p[j]'(by omega) = c
      generalize q'[j]'(by omega) = x
      intro hc hx
      have ez := zip_take_succ hc hx
      have at_ : ∀ {l : List Nat} {y : Nat}, l[j]? = some y → (SX.S l).cps[(0 + (j : Int)).toNat]? = some y := fun {l y} h => by
        rw [show (0 + (j : Int)).toNat = j by omega]
        show l.toArray[j]? = some y
        rw [List.getElem?_toArray]
        exact h
      have h0 : (0 : Int) ≤ 0 + (j : Int) := by omega
      have h63 : 0 + (j : Int) < 2 ^ 63 := by omega
      have hp : 0 + (j : Int) < (SX.S p).length := by rw [SX.S_len]; omega
      have hq : 0 + (j : Int) < (SX.S q').length := by rw [SX.S_len]; omega
      have skip : ∀ H2, Same H1 H2 → (decide (c = 45) || decide (x = 45) || decide (c = x)) = true → (Same H (hd1 L H2) ∧ ∃ bad : List Int, H2 L = some (.lst (bad.map V.int)) ∧ bad.length ≤ j + 1 ∧ bad.isEmpty = ((p.zip q').take (j + 1)).all fun z => decide (z.1 = 45) || decide (z.2 = 45) || decide (z.1 = z.2)) := fun H2 s2 e' => by
        refine ⟨s1.trans (hd1_same (p := L) s2), bad, s2 _ _ hL, by omega, ?_⟩
        rw [ez, List.all_append, ih]
        show _ = (_ && ((decide (c = 45) || decide (x = 45) || decide (c = x)) && true))
        rw [e']
        simp
      refine ⟨rfl, .str (SX.S p), rfl, .int (0 + (j : Int)), rfl, SX.S p, 0 + (j : Int), c, rfl, rfl, h0, h63, hp, at_ hc, .str (SX.S q'), rfl, .int (0 + (j : Int)), rfl, SX.S q', 0 + (j : Int), x, rfl, rfl, h0, h63, hq, at_ hx, rfl, _, rfl, ite2 (fun e => ?_) (fun e => ?_)⟩
      · have ncx : ¬ c = x := fun z => by
          rw [z] at e
          simp at e
        refine ⟨.str (SX.S p), rfl, .int (0 + (j : Int)), rfl, SX.S p, 0 + (j : Int), c, rfl, rfl, h0, h63, hp, at_ hc, .str (SX.S q'), rfl, .int (0 + (j : Int)), rfl, SX.S q', 0 + (j : Int), x, rfl, rfl, h0, h63, hq, at_ hx, sl2, fun t nt => ?_⟩
        have st := same_upd (o := HO.tup [V.str (one c), V.str (one x)]) nt
        refine ⟨t, _, rfl, .inr (SqT.of upd_same), rfl, rfl, _, rfl, ?_⟩
        have nin := dash_in_two c x
        have sL := s1.trans (hd1_same (p := L) st)
        refine ite2 (fun e2 => ?_) (fun e2 => ?_)
        · have e' : (decide (c = 45) || decide (x = 45) || decide (c = x)) = false := by
            have := nin.symm.trans e2
            rw [decide_eq_false ncx, Bool.or_false]
            simpa using this
          refine ⟨.int (0 + (j : Int)), rfl, _, st _ _ hL, ?_, sL.trans hd1_upd, bad ++ [0 + (j : Int)], by rw [upd_same, List.map_append]; rfl, by rw [List.length_append]; exact Nat.succ_le_succ lb, ?_⟩
          · rw [List.length_map]
            exact Nat.lt_of_lt_of_le (show _ < 64 by omega) (by decide)
          · rw [ez, List.all_append]
            show _ = (_ && ((decide (c = 45) || decide (x = 45) || decide (c = x)) && true))
            rw [e', Bool.false_and, Bool.and_false]
            cases bad <;> rfl
        · refine skip _ st ?_
          cases hh : (decide (c = 45) || decide (x = 45)) with
          | true => rfl
          | false => exact absurd (nin.trans (by rw [hh]; rfl)) e2
      · refine skip _ (Same.refl _) ?_
        have cx : c = x := by
          by_cases z : c = x
          · exact z
          · refine absurd ?_ e
            show (!decide (V.str (one c) = V.str (one x))) = true
            rw [str_dec, one_inj, decide_eq_false z]
            rfl
        rw [decide_eq_true cx, Bool.or_true]
    · rintro H1 ⟨s1, bad, hL, lb, ih⟩
      have s1' : Same H H1 := fun b o e => hd1_le _ _ (s1 _ _ e)
      refine ⟨Nat.zero_le _, fun e ne => ?_⟩
      have s2 := same_upd (o := HO.lst []) ne
      refine ⟨.list (bad.map .int), .list [], .lst (SqL.of (s2 _ _ hL)) (dpInts bad), .lst (SqL.of upd_same) .nil, shInts bad, rfl, ?_⟩
      rw [eq_nilI, ih]
      have : (p.zip q').length ≤ (m : Int).toNat := by rw [List.length_zip]; omega
      rw [List.take_of_length_le this]
      exact q _ (s1'.trans s2)

end
end Gk

set_option Elab.async false
set_option linter.all false
set_option maxRecDepth 100000
set_option maxHeartbeats 1000000
set_option pp.maxSteps 1500
set_option pp.deepTerms false
namespace Gk
open PySem PySem.Spec PyProof.Rows L2
section
variable {P : Program} {w : World} {K : PySem.W.Frag} {mg : Str → Option Value} {base : Heap}
def sp_cube (K : PySem.W.Frag) : Sp := fun vs H Q _ => ∃ (m : Nat) (ra rb : Addr) (a b : List Int), vs = [.ref ra, .ref rb] ∧ H ra = some (.tup (a.map V.int)) ∧ H rb = some (.tup (b.map V.int)) ∧ Row01' a ∧ a.length = m ∧ b.length = m ∧ m ≤ 6 ∧ ∀ H', Same H H' → Q (.str (SX.S (cubeM a b))) H'
theorem ok_cube (T : Tx K mg) : FnOk P w K mg base CX0 1 T.f_cube T.fd_cube ["_law_one", "_law_other"] (sp_cube K) := by
  refine T.F_cube.ok sc_cube (fun vs H Q E h => ?_) (fun cdv A outer s H vs Q E hr h => ?_)
  · obtain ⟨m, ra, rb, a, b, rfl, _⟩ := h
    rfl
  · obtain ⟨m, ra, rb, a, b, rfl, ha, hb, oa, la, lb, m6, q⟩ := h
    refine ⟨_, (pss_one (ps_ret (pe_join pe_str (pe_lc (own := [("_law_k", 2)]) (by rfl) sc_cube.nd (pi_range1 (by rfl) T.m_range (pa_cons (pe_callB call_len_seq (by rfl) T.m_len PySem.boot_len (pa_cons (pv 0) pa_nil)) pa_nil)) (blkOk_by (own := [("_law_k", 2)]) (N := ["_law_one", "_law_other", "_law_k"]) (sc := defScope s_cube) (by decide +kernel)) (fun _ _ _ _ _ => (pg_name (i := 2) sc_cube.nd rfl (by first | exact .inl rfl | exact .inr rfl))) (fun _ _ _ _ _ => pts_nil) (fun _ _ _ _ _ => (pe_ix (show IxR _ (rIxL K) from ix_list) (pe_lst (pa_cons pe_str (pa_cons (pe_callTy call_str_int (by rfl) T.m_str (by decide +kernel) (pa_cons (pe_ix (show IxR _ (rIxT K) from ix_tup) (pv 0) (pv 2) (fun _ _ => rfl)) pa_nil)) pa_nil))) (pe_callTy call_int1 (by rfl) T.m_int (by decide +kernel) (pa_cons (pe_cmpR op_eq (pe_ix (show IxR _ (rIxT K) from ix_tup) (pv 0) (pv 2) (fun _ _ => rfl)) (pe_ix (show IxR _ (rIxT K) from ix_tup) (pv 1) (pv 2) (fun _ _ => rfl)) (nomark _)) pa_nil)) (fun _ _ => rfl))))))), ?_⟩
    refine ⟨⟨_, rfl⟩, .ref ra, rfl, ra, _, rfl, .inr (SqT.of ha), ?_⟩
    rw [List.length_map, la]
    refine ⟨(m : Int), rfl, by omega, by omega, fun L nL => ?_⟩
    refine lc_range (lo := 0) (n := (m : Int).toNat) (fun j H' => Same H (hd1 L H') ∧ H' L = some (.lst (((((a.zip b).take j).map fun z => if z.1 = z.2 then wS z.1 else 45).map one).map V.str))) ⟨hd1_of (same_upd nL) nL, upd_same⟩ ?_ ?_
    · rintro j H1 hj ⟨s1, hL⟩
      have hj' : j < m := by simpa using hj
      have hu : a[j]? = some (a[j]'(by omega)) := List.getElem?_eq_getElem _
      have hv : b[j]? = some (b[j]'(by omega)) := List.getElem?_eq_getElem _
      revert hu hv
      generalize a[j]'(by omega) = u
      generalize b[j]'(by omega) = v
      intro hu hv
      have u01 := oa u (List.mem_of_getElem? hu)
      have ez := zip_take_succ hu hv
      have at_ : ∀ {l : List Int} {y : Int}, l[j]? = some y → atI (l.map V.int) (0 + (j : Int)) = some (.int y) := fun {l y} h => by
        rw [Int.zero_add]
        exact atI_nat (by rw [List.getElem?_map, h]; rfl)
      have ha1 := hd1_le _ _ (s1 _ _ ha)
      have hb1 := hd1_le _ _ (s1 _ _ hb)
      refine ⟨rfl, .ref ra, rfl, .int (0 + (j : Int)), rfl, ra, _, _, .int u, rfl, rfl, SqT.of ha1, at_ hu, u, rfl, by rcases u01 with rfl | rfl <;> decide, sl2, fun p np => ?_⟩
      rw [str01 u01]
      have sp := same_upd (o := HO.lst [V.str (Str.ofString "-"), V.str (one (wS u))]) np
      have hp : (upd H1 p (.lst [V.str (Str.ofString "-"), V.str (one (wS u))])) p = some (.lst [V.str (Str.ofString "-"), V.str (one (wS u))]) := upd_same
      generalize upd H1 p _ = H2 at sp hp ⊢
      have pick : atI [V.str (Str.ofString "-"), V.str (one (wS u))] (if decide (V.int u = V.int v) = true then 1 else 0) = some (.str (one (if u = v then wS u else 45))) := by
        by_cases z : u = v
        · rw [if_pos (decide_eq_true (by rw [z])), if_pos z]; rfl
        · rw [if_neg (fun k => z (V.int.inj (of_decide_eq_true k))), if_neg z, dash_S]; rfl
      refine ⟨.ref ra, rfl, .int (0 + (j : Int)), rfl, ra, _, _, .int u, rfl, rfl, SqT.of (sp _ _ ha1), at_ hu, .ref rb, rfl, .int (0 + (j : Int)), rfl, rb, _, _, .int v, rfl, rfl, SqT.of (sp _ _ hb1), at_ hv, rfl, .inr ⟨_, rfl, p, _, _, _, rfl, rfl, SqL.of hp, pick, ?_⟩⟩
      have sL := s1.trans (hd1_same (p := L) sp)
      refine ⟨_, sp _ _ hL, ?_, sL.trans hd1_upd, ?_⟩
      · rw [List.length_map, List.length_map, List.length_map, List.length_take, List.length_zip]
        exact Nat.lt_of_lt_of_le (show _ < 64 by omega) (by decide)
      · rw [upd_same, ez, List.map_append, List.map_append, List.map_append]
        rfl
    · rintro H1 ⟨s1, hL⟩
      have s1' : Same H H1 := fun b o e => hd1_le _ _ (s1 _ _ e)
      have : (a.zip b).length ≤ (m : Int).toNat := by rw [List.length_zip]; omega
      rw [List.take_of_length_le this] at hL
      refine ⟨Str.ofString "", L, (cubeM a b).map one, rfl, rfl, .inl (SqL.of hL), join_fit (by unfold cubeM; rw [List.length_map, List.length_zip]; omega), ?_⟩
      rw [join_one]
      exact q _ s1'

end
end Gk

set_option Elab.async false
set_option linter.all false
set_option maxRecDepth 100000
set_option maxHeartbeats 1000000
set_option pp.maxSteps 1500
set_option pp.deepTerms false
namespace Gk
open PySem PySem.Spec PyProof.Rows L2
section
variable {P : Program} {w : World} {K : PySem.W.Frag} {mg : Str → Option Value} {base : Heap}
/-! ### all rows, the law's own -/
def rowsL : Nat → List (List Int)
  | 0 => [[]]
  | k + 1 => (rowsL k).map (· ++ [0]) ++ (rowsL k).map (· ++ [1])
theorem rowsL_len : ∀ k, (rowsL k).length = 2 ^ k
  | 0 => rfl
  | k + 1 => by
    unfold rowsL
    rw [List.length_append, List.length_map, List.length_map, rowsL_len k, Nat.pow_succ]
    omega
theorem rowsL_ok : ∀ k, ∀ r ∈ rowsL k, r.length = k ∧ Row01' r
  | 0, r, h => by
    rw [List.mem_singleton.mp h]
    exact ⟨rfl, fun x hx => by cases hx⟩
  | k + 1, r, h => by
    unfold rowsL at h
    rcases List.mem_append.mp h with h | h
    · obtain ⟨q, hq, rfl⟩ := List.mem_map.mp h
      have ih := rowsL_ok k q hq
      refine ⟨by rw [List.length_append, ih.1]; rfl, fun x hx => ?_⟩
      rcases List.mem_append.mp hx with z | z
      · exact ih.2 x z
      · exact .inl (List.mem_singleton.mp z)
    · obtain ⟨q, hq, rfl⟩ := List.mem_map.mp h
      have ih := rowsL_ok k q hq
      refine ⟨by rw [List.length_append, ih.1]; rfl, fun x hx => ?_⟩
      rcases List.mem_append.mp hx with z | z
      · exact ih.2 x z
      · exact .inr (List.mem_singleton.mp z)
theorem rowD_snoc (r : List Int) (v : Int) : rowD (r ++ [v]) = .tuple (r.map PyData.int ++ [.int v]) := by
  unfold rowD
  rw [List.map_append]
  rfl
/-- the walk that puts one more worth behind each row -/
theorem more_step {H1 : Hp} {D : Addr} {rs : List (List Int)} {cs : List V} {ca : Addr} (v : Int) (hca : H1 ca = some (.lst cs)) (tcs : TkAll H1 cs (rs.map rowD)) (rl : ∀ r ∈ rs, r.length ≤ 8) (rs64 : rs.length ≤ 64) {k : Nat} {x : V} {H2 : Hp} (hx : cs[k]? = some x) (s2 : Same H1 (hd1 D H2)) {acc : List V} (hD : H2 D = some (.lst acc)) (ta : TkAll (hd1 D H2) acc ((rs.take k).map fun r => rowD (r ++ [v]))) (Q : VK)
    (q : ∀ (p : Addr) (H4 : Hp), H4 D = some (.lst acc) → Same H1 (hd1 D (upd H4 D (.lst (acc ++ [.ref p])))) → TkAll (hd1 D (upd H4 D (.lst (acc ++ [.ref p])))) (acc ++ [.ref p]) ((rs.take (k + 1)).map fun r => rowD (r ++ [v])) → Q (.ref p) H4) :
    ∀ t, H2 t = none → rCatA K x (.ref t) (upd H2 t (.tup [.int v])) Q := by
  intro t nt
  obtain ⟨r, hr, tx⟩ := tcs.at hx
  obtain ⟨xa, rfl, hxa⟩ := Tk.row_inv tx
  have rl' := rl r (List.mem_of_getElem? hr)
  have st := same_upd (o := HO.tup [V.int v]) nt
  have ntD : t ≠ D := (ne_of_none hD nt).symm
  have sD := hd1_same (p := D) st
  refine catA (st _ _ (hd1_le _ _ (s2 _ _ hxa))) upd_same ?_ fun p H4 s4 h4 => ?_
  · rw [List.length_map]
    exact Nat.le_trans (show _ ≤ 64 by simp only [List.length_cons, List.length_nil]; omega) (by decide)
  have hD4 := s4 _ _ (st _ _ hD)
  have npD : p ≠ D := ne_of h4 hD4 (by intro z; cases z)
  have s4D := hd1_same (p := D) s4
  refine q p H4 hD4 (((s2.trans sD).trans s4D).trans hd1_upd) ?_
  rw [List.take_add_one, hr]
  show TkAll _ _ ((rs.take k ++ [r]).map _)
  rw [List.map_append]
  refine (((ta.same sD).same s4D).same hd1_upd).append (.cons ?_ .nil)
  show Tk _ _ (rowD (r ++ [v]))
  rw [rowD_snoc]
  refine .tup (xs := r.map V.int ++ [.int v]) ?_ ((TkAll.ints _).append (.cons (.int _) .nil))
  rw [hd1_at npD, upd_ne npD]
  exact h4

def adjR : List (List Int) → Bool
  | x :: y :: r => !HT.lexLt y x && adjR (y :: r)
  | _ => true
theorem adjR_srt : ∀ l : List (List Int), adjR l = true → l.Pairwise fun x y => HT.lexLt y x = false
  | [], _ => List.Pairwise.nil
  | [x], _ => List.pairwise_singleton _ _
  | x :: y :: r, h => by
    have h : (!HT.lexLt y x && adjR (y :: r)) = true := h
    rw [Bool.and_eq_true] at h
    have t := adjR_srt (y :: r) h.2
    have hx : HT.lexLt y x = false := by simpa using h.1
    refine List.pairwise_cons.mpr ⟨fun z hz => ?_, t⟩
    rcases List.mem_cons.mp hz with rfl | hz
    · exact hx
    · exact SrtTT.lex_tr _ _ _ hx ((List.pairwise_cons.mp t).1 z hz)

theorem vint_injX : ∀ {a b : List Int}, a.map V.int = b.map V.int → a = b
  | [], [], _ => rfl
  | [], _ :: _, h => by cases h
  | _ :: _, [], h => by cases h
  | x :: r, y :: t, h => by
    have h := List.cons.inj h
    have e : x = y := by injection h.1
    rw [e, vint_injX h.2]
theorem row_uniq {H : Hp} {v : V} {p q : List Int} (h : Tk H v (rowD p)) (h' : Tk H v (rowD q)) : p = q := by
  obtain ⟨a, rfl, ha⟩ := h.row_inv
  obtain ⟨a', e, ha'⟩ := h'.row_inv
  cases e
  rw [ha] at ha'
  have e1 : p.map V.int = q.map V.int := by injection ha' with z; injection z
  exact vint_injX e1
noncomputable def keyR (H : Hp) (v : V) : List Int := Classical.epsilon fun p => Tk H v (rowD p)
theorem keyR_eq {H : Hp} {v : V} {p : List Int} (h : Tk H v (rowD p)) : keyR H v = p := row_uniq (Classical.epsilon_spec (p := fun p => Tk H v (rowD p)) ⟨p, h⟩) h
theorem keysR_eq {H : Hp} : ∀ {xs : List V} {ds : List (List Int)}, TkAll H xs (ds.map rowD) → xs.map (keyR H) = ds
  | [], [], .nil => rfl
  | _ :: _, _ :: _, .cons h t => by rw [List.map_cons, keyR_eq h, keysR_eq t]
theorem keysR_tk {H : Hp} : ∀ {xs : List V}, (∀ x ∈ xs, ∃ p, Tk H x (rowD p)) → TkAll H xs ((xs.map (keyR H)).map rowD)
  | [], _ => .nil
  | x :: r, h => by
    obtain ⟨p, hp⟩ := h x (List.mem_cons_self ..)
    refine .cons ?_ (keysR_tk fun y hy => h y (List.mem_cons_of_mem _ hy))
    rw [keyR_eq hp]
    exact hp
theorem TkAll.memX {H : Hp} {α : Type} {f : α → PyData} {xs : List V} {ds : List α} (t : TkAll H xs (ds.map f)) : ∀ x ∈ xs, ∃ d, d ∈ ds ∧ Tk H x (f d) := fun x hx => by
  obtain ⟨j, hj⟩ := List.getElem?_of_mem hx
  obtain ⟨d, hd, h⟩ := t.at hj
  exact ⟨d, List.mem_of_getElem? hd, h⟩

def rowsU : Nat → List (List Int)
  | 0 => [[]]
  | k + 1 => (rowsU k).map (fun r => (0 : Int) :: r) ++ (rowsU k).map (fun r => (1 : Int) :: r)
theorem perm_rowsU : ((List.range 7).all fun m => (rowsL m).isPerm (rowsU m) && adjR (rowsU m)) = true := by decide +kernel
theorem rows_uniqU {m : Nat} {ys : List (List Int)} (hm : m ≤ 6) (p : ys.Perm (rowsL m)) (s : ys.Pairwise fun x y => HT.lexLt y x = false) : ys = rowsU m := by
  have h := List.all_eq_true.mp perm_rowsU m (List.mem_range.mpr (by omega))
  rw [Bool.and_eq_true] at h
  exact List.Perm.eq_of_pairwise (fun a b _ _ u v => SrtTT.lex_tot _ _ v u) s (adjR_srt _ h.2) (p.trans (List.isPerm_iff.mp h.1))
def sp_rows (K : PySem.W.Frag) : Sp := fun vs H Q _ => ∃ m : Nat, vs = [.int m] ∧ 1 ≤ m ∧ m ≤ 6 ∧ ∀ r H', H r = none → Same H H' → Tk H' (.ref r) (.list ((rowsU m).map rowD)) → Q (.ref r) H'
theorem ok_rows (T : Tx K mg) : FnOk P w K mg base CX0 1 T.f_rows T.fd_rows ["_law_many"] (sp_rows K) := by
  refine T.F_rows.ok sc_rows (fun vs H Q E h => ?_) (fun cdv A outer s H vs Q E hr h => ?_)
  · obtain ⟨m, rfl, _⟩ := h
    rfl
  · obtain ⟨m, rfl, m1, m6, q⟩ := h
    refine ⟨_, (pss_cons (ps_set (i := 1) sc_rows.nd rfl (by first | exact .inl rfl | exact .inr rfl) (pe_lst (pa_cons (pe_tup pa_nil) pa_nil))) (pss_cons (ps_for PassesOwn.never rfl (pi_range1 (by rfl) T.m_range (pa_cons (pv 0) pa_nil)) (pg_name (i := 2) sc_rows.nd rfl (by first | exact .inl rfl | exact .inr rfl)) (pss_one (ps_set (i := 1) sc_rows.nd rfl (by first | exact .inl rfl | exact .inr rfl) (pe_op op_cat (pe_lc (own := [("_law_row", 3)]) (by rfl) sc_rows.nd (pi_list (pv 1)) (blkOk_by (own := [("_law_row", 3)]) (N := ["_law_many", "_law_found", "_law_place", "_law_row"]) (sc := defScope s_rows) (by decide +kernel)) (fun _ _ _ _ _ => (pg_name (i := 3) sc_rows.nd rfl (by first | exact .inl rfl | exact .inr rfl))) (fun _ _ _ _ _ => pts_nil) (fun _ _ _ _ _ => (pe_op (show OpR _ _ (rCatA K) from op_catA) (pv 3) (pe_tup (pa_cons pe_int pa_nil))))) (pe_lc (own := [("_law_row", 3)]) (by rfl) sc_rows.nd (pi_list (pv 1)) (blkOk_by (own := [("_law_row", 3)]) (N := ["_law_many", "_law_found", "_law_place", "_law_row"]) (sc := defScope s_rows) (by decide +kernel)) (fun _ _ _ _ _ => (pg_name (i := 3) sc_rows.nd rfl (by first | exact .inl rfl | exact .inr rfl))) (fun _ _ _ _ _ => pts_nil) (fun _ _ _ _ _ => (pe_op (show OpR _ _ (rCatA K) from op_catA) (pv 3) (pe_tup (pa_cons pe_int pa_nil))))))))) (pss_one (ps_ret (pe_callB (cr_sortedTn (d := m) m1) (by rfl) T.m_sorted (by decide +kernel) (pa_cons (pv 1) pa_nil)))))), ?_⟩
    refine ⟨Nat.zero_le _, fun t0 n0 => ⟨sl1, fun c0 nc0 => ?_⟩⟩
    refine ⟨.int m, rfl, (m : Int), rfl, by omega, by omega, ?_⟩
    refine for_range (lo := 0) (n := (m : Int).toNat) (fun i σ H' => ∃ ca y2 y3, σ = [some (.int m), some (.ref ca), y2, y3] ∧ Same H H' ∧ Tk H' (.ref ca) (.list ((rowsL i).map rowD)))
      ⟨c0, _, _, rfl, (same_upd n0).trans (same_upd nc0), .lst upd_same (.cons (.tup (same_upd nc0 _ _ upd_same) .nil) .nil)⟩ ?_ ?_
    · rintro i σ H1 hi ⟨ca, y2, y3, rfl, s1, tc⟩
      have hi' : i < m := by simpa using hi
      obtain ⟨ca', cs, e, hca, tcs⟩ := tc.lst_inv
      cases e
      have big : (rowsL i).length ≤ 64 := by
        rw [rowsL_len]
        exact Nat.pow_le_pow_right (by decide) (show i ≤ 6 by omega)
      have rl : ∀ r ∈ rowsL i, r.length ≤ 8 := fun r hr => by
        have := (rowsL_ok i r hr).1
        omega
      have lcs : cs.length = (rowsL i).length := by rw [tcs.length, List.length_map]
      refine ⟨.ref ca, rfl, ca, rfl, ⟨_, SqL.of hca⟩, fun D nD => ?_⟩
      refine lc_list (K := K) (a := ca) (xs := cs) (fun k H' => Same H1 (hd1 D H') ∧ ∃ acc, H' D = some (.lst acc) ∧ TkAll (hd1 D H') acc (((rowsL i).take k).map fun r => rowD (r ++ [0]))) ⟨hd1_of (same_upd nD) nD, [], upd_same, .nil⟩ (fun k H' _ z => SqL.of (hd1_le _ _ (z.1 _ _ hca))) ?_ ?_
      · rintro k x H2 hx ⟨s2, acc, hD, ta⟩
        refine ⟨rfl, x, rfl, sl1, more_step 0 hca tcs rl big hx s2 hD ta _ fun p H4 h4 sm tk => ⟨acc, h4, ?_, sm, _, upd_same, tk⟩⟩
        have := ta.length
        rw [List.length_map, List.length_take] at this
        exact Nat.lt_of_lt_of_le (show _ < 128 by omega) (by decide)
      · rintro H2 ⟨s2, acc, hD, ta⟩
        rw [lcs, List.take_length] at ta
        have s12 : Same H1 H2 := fun b o e => hd1_le _ _ (s2 _ _ e)
        have ta2 := ta.same hd1_le
        refine ⟨.ref ca, rfl, ca, rfl, ⟨_, SqL.of (s12 _ _ hca)⟩, fun E' nE => ?_⟩
        refine lc_list (K := K) (a := ca) (xs := cs) (fun k H' => Same H2 (hd1 E' H') ∧ ∃ acc, H' E' = some (.lst acc) ∧ TkAll (hd1 E' H') acc (((rowsL i).take k).map fun r => rowD (r ++ [1]))) ⟨hd1_of (same_upd nE) nE, [], upd_same, .nil⟩ (fun k H' _ z => SqL.of (hd1_le _ _ (z.1 _ _ (s12 _ _ hca)))) ?_ ?_
        · rintro k x H3 hx ⟨s3, acc3, hE, ta3⟩
          refine ⟨rfl, x, rfl, sl1, more_step 1 (s12 _ _ hca) (tcs.same s12) rl big hx s3 hE ta3 _ fun p H4 h4 sm tk => ⟨acc3, h4, ?_, sm, _, upd_same, tk⟩⟩
          have := ta3.length
          rw [List.length_map, List.length_take] at this
          exact Nat.lt_of_lt_of_le (show _ < 128 by omega) (by decide)
        · rintro H3 ⟨s3, acc3, hE, ta3⟩
          rw [lcs, List.take_length] at ta3
          have s23 : Same H2 H3 := fun b o e => hd1_le _ _ (s3 _ _ e)
          have ta4 := ta3.same hd1_le
          refine ⟨D, E', _, _, rfl, rfl, s23 _ _ hD, hE, ?_, fun F nF => ?_⟩
          · have := ta.length
            have := ta3.length
            rw [List.length_map] at *
            exact Nat.le_trans (show _ ≤ 256 by omega) (by decide)
          have s4 := same_upd (o := HO.lst (acc ++ acc3)) nF
          refine ⟨F, _, _, rfl, ((s1.trans s12).trans s23).trans s4, .lst upd_same ?_⟩
          show TkAll _ _ ((rowsL (i + 1)).map rowD)
          unfold rowsL
          rw [List.map_append, List.map_map, List.map_map]
          exact ((ta2.same s23).same s4).append (ta4.same s4)
    · rintro σ H1 ⟨ca, y2, y3, rfl, s1, tc⟩
      rw [show (m : Int).toNat = m by omega] at tc
      obtain ⟨_, xs, e, hca, txs⟩ := tc.lst_inv
      cases e
      refine ⟨.ref ca, rfl, ca, xs, keyR H1, rfl, SqL.of hca, fun x hx => ?_, fun ys p hs hp np => ?_⟩
      · obtain ⟨d, hd, td⟩ := txs.memX x hx
        obtain ⟨t, rfl, ht⟩ := td.row_inv
        rw [keyR_eq td]
        exact ⟨t, rfl, SqT.of ht, (rowsL_ok m d hd).1⟩
      have tys : TkAll H1 ys ((ys.map (keyR H1)).map rowD) := keysR_tk fun x hx => by
        obtain ⟨d, _, td⟩ := txs.memX x (hp.mem_iff.mp hx)
        exact ⟨d, td⟩
      have ek : ys.map (keyR H1) = rowsU m := rows_uniqU m6 (by have := hp.map (keyR H1); rw [keysR_eq txs] at this; exact this) (List.pairwise_map.mpr hs)
      rw [ek] at tys
      have sp := same_upd (o := HO.lst ys) np
      have np0 : H p = none := by
        cases z : H p with
        | none => rfl
        | some o => rw [s1 _ _ z] at np; cases np
      exact q p _ np0 (s1.trans sp) (.lst upd_same (tys.same sp))

end
end Gk

set_option Elab.async false
set_option linter.all false
set_option maxRecDepth 100000
set_option maxHeartbeats 1000000
set_option pp.maxSteps 1500
set_option pp.deepTerms false
namespace Gk
open PySem PySem.Spec PyProof.Rows L2
/-! ### sum of a tuple of ints -/
namespace SmTi
open PySem PyProof.Rows
theorem raw {prog : Program} {w : World} {A : Around} {E : Value → Shared → Prop} {s : Shared} {l : Addr} {its : List Value} {ns : List Int} {Q : Value → Shared → Prop} (hh : A.handled = none) (ist : s.heap.IsTuple l its.toArray) (are : IntsAre its ns)
    (fin : ∀ g tk t, (∀ b o, s.heap.get? b = some o → g.get? b = some o) → Q (.int ns.sum t) { s with heap := g, toks := tk }) :
    wpAny (model prog w) A (call (.builtin "sum") [.ref l]) Q E s := by
  obtain ⟨xs, e⟩ := are.allInts.items
  have hn : numsOf (intItems xs).toList = ns := by rw [← e]; exact are.numsOf
  rw [nums_intItems] at hn
  rw [e] at ist
  have lt : l < s.heap.objs.size := by obtain ⟨_, h, _⟩ := ist; exact Heap.lt_size h
  refine PySem.call_sum_walkG (wpAny_pyIter_tuple ist ?_)
  refine ⟨s.heap.objs.size, [s.heap.objs.size, l], [s.heap.objs.size], (intItems xs).size, _, _, numAt xs, rfl, Walks.tuple (A := A.in1) hh _ l (Nat.ne_of_lt lt) (intItems xs), ⟨⟨_, Heap.get?_push_size _ rfl, rfl, rfl⟩, ist.push _⟩, fun b hb => ?_, fun i v h => intItems_at h, fun g tk t keep => ?_⟩
  · show b < (s.heap.push _).objs.size
    rw [Heap.size_push]
    have : b = s.heap.objs.size ∨ b = l := by simpa using hb
    rcases this with z | z
    · rw [z]; exact Nat.lt_succ_self _
    · rw [z]; exact Nat.lt_succ_of_lt lt
  · have k := fin g tk t fun b o eb => keep b o (by simp; exact Nat.ne_of_lt (Heap.lt_size eb)) (Heap.get?_push_of_some _ eb)
    rw [preSum_eq, List.take_of_length_le (by simp [intItems]), hn]
    exact k
end SmTi
def rSumTi (K : PySem.W.Frag) : List V → Hp → VK → Prop := fun vs H Q => ∃ (a : Addr) (ns : List Int), vs = [V.ref a] ∧ SqT K H a (ns.map V.int) ∧ Q (.int ns.sum) H
theorem cr_sumTi {X : Cx} (hc : X.calm = true) : CallR X (.builtin "sum") (rSumTi X.K) := by
  intro pins s σ H vs us Q I r h
  obtain ⟨a, ns, rfl, hs, q⟩ := h
  obtain rfl := Vals.ref1 r
  obtain ⟨its, rv, hl, _⟩ := I.tuple hs
  exact SmTi.raw (I.ok.hd hc) hl rv.ints fun g tk t' hk => ⟨.int _, H, I.kept hk, ⟨_, rfl⟩, q⟩

end Gk

set_option Elab.async false
set_option linter.all false
set_option maxRecDepth 100000
set_option maxHeartbeats 1000000
set_option pp.maxSteps 1500
set_option pp.deepTerms false
namespace Gk
open PySem PySem.Spec PyProof.Rows L2
section
variable {P : Program} {w : World} {K : PySem.W.Frag} {mg : Str → Option Value} {base : Heap}
/-! ### a table drawn -/
def pVs (ps : List (List Nat)) : List V := ps.map fun p => V.str (SX.S p)
def CovOk (m : Nat) (ps : List (List Nat)) : Prop := ∀ p ∈ ps, ProdOk m p
theorem pV_at {ps : List (List Nat)} {j : Nat} {v : V} (h : (pVs ps)[j]? = some v) : ∃ p, ps[j]? = some p ∧ v = V.str (SX.S p) := by
  unfold pVs at h
  rw [List.getElem?_map] at h
  obtain ⟨p, hp, e⟩ := Option.map_eq_some_iff.mp h
  exact ⟨p, hp, e.symm⟩
theorem none_of_frG {d l p : Addr} {H H' : Hp} {n : Int} (f : Fr d l H H') (D : DeckG H' d l n) (h : H' p = none) : H p = none := by
  have o := D.off h
  cases z : H p with
  | none => rfl
  | some u => rw [f _ _ o.1 o.2 z] at h; cases h
theorem Fr.upd {d l p : Addr} {H H' : Hp} {o : HO} (f : Fr d l H H') (h : H p = none) : Fr d l H (upd H' p o) := fun b u h1 h2 e => by
  rw [upd_ne (ne_of_none e h)]
  exact f b u h1 h2 e
theorem Ts.frG {H H' : Hp} {d l : Addr} {n : Int} (D : DeckG H d l n) (f : Fr d l H H') : Ts H H' := fun b xs e => by
  obtain ⟨ne, cs, z, y, hd, hl, r⟩ := D
  exact f b _ (ne_of e hd (by intro z; cases z)) (ne_of e hl (by intro z; cases z)) e
theorem for_enumL {K : PySem.W.Frag} {a : Addr} {xs : List V} {g : TG} {tb : TS} {D : Ends} {σ : L2.St} {H : Hp} (Pv : Nat → L2.St → Hp → Prop) (h0 : Pv 0 σ H) (hl : ∀ i σ H, i ≤ xs.length → Pv i σ H → SqL K H a xs)
    (hs : ∀ (i : Nat) (x : V) (T : Addr) (σ : L2.St) (H : Hp), xs[i]? = some x → H T = none → Pv i σ H → g (.ref T) σ (upd H T (.tup [.int (i : Nat), x])) fun σ2 H2 => tb { D with nx := Pv (i + 1), ct := Pv (i + 1), bk := D.nx } σ2 H2) (hd : ∀ σ H, Pv xs.length σ H → D.nx σ H) :
    ∃ W : Nat → Nat → L2.St → Hp → Prop, (∃ m, W 0 m σ H) ∧ ∀ i m σ H, W i m σ H →
      ((Ite K a).stop i H ∧ D.nx σ H) ∨ ((Ite K a).go i H ∧ ∃ N : L2.St → Hp → Prop, (∀ σ' H', N σ' H' → ∃ m', m' < m ∧ W (i + 1) m' σ' H') ∧ ∀ x H', (Ite K a).yld i H x H' → g x σ H' fun σ2 H2 => tb { D with nx := N, ct := N, bk := D.nx } σ2 H2) := by
  refine ⟨fun i m σ H => m = xs.length - i ∧ i ≤ xs.length ∧ Pv i σ H, ⟨xs.length, rfl, Nat.zero_le _, h0⟩, ?_⟩
  rintro i m σ H ⟨rfl, hi, p⟩
  have q := hl i σ H hi p
  by_cases hlt : i < xs.length
  · have hx : xs[i]? = some xs[i] := List.getElem?_eq_getElem hlt
    refine .inr ⟨⟨xs, xs[i], q, hx⟩, Pv (i + 1), fun σ' H' p' => ⟨xs.length - (i + 1), by omega, rfl, hlt, p'⟩, fun x H' y => ?_⟩
    obtain ⟨T, x1, rfl, nT, rfl, e1⟩ := y
    exact hs i x1 T σ H (e1 xs q) nT p
  · have e : i = xs.length := by omega
    subst e
    exact .inl ⟨⟨xs, q, Nat.le_refl _⟩, hd σ H p⟩
theorem rowsU_len : ∀ k, (rowsU k).length = 2 ^ k
  | 0 => rfl
  | k + 1 => by
    unfold rowsU
    rw [List.length_append, List.length_map, List.length_map, rowsU_len k, Nat.pow_succ]
    omega
theorem rowsU_ok : ∀ k, ∀ r ∈ rowsU k, r.length = k ∧ Row01' r
  | 0, r, h => by
    rw [List.mem_singleton.mp h]
    exact ⟨rfl, fun x hx => by cases hx⟩
  | k + 1, r, h => by
    unfold rowsU at h
    rcases List.mem_append.mp h with h | h
    · obtain ⟨q, hq, rfl⟩ := List.mem_map.mp h
      have ih := rowsU_ok k q hq
      refine ⟨by rw [List.length_cons, ih.1], fun x hx => ?_⟩
      rcases List.mem_cons.mp hx with z | z
      · exact .inl z
      · exact ih.2 x z
    · obtain ⟨q, hq, rfl⟩ := List.mem_map.mp h
      have ih := rowsU_ok k q hq
      refine ⟨by rw [List.length_cons, ih.1], fun x hx => ?_⟩
      rcases List.mem_cons.mp hx with z | z
      · exact .inr z
      · exact ih.2 x z
theorem pick7 {w a b c d e f g : Int} (w0 : 0 ≤ w) (w1 : w < 7) (h : ∀ x ∈ [a, b, c, d, e, f, g], x = 0 ∨ x = 1) : ∃ x : Int, atI [V.int a, V.int b, V.int c, V.int d, V.int e, V.int f, V.int g] w = some (.int x) ∧ (x = 0 ∨ x = 1) := by
  have : w = 0 ∨ w = 1 ∨ w = 2 ∨ w = 3 ∨ w = 4 ∨ w = 5 ∨ w = 6 := by omega
  rcases this with rfl | rfl | rfl | rfl | rfl | rfl | rfl
  · exact ⟨a, rfl, h a (by simp)⟩
  · exact ⟨b, rfl, h b (by simp)⟩
  · exact ⟨c, rfl, h c (by simp)⟩
  · exact ⟨d, rfl, h d (by simp)⟩
  · exact ⟨e, rfl, h e (by simp)⟩
  · exact ⟨f, rfl, h f (by simp)⟩
  · exact ⟨g, rfl, h g (by simp)⟩

end
end Gk

set_option Elab.async false
set_option linter.all false
set_option maxRecDepth 100000
set_option maxHeartbeats 1000000
set_option pp.maxSteps 1500
set_option pp.deepTerms false
namespace Gk
open PySem PySem.Spec PyProof.Rows L2
section
variable {P : Program} {w : World} {K : PySem.W.Frag} {mg : Str → Option Value} {base : Heap}
theorem dpStrs {H : Hp} : ∀ ps : List (List Nat), DpAll K H (pVs ps) (ps.map fun p => PyData.str (SX.S p))
  | [] => .nil
  | p :: r => .cons (.str _) (dpStrs r)
theorem strOk_S {p : List Nat} (h : ∀ c ∈ p, SgOk c) : PyData.canLay0 (.str (SX.S p)) = true := by
  simp only [PyData.canLay0, PyData.strOk]
  rw [Array.all_eq_true_iff_forall_mem]
  intro c hc
  have : c ∈ p := by
    simpa using hc
  refine decide_eq_true ?_
  rcases h c this with rfl | rfl | rfl <;> decide
theorem lay_strs {m : Nat} : ∀ ps : List (List Nat), CovOk m ps → PyData.canLayAll0 (ps.map fun p => PyData.str (SX.S p)) = true
  | [], _ => rfl
  | p :: r, h => by
    have := lay_strs r fun q hq => h q (List.mem_cons_of_mem _ hq)
    show (PyData.canLay0 (.str (SX.S p)) && PyData.canLayAll0 (r.map fun p => PyData.str (SX.S p))) = true
    rw [this, Bool.and_true]
    exact strOk_S (h p (List.mem_cons_self ..)).2
theorem depth_strs : ∀ ps : List (List Nat), PyData.depthAll (ps.map fun p => PyData.str (SX.S p)) ≤ 1
  | [] => Nat.zero_le _
  | p :: r => by
    rw [List.map_cons]
    unfold PyData.depthAll
    have := depth_strs r
    have e : (PyData.str (SX.S p)).depth = 0 := rfl
    rw [e]
    omega
theorem sh_strsL {m : Nat} {ps : List (List Nat)} (h : CovOk m ps) : SeqAt.shaped (.list (ps.map fun p => PyData.str (SX.S p))) = true := by
  unfold SeqAt.shaped
  rw [Bool.and_eq_true]
  refine ⟨?_, decide_eq_true ?_⟩
  · simp only [PyData.canLay0, lay_strs ps h]
  · have := depth_strs ps
    simp only [PyData.depth]
    omega
theorem ne_strs (ps : List (List Nat)) : (!PyData.eqv (.list (ps.map fun p => PyData.str (SX.S p))) (.list [])) = !ps.isEmpty := by cases ps <;> rfl

def sp_table (K : PySem.W.Frag) : Sp := fun vs H Q _ => ∃ (d l : Addr) (n : Int) (m : Nat), vs = [.ref d, .int m] ∧ DeckG H d l n ∧ n < 800000000 ∧ 1 ≤ m ∧ m ≤ 6 ∧ ∀ (bs : List Bool) (H' : Hp), DeckG H' d l (n + 300) → Fr d l H H' → bs.length = 2 ^ m → Q (.str (tabOf bs)) H'
theorem tab_app (bs : List Bool) (b : Bool) : tabOf bs ++ one (if b = true then 49 else 48) = tabOf (bs ++ [b]) := by
  show (⟨(bs.map fun b => if b = true then 49 else 48).toArray ++ [if b = true then 49 else 48].toArray⟩ : Str) = ⟨((bs ++ [b]).map fun b => if b = true then 49 else 48).toArray⟩
  congr 1
  simp
theorem ok_table (T : Tx K mg) : FnOk P w K mg base CX0 3 T.f_table T.fd_table ["_law_deck_here", "_law_many"] (sp_table K) := by
  refine T.F_table.ok sc_table (fun vs H Q E h => ?_) (fun cdv A outer s H vs Q E hr h => ?_)
  · obtain ⟨d, l, n, m, rfl, _⟩ := h
    rfl
  · obtain ⟨d, l, n, m, rfl, D, hn, m1, m6, q⟩ := h
    refine ⟨_, (pss_cons (ps_set (i := 2) sc_table.nd rfl (by first | exact .inl rfl | exact .inr rfl) (pe_call (ok_next T) (hr.mono (by decide)) (by rfl) T.g_next T.F_next.kp T.b_next .nil pass0 (pa_cons (pv 0) (pa_cons pe_int pa_nil)))) (pss_cons (ps_setLc (i := 3) (own := [("_law_k", 7)]) (by rfl) sc_table.nd rfl rfl (sw_true rfl rfl rfl (by decide +kernel)) (pi_range1 (by rfl) T.m_range (pa_cons (pe_op op_add pe_int (pe_call (ok_next T) (hr.mono (by decide)) (by rfl) T.g_next T.F_next.kp T.b_next .nil pass0 (pa_cons (pv 0) (pa_cons pe_int pa_nil)))) pa_nil)) (blkOk_by (own := [("_law_k", 7)]) (N := ["_law_deck_here", "_law_many", "_law_way", "_law_products", "_law_rows_here", "_law_odd_here", "_law_table_here", "_law_k", "_law_row", "_law_worth_here", "_law_one"]) (sc := defScope s_table) (by decide +kernel)) (fun _ _ _ _ _ => (pg_name (i := 7) sc_table.nd rfl (by first | exact .inl rfl | exact .inr rfl))) (fun _ _ _ _ _ => pts_nil) (fun _ _ _ _ _ => (pe_call (ok_product T) (hr.mono (by decide)) (by rfl) T.g_product T.F_product.kp T.b_product .nil pass0 (pa_cons (pv 0) (pa_cons (pv 1) pa_nil))))) (pss_cons (ps_set (i := 4) sc_table.nd rfl (by first | exact .inl rfl | exact .inr rfl) (pe_call (ok_rows T) (hr.mono (by decide)) (by rfl) T.g_rows T.F_rows.kp T.b_rows .nil pass0 (pa_cons (pv 1) pa_nil))) (pss_cons (ps_set (i := 5) sc_table.nd rfl (by first | exact .inl rfl | exact .inr rfl) (pe_call (ok_next T) (hr.mono (by decide)) (by rfl) T.g_next T.F_next.kp T.b_next .nil pass0 (pa_cons (pv 0) (pa_cons (pe_callB call_len_seq (by rfl) T.m_len PySem.boot_len (pa_cons (pv 4) pa_nil)) pa_nil)))) (pss_cons (ps_set (i := 6) sc_table.nd rfl (by first | exact .inl rfl | exact .inr rfl) pe_str) (pss_cons (ps_for PassesOwn.never rfl (pi_enum (by rfl) T.m_enumerate (pa_cons (pv 4) pa_nil)) (pg_tup rfl (pgs_cons (pg_name (i := 7) sc_table.nd rfl (by first | exact .inl rfl | exact .inr rfl)) (pgs_cons (pg_name (i := 8) sc_table.nd rfl (by first | exact .inl rfl | exact .inr rfl)) pgs_nil))) (pss_cons (ps_set (i := 9) sc_table.nd rfl (by first | exact .inl rfl | exact .inr rfl) (pe_lst (pa_cons (pe_call (ok_next T) (hr.mono (by decide)) (by rfl) T.g_next T.F_next.kp T.b_next .nil pass0 (pa_cons (pv 0) (pa_cons pe_int pa_nil))) (pa_cons (pe_callTy call_int1 (by rfl) T.m_int (by decide +kernel) (pa_cons (pe_cmpR (op_neD hr.units) (pe_lc (own := [("_law_one", 10)]) (by rfl) sc_table.nd (pi_list (pv 3)) (blkOk_by (own := [("_law_one", 10)]) (N := ["_law_deck_here", "_law_many", "_law_way", "_law_products", "_law_rows_here", "_law_odd_here", "_law_table_here", "_law_k", "_law_row", "_law_worth_here", "_law_one"]) (sc := defScope s_table) (by decide +kernel)) (fun _ _ _ _ _ => (pg_name (i := 10) sc_table.nd rfl (by first | exact .inl rfl | exact .inr rfl))) (fun _ _ _ _ _ => (pts_one (pt_val (pe_call (ok_holds T) (hr.mono (by decide)) (by rfl) T.g_holds T.F_holds.kp T.b_holds .nil pass0 (pa_cons (pv 10) (pa_cons (pv 8) pa_nil)))))) (fun _ _ _ _ _ => (pv 10))) (pe_lst pa_nil) (nomark _)) pa_nil)) (pa_cons (pe_op op_mod (pe_callB (cr_sumTi rfl) (by rfl) T.m_sum (by decide +kernel) (pa_cons (pv 8) pa_nil)) pe_int) pa_nil))))) (pss_cons (ps_set (i := 9) sc_table.nd rfl (by first | exact .inl rfl | exact .inr rfl) (pe_op op_cat (pv 9) (pe_lst (pa_cons (pe_callTy call_int1 (by rfl) T.m_int (by decide +kernel) (pa_cons (pe_cmpR op_gt (pe_call (ok_next T) (hr.mono (by decide)) (by rfl) T.g_next T.F_next.kp T.b_next .nil pass0 (pa_cons (pv 0) (pa_cons pe_int pa_nil))) pe_int (nomark _)) pa_nil)) (pa_cons (pe_callTy call_int1 (by rfl) T.m_int (by decide +kernel) (pa_cons (pe_cmpR op_eq (pe_call (ok_next T) (hr.mono (by decide)) (by rfl) T.g_next T.F_next.kp T.b_next .nil pass0 (pa_cons (pv 0) (pa_cons pe_int pa_nil))) pe_int (nomark _)) pa_nil)) (pa_cons (pe_callTy call_int1 (by rfl) T.m_int (by decide +kernel) (pa_cons (pe_cmpR op_ne (pv 7) (pv 5) (nomark _)) pa_nil)) pa_nil)))))) (pss_cons (ps_expr (pe_bm PySem.F.plainAttrs_list PySem.F.slot_list_append PySem.F.type_list_append mt_append (pv 9) (pa_cons (pe_callTy call_int1 (by rfl) T.m_int (by decide +kernel) (pa_cons (pe_cmpR op_gt (pe_op op_mul pe_int (pe_callB (cr_sumTi rfl) (by rfl) T.m_sum (by decide +kernel) (pa_cons (pv 8) pa_nil))) (pv 1) (nomark _)) pa_nil)) pa_nil))) (pss_one (ps_set (i := 6) sc_table.nd rfl (by first | exact .inl rfl | exact .inr rfl) (pe_op op_add_str (pv 6) (pe_callTy call_str_int (by rfl) T.m_str (by decide +kernel) (pa_cons (pe_ix ix_list (pv 9) (pv 2) (fun _ _ => rfl)) pa_nil))))))))) (pss_one (ps_ret (pv 6))))))))), ?_⟩
    refine ⟨.ref d, rfl, d, l, 7, _, rfl, D, by omega, by decide, by decide, fun H1 way D1 fr1 w0 w1 => ?_⟩
    refine ⟨.ref d, rfl, d, l, 4, _, rfl, D1, by omega, by decide, by decide, fun H2 c D2 fr2 c0 c1 => ?_⟩
    refine ⟨_, _, rfl, rfl, 1 + c, rfl, by omega, by omega, fun L nL => ?_⟩
    have fr02 := fr1.trans fr2
    have oL := D2.off nL
    have nL0 := none_of_frG fr02 D2 nL
    refine lc_range (lo := 0) (n := (1 + c).toNat) (fun j H' => DeckG H' d l (n + 2 + 13 * j) ∧ Fr d l H H' ∧ ∃ ps, H' L = some (.lst (pVs ps)) ∧ ps.length = j ∧ CovOk m ps) ⟨(D2.same (same_upd nL)).mono (by omega), fr02.trans (Fr.new nL), [], upd_same, rfl, fun p hp => by cases hp⟩ ?_ ?_
    · rintro j H3 hj ⟨D3, fr3, ps, hL, lps, okp⟩
      have hj' : j < 4 := by omega
      refine ⟨rfl, .ref d, rfl, .int m, rfl, d, l, _, m, rfl, D3, by omega, m6, fun p H4 D4 fr4 op => ?_⟩
      refine ⟨_, fr4 _ _ oL.1 oL.2 hL, ?_, (D4.upd oL.1 oL.2).mono (by push_cast; omega), Fr.upd (fr3.trans fr4) nL0, ps ++ [p], ?_, by rw [List.length_append, lps]; rfl, fun r hr => ?_⟩
      · unfold pVs
        rw [List.length_map]
        exact Nat.lt_of_lt_of_le (show _ < 64 by omega) (by decide)
      · rw [upd_same]
        unfold pVs
        rw [List.map_append]
        rfl
      · rcases List.mem_append.mp hr with h | h
        · exact okp r h
        · rw [List.mem_singleton.mp h]; exact op
    rintro H3 ⟨D3, fr3, ps, hL, lps, okp⟩
    have lp4 : ps.length ≤ 4 := by omega
    replace D3 : DeckG H3 d l (n + 60) := D3.mono (by omega)
    refine ⟨.int m, rfl, m, rfl, m1, m6, fun ca H4 nca s4 tc => ?_⟩
    have D4 := D3.same s4
    have fr4 := fr3.trans (Fr.of s4)
    have hL4 := s4 _ _ hL
    obtain ⟨_, cs, e, hca, tcs⟩ := tc.lst_inv
    cases e
    have lcs : cs.length = 2 ^ m := by rw [tcs.length, List.length_map, rowsU_len]
    have l64 : 2 ^ m ≤ 64 := Nat.pow_le_pow_right (by decide) m6
    have lpos : 1 ≤ 2 ^ m := Nat.one_le_two_pow
    refine ⟨.ref d, rfl, .ref ca, rfl, ca, _, rfl, .inl (SqL.of hca), ?_⟩
    rw [lcs]
    refine ⟨d, l, _, _, rfl, D4, by omega, by omega, by omega, fun H5 od D5 fr5 o0 o1 => ?_⟩
    have oca := D3.off nca
    have hca5 := fr5 _ _ oca.1 oca.2 hca
    have tcs5 : TkAll H5 cs ((rowsU m).map rowD) := tcs.ts (Ts.frG D4 fr5) (noLs_map (fun r => noL_row r) _)
    have fr05 := fr4.trans fr5
    have hL5 := fr5 _ _ oL.1 oL.2 hL4
    have hLca : L ≠ ca := ne_of_none hL nca
    refine ⟨.ref ca, rfl, ca, _, rfl, SqL.of hca5, ?_⟩
    refine for_enumL (K := K) (a := ca) (xs := cs) (fun k σ H' => ∃ (bs : List Bool) (y7 y8 y9 : Option V), σ = [some (.ref d), some (.int m), some (.int way), some (.ref L), some (.ref ca), some (.int od), some (.str (tabOf bs)), y7, y8, y9, none] ∧ DeckG H' d l (n + 62 + 3 * k) ∧ Fr d l H H' ∧ bs.length = k ∧ H' L = some (.lst (pVs ps)) ∧ H' ca = some (.lst cs) ∧ TkAll H' cs ((rowsU m).map rowD))
      ⟨[], _, _, _, by rw [show Str.ofString "" = tabOf [] from by decide +kernel]; rfl, D5.mono (by omega), fr05, rfl, hL5, hca5, tcs5⟩ (fun k σ H' _ ⟨_, _, _, _, _, _, _, _, _, h, _⟩ => SqL.of h) ?_ ?_
    · rintro k x Tq σ H6 hx nT ⟨bs, y7, y8, y9, rfl, D6, fr6, lbs, hL6, hca6, tcs6⟩
      have hk : k < 64 := by
        have := (List.getElem?_eq_some_iff.mp hx).1
        omega
      obtain ⟨r, hr', tx⟩ := tcs6.at hx
      obtain ⟨ra, rfl, hra⟩ := Tk.row_inv tx
      have okr := rowsU_ok m r (List.mem_of_getElem? hr')
      have sT := same_upd (o := HO.tup [.int (k : Nat), .ref ra]) nT
      refine ⟨Tq, _, rfl, SqT.of upd_same, rfl, _, _, rfl, _, _, rfl, rfl, ?_⟩
      have D7 := D6.same sT
      have fr7 := fr6.trans (Fr.of sT)
      have hL7 := sT _ _ hL6
      have hca7 := sT _ _ hca6
      have tcs7 := tcs6.same sT
      have hra7 := sT _ _ hra
      show tSeq _ _ _ _ (upd H6 Tq (.tup [.int (k : Nat), .ref ra]))
      revert D7 fr7 hL7 hca7 tcs7 hra7
      generalize upd H6 Tq (.tup [.int (k : Nat), .ref ra]) = H7
      intro D7 fr7 hL7 hca7 tcs7 hra7
      refine ⟨.ref d, rfl, d, l, 2, _, rfl, D7, by omega, by decide, by decide, fun H8 v D8 fr8 v0 v1 => ?_⟩
      have hL8 := fr8 _ _ oL.1 oL.2 hL7
      have hca8 := fr8 _ _ oca.1 oca.2 hca7
      have ts8 := Ts.frG D7 fr8
      have tcs8 := tcs7.ts ts8 (noLs_map (fun r => noL_row r) _)
      have hra8 := ts8 _ _ hra7
      have fr08 := fr7.trans fr8
      refine ⟨.ref L, rfl, L, rfl, ⟨_, SqL.of hL8⟩, fun M nM => ?_⟩
      refine lc_list (K := K) (a := L) (xs := pVs ps) (fun j H' => Same H8 (hd1 M H') ∧ ∃ fs : List (List Nat), H' M = some (.lst (pVs fs)) ∧ fs.length ≤ j ∧ CovOk m fs) ⟨hd1_of (same_upd nM) nM, [], upd_same, Nat.le_refl _, fun p hp => by cases hp⟩ (fun j H' _ z => SqL.of (hd1_le _ _ (z.1 _ _ hL8))) ?_ ?_
      · rintro j x H9 hx ⟨s9, fs, hM, lfs, okf⟩
        obtain ⟨p, hp, rfl⟩ := pV_at hx
        have op := okp p (List.mem_of_getElem? hp)
        have hjl : j < 4 := by
          have := (List.getElem?_eq_some_iff.mp hp).1
          omega
        refine ⟨rfl, .str (SX.S p), rfl, .ref ra, rfl, m, p, ra, r, rfl, op.1, hd1_le _ _ (s9 _ _ hra8), okr.2, okr.1, m6, fun H10 s10 => ⟨_, rfl, ite2 (fun _ => ?_) (fun _ => ?_)⟩⟩
        · refine ⟨.str (SX.S p), rfl, _, s10 _ _ hM, ?_, (s9.trans (hd1_same s10)).trans hd1_upd, fs ++ [p], ?_, by rw [List.length_append]; exact Nat.succ_le_succ lfs, fun z hz => ?_⟩
          · unfold pVs
            rw [List.length_map]
            exact Nat.lt_of_lt_of_le (show _ < 64 by omega) (by decide)
          · rw [upd_same]
            unfold pVs
            rw [List.map_append]
            rfl
          · rcases List.mem_append.mp hz with h | h
            · exact okf z h
            · rw [List.mem_singleton.mp h]; exact op
        · exact ⟨s9.trans (hd1_same s10), fs, s10 _ _ hM, by omega, okf⟩
      rintro H9 ⟨s9, fs, hM, lfs, okf⟩
      have s89 : Same H8 H9 := fun b o e => hd1_le _ _ (s9 _ _ e)
      refine ⟨Nat.zero_le _, fun e ne => ?_⟩
      have s10 := same_upd (o := HO.lst []) ne
      refine ⟨.list (fs.map fun p => .str (SX.S p)), .list [], .lst (SqL.of (s10 _ _ hM)) (dpStrs fs), .lst (SqL.of upd_same) .nil, sh_strsL okf, rfl, .inr ⟨_, rfl, ?_⟩⟩
      have b01 : ∀ z : Bool, (if z = true then (1 : Int) else 0) = 0 ∨ (if z = true then (1 : Int) else 0) = 1 := fun z => by cases z <;> simp
      have s8A := s89.trans s10
      have DA := D8.same s8A
      have frA := fr08.trans (Fr.of s8A)
      have hLA := s8A _ _ hL8
      have hcaA := s8A _ _ hca8
      have tcsA := tcs8.same s8A
      have hraA := s8A _ _ hra8
      generalize upd H9 e (.lst []) = HA at DA frA hLA hcaA tcsA hraA ⊢
      have p2 : (0 : Int) < 2 := by decide
      refine ⟨.ref ra, rfl, ra, r, rfl, SqT.of hraA, _, _, rfl, rfl, p2, sl3, fun w1' nw1 => ?_⟩
      have ow1 := DA.off nw1
      have x2 : r.sum % 2 = 0 ∨ r.sum % 2 = 1 := by omega
      have xb := b01 (!PyData.eqv (.list (fs.map fun p => .str (SX.S p))) (.list []))
      dsimp only
      revert x2 xb
      generalize r.sum % 2 = x2v
      generalize (if (!PyData.eqv (.list (fs.map fun p => .str (SX.S p))) (.list [])) = true then (1 : Int) else 0) = xbv
      intro x2 xb
      have sB := same_upd (o := (HO.lst [V.int v, V.int xbv, V.int x2v])) nw1
      have hw1 : upd HA w1' (HO.lst [V.int v, V.int xbv, V.int x2v]) w1' = some (HO.lst [V.int v, V.int xbv, V.int x2v]) := upd_same
      generalize upd HA w1' (HO.lst [V.int v, V.int xbv, V.int x2v]) = HB at sB hw1 ⊢
      have DB := DA.same sB
      refine ⟨.ref w1', rfl, .ref d, rfl, d, l, 6, _, rfl, DB, by omega, by decide, by decide, fun HC u1 DC frC u10 u11 => ?_⟩
      refine ⟨_, _, rfl, rfl, .inr ⟨_, rfl, .ref d, rfl, d, l, 6, _, rfl, DC, by omega, by decide, by decide, fun HD u2 DD frD u20 u21 => ?_⟩⟩
      have frBD := frC.trans frD
      have tsD := (Ts.same sB).trans ((Ts.frG DB frC).trans (Ts.frG DC frD))
      have hwD := frBD _ _ ow1.1 ow1.2 hw1
      have hLD := frBD _ _ oL.1 oL.2 (sB _ _ hLA)
      have hcaD := frBD _ _ oca.1 oca.2 (sB _ _ hcaA)
      have tcsD := tcsA.ts tsD (noLs_map (fun r => noL_row r) _)
      have hraD := tsD _ _ hraA
      have frD0 := (frA.trans (Fr.of sB)).trans frBD
      refine ⟨rfl, .inr ⟨_, rfl, .int (k : Nat), rfl, .int od, rfl, rfl, .inr ⟨_, rfl, sl3, fun w2 nw2 => ?_⟩⟩⟩
      have y1 := b01 (decide (u1 > 0))
      have y2 := b01 (decide (V.int u2 = V.int 0))
      have y3 := b01 (!decide (V.int (k : Nat) = V.int od))
      dsimp only
      revert y1 y2 y3
      generalize (if decide (u1 > 0) = true then (1 : Int) else 0) = y1v
      generalize (if decide (V.int u2 = V.int 0) = true then (1 : Int) else 0) = y2v
      generalize (if (!decide (V.int (k : Nat) = V.int od)) = true then (1 : Int) else 0) = y3v
      intro y1 y2 y3
      have sE := same_upd (o := (HO.lst [V.int y1v, V.int y2v, V.int y3v])) nw2
      have hw2 : upd HD w2 (HO.lst [V.int y1v, V.int y2v, V.int y3v]) w2 = some (HO.lst [V.int y1v, V.int y2v, V.int y3v]) := upd_same
      generalize upd HD w2 (HO.lst [V.int y1v, V.int y2v, V.int y3v]) = HE at sE hw2 ⊢
      have DE := DD.same sE
      refine ⟨w1', w2, _, _, rfl, rfl, sE _ _ hwD, hw2, (show 6 ≤ sizeLine by decide), fun w3 nw3 => ?_⟩
      rw [show [V.int v, V.int xbv, V.int x2v] ++ [V.int y1v, V.int y2v, V.int y3v] = [V.int v, V.int xbv, V.int x2v, V.int y1v, V.int y2v, V.int y3v] from rfl]
      have ow3 := DE.off nw3
      have sG := same_upd (o := (HO.lst [V.int v, V.int xbv, V.int x2v, V.int y1v, V.int y2v, V.int y3v])) nw3
      have hw3 : upd HE w3 (HO.lst [V.int v, V.int xbv, V.int x2v, V.int y1v, V.int y2v, V.int y3v]) w3 = some (HO.lst [V.int v, V.int xbv, V.int x2v, V.int y1v, V.int y2v, V.int y3v]) := upd_same
      generalize upd HE w3 (HO.lst [V.int v, V.int xbv, V.int x2v, V.int y1v, V.int y2v, V.int y3v]) = HG at sG hw3 ⊢
      have sEG := sE.trans sG
      have DG := DE.same sG
      have hraG := sEG _ _ hraD
      have hLG := sEG _ _ hLD
      have hcaG := sEG _ _ hcaD
      have tcsG := tcsD.same sEG
      have frG := frD0.trans (Fr.of sEG)
      refine ⟨.ref w3, rfl, .inl ⟨rfl, _, SqL.of hw3⟩, ?_⟩
      refine ⟨.ref ra, rfl, ra, r, rfl, SqT.of hraG, _, _, rfl, rfl, .inl ⟨by decide, by decide⟩, .int m, rfl, _, _, rfl, rfl, .inr ⟨_, rfl, w3, _, _, rfl, rfl, hw3, (show 6 < sizeLine by decide), ?_⟩⟩
      have y7 := b01 (decide (2 * r.sum > (m : Int)))
      dsimp only
      revert y7
      generalize (if decide (2 * r.sum > (m : Int)) = true then (1 : Int) else 0) = y7v
      intro y7
      rw [show [V.int v, V.int xbv, V.int x2v, V.int y1v, V.int y2v, V.int y3v] ++ [V.int y7v] = [V.int v, V.int xbv, V.int x2v, V.int y1v, V.int y2v, V.int y3v, V.int y7v] from rfl]
      have tsW : Ts HG (upd HG w3 (.lst [V.int v, V.int xbv, V.int x2v, V.int y1v, V.int y2v, V.int y3v, V.int y7v])) := Ts.set hw3
      have nw30 := none_of_frG frD0 DD (by
        cases z : HD w3 with
        | none => rfl
        | some o => rw [sE _ _ z] at nw3; cases nw3)
      have hW : (upd HG w3 (.lst [V.int v, V.int xbv, V.int x2v, V.int y1v, V.int y2v, V.int y3v, V.int y7v])) w3 = some (.lst [V.int v, V.int xbv, V.int x2v, V.int y1v, V.int y2v, V.int y3v, V.int y7v]) := upd_same
      obtain ⟨x, hat, x01⟩ := pick7 (a := v) (b := xbv) (c := x2v) (d := y1v) (e := y2v) (f := y3v) (g := y7v) w0 w1 (fun z hz => by
        simp only [List.mem_cons, List.not_mem_nil, or_false] at hz
        rcases hz with rfl | rfl | rfl | rfl | rfl | rfl | rfl
        · omega
        · exact xb
        · exact x2
        · exact y1
        · exact y2
        · exact y3
        · exact y7)
      have hLw : L ≠ w3 := ne_of_none (sE _ _ hLD) nw3
      have hcw : ca ≠ w3 := ne_of_none (sE _ _ hcaD) nw3
      refine ⟨.str (tabOf bs), rfl, .ref w3, rfl, .int way, rfl, w3, _, way, .int x, rfl, rfl, SqL.of hW, hat, x, rfl, by rcases x01 with rfl | rfl <;> decide, ?_⟩
      rw [str01 x01]
      refine ⟨_, _, rfl, rfl, ?_, ?_⟩
      · show (tabOf bs).length + 1 ≤ sizeLine
        have : (tabOf bs).length = bs.length := by
          show ((bs.map fun b => if b = true then 49 else 48).toArray).size = _
          rw [List.size_toArray, List.length_map]
        rw [this]
        exact Nat.le_trans (show bs.length + 1 ≤ 65 by omega) (by decide)
      obtain ⟨b', eb⟩ : ∃ b' : Bool, wS x = if b' = true then 49 else 48 := by
        rcases x01 with rfl | rfl
        · exact ⟨false, rfl⟩
        · exact ⟨true, rfl⟩
      rw [eb, tab_app]
      exact ⟨bs ++ [b'], _, _, _, rfl, (DG.upd ow3.1 ow3.2).mono (by push_cast; omega), Fr.upd frG nw30, by rw [List.length_append, lbs]; rfl, by rw [upd_ne hLw]; exact hLG, by rw [upd_ne hcw]; exact hcaG, tcsG.ts tsW (noLs_map (fun r => noL_row r) _)⟩
    · rintro σ H6 ⟨bs, y7, y8, y9, rfl, D6, fr6, lbs, hL6, hca6, tcs6⟩
      exact ⟨.str (tabOf bs), rfl, q bs H6 (D6.mono (by omega)) fr6 (by rw [lbs, lcs])⟩

end
end Gk

set_option Elab.async false
set_option linter.all false
set_option maxRecDepth 100000
set_option maxHeartbeats 1000000
set_option pp.maxSteps 1500
set_option pp.deepTerms false
namespace Gk
open PySem PySem.Spec PyProof.Rows L2
section
variable {P : Program} {w : World} {K : PySem.W.Frag} {mg : Str → Option Value} {base : Heap}

/-! ### a wish's worth at a row -/
theorem gate_read6 {bs : List Bool} {ws : List Int} (hw : ∀ w ∈ ws, w = 0 ∨ w = 1) (hb : bs.length = 2 ^ ws.length) (h6 : ws.length ≤ 6) : ∃ b : Bool, 0 ≤ plc ws ∧ plc ws < 2 ^ 63 ∧ plc ws < (tabOf bs).length ∧ (tabOf bs).cps[(plc ws).toNat]? = some (if b = true then 49 else 48) ∧ gateM bs ws = if b = true then 1 else 0 := by
  obtain ⟨p0, p1⟩ := plc_bd _ ws rfl hw
  have e : ((2 ^ ws.length : Nat) : Int) = (2 : Int) ^ ws.length := by simp
  have l64 : 2 ^ ws.length ≤ 64 := Nat.pow_le_pow_right (by decide) h6
  have hlt : (plc ws).toNat < bs.length := by omega
  have tl : (tabOf bs).length = bs.length := by simp [tabOf, Str.length]
  refine ⟨bs[(plc ws).toNat], p0, by omega, by rw [tl]; omega, ?_, ?_⟩
  · simp [tabOf, List.getElem?_eq_getElem hlt]
  · unfold gateM
    rw [List.getD_eq_getElem?_getD, List.getElem?_eq_getElem hlt]
    rfl
def sp_worth (K : PySem.W.Frag) : Sp := fun vs H Q _ => ∃ (wa ra : Addr) (m : Nat) (bs : List Bool) (x : V) (r : List Int), vs = [.ref wa, .ref ra] ∧ H wa = some (.tup [.int m, .str (tabOf bs), x]) ∧ H ra = some (.tup (r.map V.int)) ∧ Row01' r ∧ r.length = m ∧ m ≤ 6 ∧ bs.length = 2 ^ m ∧ Q (.int (gateM bs r)) H
theorem ok_worth (T : Tx K mg) : FnOk P w K mg base CX0 1 T.f_worth T.fd_worth ["_law_wish_here", "_law_row"] (sp_worth K) := by
  refine T.F_worth.ok sc_worth (fun vs H Q E h => ?_) (fun cdv A outer s H vs Q E hr h => ?_)
  · obtain ⟨wa, ra, m, bs, x, r, rfl, _⟩ := h
    rfl
  · obtain ⟨wa, ra, m, bs, x, r, rfl, hwa, hra, ok, lr, m6, hb, q⟩ := h
    obtain ⟨b, p0, p1, p2, p3, p4⟩ := gate_read6 ok (by rw [lr]; exact hb) (by omega)
    refine ⟨_, (pss_cons (ps_set (i := 2) sc_worth.nd rfl (by first | exact .inl rfl | exact .inr rfl) pe_int) (pss_cons (ps_for PassesOwn.never rfl (pi_tup (pv 1)) (pg_name (i := 3) sc_worth.nd rfl (by first | exact .inl rfl | exact .inr rfl)) (pss_one (ps_set (i := 2) sc_worth.nd rfl (by first | exact .inl rfl | exact .inr rfl) (pe_op op_add (pe_op op_mul pe_int (pv 2)) (pv 3))))) (pss_one (ps_ret (pe_callTy call_int_str (by rfl) T.m_int (by decide +kernel) (pa_cons (pe_item_str (pe_ix ix_tup (pv 0) pe_int (fun _ _ => rfl)) (pv 2) (fun _ _ => rfl)) pa_nil)))))), ?_⟩
    refine ⟨.ref ra, rfl, ra, rfl, ⟨_, SqT.of hra⟩, for_tup (K := K) (a := ra) (xs := r.map V.int) (fun i σ H' => ∃ y, σ = [some (.ref wa), some (.ref ra), some (.int (plc (r.take i))), y] ∧ H' = H) ⟨none, rfl, rfl⟩ (fun i σ H' _ ⟨_, _, e⟩ => by rw [e]; exact SqT.of hra) ?_ ?_⟩
    · rintro i v σ H' hx ⟨y, rfl, rfl⟩
      obtain ⟨u, hu, rfl⟩ : ∃ u, r[i]? = some u ∧ v = V.int u := by
        rw [List.getElem?_map] at hx
        obtain ⟨u, hu, e⟩ := Option.map_eq_some_iff.mp hx
        exact ⟨u, hu, e.symm⟩
      refine ⟨.int (plc (r.take i)), rfl, 2, _, rfl, rfl, .inl ⟨by decide, by decide⟩, .int u, rfl, _, _, rfl, rfl, some (.int u), ?_, rfl⟩
      rw [plc_take hu]
      rfl
    · rintro σ H' ⟨y, rfl, rfl⟩
      rw [List.length_map, List.take_length]
      refine ⟨.ref wa, rfl, wa, _, 1, .str (tabOf bs), rfl, rfl, SqT.of hwa, rfl, .int (plc r), rfl, _, _, _, rfl, rfl, p0, p1, p2, p3, _, _, rfl, int_sign b, (show 1 ≤ 640 by decide), ?_⟩
      rw [← p4]
      exact q

end
end Gk

set_option Elab.async false
set_option linter.all false
set_option maxRecDepth 100000
set_option maxHeartbeats 1000000
set_option pp.maxSteps 1500
set_option pp.deepTerms false
namespace Gk
open PySem PySem.Spec PyProof.Rows L2
section
variable {P : Program} {w : World} {K : PySem.W.Frag} {mg : Str → Option Value} {base : Heap}
/-! ### covers: the program's own -/
def ChAt (H : Hp) (c : Addr) (a b : List Int) : Prop := ∃ ra rb, H c = some (.tup [.ref ra, .ref rb]) ∧ H ra = some (.tup (a.map V.int)) ∧ H rb = some (.tup (b.map V.int))
theorem ChAt.gr {H H' : Hp} {c : Addr} {a b : List Int} (h : ChAt H c a b) (g : Gr H H') : ChAt H' c a b := by
  obtain ⟨ra, rb, h1, h2, h3⟩ := h
  exact ⟨ra, rb, g.tup h1, g.tup h2, g.tup h3⟩
structure ChOk (m : Nat) (a b : List Int) : Prop where
  la : a.length = m
  lb : b.length = m
  oa : Row01' a
  ob : Row01' b
  m6 : m ≤ 6


theorem lc_enum {K : PySem.W.Frag} {a : Addr} {xs : List V} {g : TG} {tt : TT} {te : TE} {vs : List Nat} {σ : L2.St} {H1 : Hp} {D : Addr} {Qd : Hp → Prop} (Pv : Nat → Hp → Prop) (h0 : Pv 0 (upd H1 D (.lst []))) (hl : ∀ i H, i ≤ xs.length → Pv i H → SqL K H a xs)
    (hs : ∀ i x T H, xs[i]? = some x → H T = none → Pv i H → g (.ref T) (wipe σ vs) (upd H T (.tup [.int (i : Nat), x])) fun σ2 H2 => wipe σ2 vs = wipe σ vs ∧ tt σ2 H2 fun b H3 =>
      if b = true then te σ2 H3 fun y H4 => ∃ acc, H4 D = some (.lst acc) ∧ acc.length < sizeLine ∧ Pv (i + 1) (upd H4 D (.lst (acc ++ [y]))) else Pv (i + 1) H3) (hd : ∀ H, Pv xs.length H → Qd H) :
    ∃ W : Nat → Nat → Hp → Prop, (∃ m, W 0 m (upd H1 D (.lst []))) ∧ ∀ i m H, W i m H →
      ((Ite K a).stop i H ∧ Qd H) ∨ ((Ite K a).go i H ∧ ∃ Nx : Hp → Prop, (∀ H', Nx H' → ∃ m', m' < m ∧ W (i + 1) m' H') ∧ ∀ x H', (Ite K a).yld i H x H' → g x (wipe σ vs) H' fun σ2 H2 => wipe σ2 vs = wipe σ vs ∧ tt σ2 H2 fun b H3 =>
        if b = true then te σ2 H3 fun y H4 => ∃ acc, H4 D = some (.lst acc) ∧ acc.length < sizeLine ∧ Nx (upd H4 D (.lst (acc ++ [y]))) else Nx H3) := by
  refine ⟨fun i m H => m = xs.length - i ∧ i ≤ xs.length ∧ Pv i H, ⟨xs.length, by simp, Nat.zero_le _, h0⟩, ?_⟩
  rintro i m H ⟨rfl, hi, p⟩
  have qx := hl i H hi p
  by_cases hlt : i < xs.length
  · have hx : xs[i]? = some xs[i] := List.getElem?_eq_getElem hlt
    refine .inr ⟨⟨xs, _, qx, hx⟩, Pv (i + 1), fun H' p' => ⟨xs.length - (i + 1), by omega, rfl, hlt, p'⟩, fun x H' y => ?_⟩
    obtain ⟨T, x1, rfl, nT, rfl, e1⟩ := y
    exact hs i x1 T H (e1 xs qx) nT p
  · have e : i = xs.length := by omega
    subst e
    exact .inl ⟨⟨xs, qx, Nat.le_refl _⟩, hd H p⟩

/-! ### a change drawn -/
def Rw (H : Hp) (m : Nat) (v : V) : Prop := ∃ p r, v = .ref p ∧ H p = some (.tup (r.map V.int)) ∧ r.length = m ∧ Row01' r
theorem Rw.ts {H H' : Hp} {m : Nat} {v : V} (h : Rw H m v) (s : Ts H H') : Rw H' m v := by
  obtain ⟨p, r, e, h, z⟩ := h
  exact ⟨p, r, e, s _ _ h, z⟩
theorem rw_all {H : Hp} {cs : List V} {m : Nat} (t : TkAll H cs ((rowsU m).map rowD)) : ∀ x ∈ cs, Rw H m x := fun x hx => by
  obtain ⟨r, hr, tr⟩ := t.memX x hx
  obtain ⟨p, rfl, hp⟩ := tr.row_inv
  exact ⟨p, r, rfl, hp, rowsU_ok m r hr⟩
theorem ChAt.ts {H H' : Hp} {c : Addr} {a b : List Int} (h : ChAt H c a b) (g : Ts H H') : ChAt H' c a b := by
  obtain ⟨ra, rb, h1, h2, h3⟩ := h
  exact ⟨ra, rb, g _ _ h1, g _ _ h2, g _ _ h3⟩
theorem pair_at {H : Hp} {t : Addr} {u v : V} {m : Nat} (ht : H t = some (.tup [u, v])) (hu : Rw H m u) (hv : Rw H m v) (m6 : m ≤ 6) : ∃ a b, ChAt H t a b ∧ ChOk m a b := by
  obtain ⟨p, a, rfl, hp, la, oa⟩ := hu
  obtain ⟨p', b, rfl, hp', lb, ob⟩ := hv
  exact ⟨a, b, ⟨p, p', ht, hp, hp'⟩, ⟨la, lb, oa, ob, m6⟩⟩
theorem tab_cps {bs : List Bool} {k : Nat} (h : k < bs.length) : (tabOf bs).cps[(((k : Nat) : Int)).toNat]? = some (if bs[k] = true then 49 else 48) := by
  show ((bs.map fun b => if b = true then 49 else 48).toArray)[k]? = _
  rw [List.getElem?_toArray, List.getElem?_map, List.getElem?_eq_getElem h]
  rfl
theorem tab_len (bs : List Bool) : (tabOf bs).length = bs.length := by simp [tabOf, Str.length]
def sp_change (K : PySem.W.Frag) : Sp := fun vs H Q _ => ∃ (d l : Addr) (n : Int) (m : Nat) (bs : List Bool), vs = [.ref d, .int m, .str (tabOf bs)] ∧ DeckG H d l n ∧ n < 800000000 ∧ 1 ≤ m ∧ m ≤ 6 ∧ bs.length = 2 ^ m ∧ ∀ (c : Addr) (a b : List Int) (H' : Hp), DeckG H' d l (n + 6) → Fr d l H H' → H c = none → ChAt H' c a b → ChOk m a b → Q (.ref c) H'
theorem ok_change (T : Tx K mg) : FnOk P w K mg base CX0 2 T.f_change T.fd_change ["_law_deck_here", "_law_many", "_law_table_here"] (sp_change K) := by
  refine T.F_change.ok sc_change (fun vs H Q E h => ?_) (fun cdv A outer s H vs Q E hr h => ?_)
  · obtain ⟨d, l, n, m, bs, rfl, _⟩ := h
    rfl
  · obtain ⟨d, l, n, m, bs, rfl, D, hn, m1, m6, lb, q⟩ := h
    refine ⟨_, (pss_cons (ps_set (i := 3) sc_change.nd rfl (by first | exact .inl rfl | exact .inr rfl) (pe_call (ok_next T) (hr.mono (by decide)) (by rfl) T.g_next T.F_next.kp T.b_next .nil pass0 (pa_cons (pv 0) (pa_cons pe_int pa_nil)))) (pss_cons (ps_set (i := 4) sc_change.nd rfl (by first | exact .inl rfl | exact .inr rfl) (pe_call (ok_rows T) (hr.mono (by decide)) (by rfl) T.g_rows T.F_rows.kp T.b_rows .nil pass0 (pa_cons (pv 1) pa_nil))) (pss_cons (ps_set (i := 5) sc_change.nd rfl (by first | exact .inl rfl | exact .inr rfl) (pe_ix ix_list (pv 4) (pe_call (ok_next T) (hr.mono (by decide)) (by rfl) T.g_next T.F_next.kp T.b_next .nil pass0 (pa_cons (pv 0) (pa_cons (pe_callB call_len_seq (by rfl) T.m_len PySem.boot_len (pa_cons (pv 4) pa_nil)) pa_nil))) (fun _ _ => rfl))) (pss_cons (ps_set (i := 6) sc_change.nd rfl (by first | exact .inl rfl | exact .inr rfl) (pe_ix ix_list (pv 4) (pe_call (ok_next T) (hr.mono (by decide)) (by rfl) T.g_next T.F_next.kp T.b_next .nil pass0 (pa_cons (pv 0) (pa_cons (pe_callB call_len_seq (by rfl) T.m_len PySem.boot_len (pa_cons (pv 4) pa_nil)) pa_nil))) (fun _ _ => rfl))) (pss_cons (ps_set (i := 7) sc_change.nd rfl (by first | exact .inl rfl | exact .inr rfl) (pe_call (ok_next T) (hr.mono (by decide)) (by rfl) T.g_next T.F_next.kp T.b_next .nil pass0 (pa_cons (pv 0) (pa_cons (pv 1) pa_nil)))) (pss_cons (ps_set (i := 8) sc_change.nd rfl (by first | exact .inl rfl | exact .inr rfl) (pe_op op_cat (pe_lc (own := [("_law_k", 13), ("_law_row", 14)]) (by rfl) sc_change.nd (pi_enum (by rfl) T.m_enumerate (pa_cons (pv 4) pa_nil)) (blkOk_by (own := [("_law_k", 13), ("_law_row", 14)]) (N := ["_law_deck_here", "_law_many", "_law_table_here", "_law_way", "_law_rows_here", "_law_one", "_law_other", "_law_place", "_law_ones", "_law_noughts", "_law_bright", "_law_dark", "_law_beside", "_law_k", "_law_row"]) (sc := defScope s_change) (by decide +kernel)) (fun _ _ _ _ _ => (show PG _ _ (gTup K 2 _) from pg_tup rfl (pgs_cons (pg_name (i := 13) sc_change.nd rfl (by first | exact .inl rfl | exact .inr rfl)) (pgs_cons (pg_name (i := 14) sc_change.nd rfl (by first | exact .inl rfl | exact .inr rfl)) pgs_nil)))) (fun _ _ _ _ _ => (pts_one (pt_cmpR op_eq (pe_item_str (pv 2) (pv 13) (fun _ _ => rfl)) pe_str (nomark _)))) (fun _ _ _ _ _ => (pv 14))) (pe_lst (pa_cons (pv 5) pa_nil)))) (pss_cons (ps_set (i := 9) sc_change.nd rfl (by first | exact .inl rfl | exact .inr rfl) (pe_op op_cat (pe_lc (own := [("_law_k", 13), ("_law_row", 14)]) (by rfl) sc_change.nd (pi_enum (by rfl) T.m_enumerate (pa_cons (pv 4) pa_nil)) (blkOk_by (own := [("_law_k", 13), ("_law_row", 14)]) (N := ["_law_deck_here", "_law_many", "_law_table_here", "_law_way", "_law_rows_here", "_law_one", "_law_other", "_law_place", "_law_ones", "_law_noughts", "_law_bright", "_law_dark", "_law_beside", "_law_k", "_law_row"]) (sc := defScope s_change) (by decide +kernel)) (fun _ _ _ _ _ => (show PG _ _ (gTup K 2 _) from pg_tup rfl (pgs_cons (pg_name (i := 13) sc_change.nd rfl (by first | exact .inl rfl | exact .inr rfl)) (pgs_cons (pg_name (i := 14) sc_change.nd rfl (by first | exact .inl rfl | exact .inr rfl)) pgs_nil)))) (fun _ _ _ _ _ => (pts_one (pt_cmpR op_eq (pe_item_str (pv 2) (pv 13) (fun _ _ => rfl)) pe_str (nomark _)))) (fun _ _ _ _ _ => (pv 14))) (pe_lst (pa_cons (pv 6) pa_nil)))) (pss_cons (ps_set (i := 10) sc_change.nd rfl (by first | exact .inl rfl | exact .inr rfl) (pe_ix ix_list (pv 8) (pe_call (ok_next T) (hr.mono (by decide)) (by rfl) T.g_next T.F_next.kp T.b_next .nil pass0 (pa_cons (pv 0) (pa_cons (pe_callB call_len_seq (by rfl) T.m_len PySem.boot_len (pa_cons (pv 8) pa_nil)) pa_nil))) (fun _ _ => rfl))) (pss_cons (ps_set (i := 11) sc_change.nd rfl (by first | exact .inl rfl | exact .inr rfl) (pe_ix ix_list (pv 9) (pe_call (ok_next T) (hr.mono (by decide)) (by rfl) T.g_next T.F_next.kp T.b_next .nil pass0 (pa_cons (pv 0) (pa_cons (pe_callB call_len_seq (by rfl) T.m_len PySem.boot_len (pa_cons (pv 9) pa_nil)) pa_nil))) (fun _ _ => rfl))) (pss_cons (ps_set (i := 12) sc_change.nd rfl (by first | exact .inl rfl | exact .inr rfl) (pe_op op_catA (pe_op op_catA (pe_slice sl_tupA (pv 5) po_none (po_some (pv 7))) (pe_tup (pa_cons (pe_op op_sub pe_int (pe_ix ix_tup (pv 5) (pv 7) (fun _ _ => rfl))) pa_nil))) (pe_slice sl_tupA (pv 5) (po_some (pe_op op_add (pv 7) pe_int)) po_none))) (pss_one (ps_ret (pe_ix ix_list (pe_lst (pa_cons (pe_tup (pa_cons (pv 5) (pa_cons (pv 12) pa_nil))) (pa_cons (pe_tup (pa_cons (pv 5) (pa_cons (pv 6) pa_nil))) (pa_cons (pe_tup (pa_cons (pv 5) (pa_cons (pv 5) pa_nil))) (pa_cons (pe_tup (pa_cons (pv 10) (pa_cons (pv 11) pa_nil))) (pa_cons (pe_tup (pa_cons (pv 11) (pa_cons (pv 10) pa_nil))) (pa_cons (pe_tup (pa_cons (pv 10) (pa_cons (pe_ix ix_list (pv 8) pe_int (fun _ _ => rfl)) pa_nil))) pa_nil))))))) (pv 3) (fun _ _ => rfl)))))))))))))), ?_⟩
    refine ⟨.ref d, rfl, d, l, 6, _, rfl, D, by omega, by decide, by decide, fun H1 way D1 fr1 w0 w1 => ?_⟩
    refine ⟨.int m, rfl, m, rfl, m1, m6, fun ca H2 nca s2 tc => ?_⟩
    have D2 := D1.same s2
    have fr2 := fr1.trans (Fr.of s2)
    obtain ⟨_, cs, e, hca, tcs⟩ := tc.lst_inv
    cases e
    have lcs : cs.length = 2 ^ m := by rw [tcs.length, List.length_map, rowsU_len]
    have l64 : 2 ^ m ≤ 64 := Nat.pow_le_pow_right (by decide) m6
    have lpos : 1 ≤ 2 ^ m := Nat.one_le_two_pow
    have oca := D1.off nca
    refine ⟨.ref ca, rfl, .ref d, rfl, .ref ca, rfl, ca, _, rfl, .inl (SqL.of hca), ?_⟩
    rw [lcs]
    refine ⟨d, l, _, _, rfl, D2, by omega, by omega, by omega, fun H3 i1 D3 fr3 a0 a1 => ?_⟩
    have hca3 := fr3 _ _ oca.1 oca.2 hca
    have tcs3 := tcs.ts (Ts.frG D2 fr3) (noLs_map (fun r => noL_row r) _)
    obtain ⟨v1, hv1, mv1⟩ := at_pick (xs := cs) a0 (by rw [lcs]; exact a1)
    refine ⟨ca, _, _, v1, rfl, rfl, SqL.of hca3, hv1, ?_⟩
    refine ⟨.ref ca, rfl, .ref d, rfl, .ref ca, rfl, ca, _, rfl, .inl (SqL.of hca3), ?_⟩
    rw [lcs]
    refine ⟨d, l, _, _, rfl, D3, by omega, by omega, by omega, fun H4 i2 D4 fr4 b0 b1 => ?_⟩
    have hca4 := fr4 _ _ oca.1 oca.2 hca3
    have tcs4 := tcs3.ts (Ts.frG D3 fr4) (noLs_map (fun r => noL_row r) _)
    obtain ⟨v2, hv2, mv2⟩ := at_pick (xs := cs) b0 (by rw [lcs]; exact b1)
    refine ⟨ca, _, _, v2, rfl, rfl, SqL.of hca4, hv2, ?_⟩
    refine ⟨.ref d, rfl, .int m, rfl, d, l, m, _, rfl, D4, by omega, by omega, by omega, fun H5 pl D5 fr5 p0 p1 => ?_⟩
    have hca5 := fr5 _ _ oca.1 oca.2 hca4
    have tcs5 := tcs4.ts (Ts.frG D4 fr5) (noLs_map (fun r => noL_row r) _)
    have fr05 := (fr2.trans fr3).trans (fr4.trans fr5)
    show tSeq _ _ _ [some (.ref d), some (.int m), some (.str (tabOf bs)), some (.int way), some (.ref ca), some v1, some v2, some (.int pl), none, none, none, none, none, none, none] H5
    refine ⟨.ref ca, rfl, ca, _, rfl, SqL.of hca5, fun L nL => ?_⟩
    refine lc_enum (K := K) (a := ca) (xs := cs) (fun j H' => Same H5 (hd1 L H') ∧ ∃ xs, H' L = some (.lst xs) ∧ xs.length ≤ j ∧ ∀ x ∈ xs, x ∈ cs) ⟨hd1_of (same_upd nL) nL, [], upd_same, Nat.zero_le _, fun x hx => by cases hx⟩ (fun j H' _ z => SqL.of (hd1_le _ _ (z.1 _ _ hca5))) ?_ ?_
    · rintro j x Tq H6 hx nT ⟨s6, xs, hL, lx, mx⟩
      have hj := (List.getElem?_eq_some_iff.mp hx).1
      have sT := same_upd (o := HO.tup [.int (j : Nat), x]) nT
      refine ⟨Tq, _, rfl, SqT.of upd_same, rfl, _, _, rfl, _, _, rfl, rfl, rfl, ?_⟩
      refine ⟨.str (tabOf bs), rfl, .int (j : Nat), rfl, tabOf bs, ((j : Nat) : Int), _, rfl, rfl, by omega, by omega, by rw [tab_len]; omega, tab_cps (by omega), rfl, _, rfl, ite2 (fun _ => ?_) (fun _ => ?_)⟩
      · refine ⟨x, rfl, xs, sT _ _ hL, Nat.lt_of_lt_of_le (show _ < 128 by omega) (by decide), (s6.trans (hd1_same sT)).trans hd1_upd, xs ++ [x], upd_same, by rw [List.length_append]; exact Nat.succ_le_succ lx, fun z hz => ?_⟩
        rcases List.mem_append.mp hz with h | h
        · exact mx z h
        · rw [List.mem_singleton.mp h]; exact List.mem_of_getElem? hx
      · exact ⟨s6.trans (hd1_same sT), xs, sT _ _ hL, by omega, mx⟩
    rintro H6 ⟨s6, xs, hL, lx, mx⟩
    have s56 : Same H5 H6 := fun b o e => hd1_le _ _ (s6 _ _ e)
    refine ⟨v1, rfl, sl1, fun M nM => ?_⟩
    have s7 := same_upd (o := (HO.lst [v1])) nM
    have hM : upd H6 M (HO.lst [v1]) M = some (HO.lst [v1]) := upd_same
    generalize upd H6 M (HO.lst [v1]) = H7 at s7 hM ⊢
    refine ⟨L, M, _, _, rfl, rfl, s7 _ _ hL, hM, Nat.le_trans (show xs.length + 1 ≤ 128 by omega) (by decide), fun O nO => ?_⟩
    have s8 := same_upd (o := (HO.lst (xs ++ [v1]))) nO
    have hO : upd H7 O (HO.lst (xs ++ [v1])) O = some (HO.lst (xs ++ [v1])) := upd_same
    generalize upd H7 O (HO.lst (xs ++ [v1])) = H8 at s8 hO ⊢
    have s58 := (s56.trans s7).trans s8
    have mO : ∀ x ∈ xs ++ [v1], x ∈ cs := fun z hz => by
      rcases List.mem_append.mp hz with h | h
      · exact mx z h
      · rw [List.mem_singleton.mp h]; exact mv1
    have lO : 1 ≤ (xs ++ [v1]).length ∧ (xs ++ [v1]).length ≤ 65 := by
      rw [List.length_append]
      show 1 ≤ xs.length + 1 ∧ xs.length + 1 ≤ 65
      omega
    revert hO mO lO
    generalize xs ++ [v1] = os
    intro hO mO lO
    have hca8 := s58 _ _ hca5
    show tSeq _ _ _ [some (.ref d), some (.int m), some (.str (tabOf bs)), some (.int way), some (.ref ca), some v1, some v2, some (.int pl), some (.ref O), none, none, none, none, none, none] H8
    refine ⟨.ref ca, rfl, ca, _, rfl, SqL.of hca8, fun L' nL' => ?_⟩
    refine lc_enum (K := K) (a := ca) (xs := cs) (fun j H' => Same H8 (hd1 L' H') ∧ ∃ xs, H' L' = some (.lst xs) ∧ xs.length ≤ j ∧ ∀ x ∈ xs, x ∈ cs) ⟨hd1_of (same_upd nL') nL', [], upd_same, Nat.zero_le _, fun x hx => by cases hx⟩ (fun j H' _ z => SqL.of (hd1_le _ _ (z.1 _ _ hca8))) ?_ ?_
    · rintro j x Tq H9 hx nT ⟨s9, ys, hL', ly, my⟩
      have hj := (List.getElem?_eq_some_iff.mp hx).1
      have sT := same_upd (o := HO.tup [.int (j : Nat), x]) nT
      refine ⟨Tq, _, rfl, SqT.of upd_same, rfl, _, _, rfl, _, _, rfl, rfl, rfl, ?_⟩
      refine ⟨.str (tabOf bs), rfl, .int (j : Nat), rfl, tabOf bs, ((j : Nat) : Int), _, rfl, rfl, by omega, by omega, by rw [tab_len]; omega, tab_cps (by omega), rfl, _, rfl, ite2 (fun _ => ?_) (fun _ => ?_)⟩
      · refine ⟨x, rfl, ys, sT _ _ hL', Nat.lt_of_lt_of_le (show _ < 128 by omega) (by decide), (s9.trans (hd1_same sT)).trans hd1_upd, ys ++ [x], upd_same, by rw [List.length_append]; exact Nat.succ_le_succ ly, fun z hz => ?_⟩
        rcases List.mem_append.mp hz with h | h
        · exact my z h
        · rw [List.mem_singleton.mp h]; exact List.mem_of_getElem? hx
      · exact ⟨s9.trans (hd1_same sT), ys, sT _ _ hL', by omega, my⟩
    rintro H9 ⟨s9, ys, hL', ly, my⟩
    have s89 : Same H8 H9 := fun b o e => hd1_le _ _ (s9 _ _ e)
    refine ⟨v2, rfl, sl1, fun M' nM' => ?_⟩
    have sA := same_upd (o := (HO.lst [v2])) nM'
    have hM' : upd H9 M' (HO.lst [v2]) M' = some (HO.lst [v2]) := upd_same
    generalize upd H9 M' (HO.lst [v2]) = HA at sA hM' ⊢
    refine ⟨L', M', _, _, rfl, rfl, sA _ _ hL', hM', Nat.le_trans (show ys.length + 1 ≤ 128 by omega) (by decide), fun N nN => ?_⟩
    have sB := same_upd (o := (HO.lst (ys ++ [v2]))) nN
    have hN : upd HA N (HO.lst (ys ++ [v2])) N = some (HO.lst (ys ++ [v2])) := upd_same
    generalize upd HA N (HO.lst (ys ++ [v2])) = HB at sB hN ⊢
    have s8B := (s89.trans sA).trans sB
    have mN : ∀ x ∈ ys ++ [v2], x ∈ cs := fun z hz => by
      rcases List.mem_append.mp hz with h | h
      · exact my z h
      · rw [List.mem_singleton.mp h]; exact mv2
    have lN : 1 ≤ (ys ++ [v2]).length ∧ (ys ++ [v2]).length ≤ 65 := by
      rw [List.length_append]
      show 1 ≤ ys.length + 1 ∧ ys.length + 1 ≤ 65
      omega
    revert hN mN lN
    generalize ys ++ [v2] = ns
    intro hN mN lN
    have DB := D5.same (s58.trans s8B)
    have frB := fr05.trans (Fr.of (s58.trans s8B))
    have tcsB := tcs5.same (s58.trans s8B)
    have hOB := s8B _ _ hO
    have oO := (D5.same ((s56.trans s7))).off nO
    have oN := (D5.same ((s58.trans s89).trans sA)).off nN
    refine ⟨.ref O, rfl, .ref d, rfl, .ref O, rfl, O, _, rfl, .inl (SqL.of hOB), d, l, _, _, rfl, DB, by omega, by omega, by omega, fun HC i3 DC frC c0 c1 => ?_⟩
    have hOC := frC _ _ oO.1 oO.2 hOB
    have hNC := frC _ _ oN.1 oN.2 hN
    obtain ⟨v3, hv3, mv3⟩ := at_pick (xs := os) c0 c1
    refine ⟨O, _, _, v3, rfl, rfl, SqL.of hOC, hv3, ?_⟩
    refine ⟨.ref N, rfl, .ref d, rfl, .ref N, rfl, N, _, rfl, .inl (SqL.of hNC), d, l, _, _, rfl, DC, by omega, by omega, by omega, fun HD i4 DD frD d0 d1 => ?_⟩
    have hOD := frD _ _ oO.1 oO.2 hOC
    have hND := frD _ _ oN.1 oN.2 hNC
    obtain ⟨v4, hv4, mv4⟩ := at_pick (xs := ns) d0 d1
    refine ⟨N, _, _, v4, rfl, rfl, SqL.of hND, hv4, ?_⟩
    have tcsD := tcsB.ts ((Ts.frG DB frC).trans (Ts.frG DC frD)) (noLs_map (fun r => noL_row r) _)
    have frBD := frB.trans (frC.trans frD)
    obtain ⟨p1', r1, rfl, hp1, lr1, or1⟩ := rw_all tcsD v1 mv1
    obtain ⟨k, rfl⟩ := Int.eq_ofNat_of_zero_le p0
    have hk : k < r1.length := by omega
    have hat : atI (r1.map V.int) ((k : Nat) : Int) = some (.int r1[k]) := atI_nat (by rw [List.getElem?_map, List.getElem?_eq_getElem hk]; rfl)
    show tSeq _ _ _ [some (.ref d), some (.int m), some (.str (tabOf bs)), some (.int way), some (.ref ca), some (.ref p1'), some v2, some (.int (k : Nat)), some (.ref O), some (.ref N), some v3, some v4, none, none, none] HD
    refine ⟨.ref p1', rfl, .int (k : Nat), rfl, (k : Int), rfl, slA hp1 fun q1 HE sE hq1 => ?_⟩
    rw [cut_to] at hq1
    refine ⟨.ref p1', rfl, .int (k : Nat), rfl, p1', _, _, _, rfl, rfl, SqT.of (sE _ _ hp1), hat, _, _, rfl, rfl, sl1, fun t nt => ?_⟩
    have sF := same_upd (o := (HO.tup [V.int (1 - r1[k])])) nt
    have ht : upd HE t (HO.tup [V.int (1 - r1[k])]) t = some (HO.tup [V.int (1 - r1[k])]) := upd_same
    generalize upd HE t (HO.tup [V.int (1 - r1[k])]) = HF at sF ht ⊢
    refine catA (sF _ _ hq1) ht ?_ fun q2 HG sG hq2 => ?_
    · rw [List.length_take, List.length_map]
      exact Nat.le_trans (show _ ≤ 64 by simp only [List.length_cons, List.length_nil]; omega) (by decide)
    have sDG := (sE.trans sF).trans sG
    refine ⟨.ref p1', rfl, .int (k : Nat), rfl, _, _, rfl, rfl, ((k + 1 : Nat) : Int), rfl, ?_⟩
    refine slAn (sDG _ _ hp1) fun q3 HI sI hq3 => ?_
    rw [cut_from] at hq3
    refine catA (sI _ _ hq2) hq3 ?_ fun be HJ sJ hbe => ?_
    · rw [List.length_append, List.length_take, List.length_drop, List.length_map]
      exact Nat.le_trans (show _ ≤ 64 by simp only [List.length_cons, List.length_nil]; omega) (by decide)
    rw [set_put (by rw [List.length_map]; exact hk)] at hbe
    have hset : (r1.map V.int).set k (V.int (1 - r1[k])) = (r1.set k (1 - r1[k])).map V.int := by rw [List.map_set]
    rw [hset] at hbe
    have sDJ := (sDG.trans sI).trans sJ
    have DJ := DD.same sDJ
    have frJ := frBD.trans (Fr.of sDJ)
    have tcsJ := tcsD.same sDJ
    have hOJ := sDJ _ _ hOD
    have rwc := rw_all tcsJ
    have rb : Rw HJ m (.ref be) := ⟨be, _, rfl, hbe, by rw [List.length_set]; exact lr1, fun y hy => by
      rcases List.mem_or_eq_of_mem_set hy with z | z
      · exact or1 y z
      · have := or1 r1[k] (List.getElem_mem hk)
        omega⟩
    have w1' := rwc _ mv1
    have w2 := rwc _ mv2
    have w3 := rwc _ (mO _ mv3)
    have w4 := rwc _ (mN _ mv4)
    obtain ⟨v5, hv5, mv5⟩ := at_pick (xs := os) (j := 0) (by decide) (by omega)
    have w5 := rwc _ (mO _ mv5)
    unfold gName
    show (_ : L2.St → Hp → Prop) [some (.ref d), some (.int m), some (.str (tabOf bs)), some (.int way), some (.ref ca), some (.ref p1'), some v2, some (.int (k : Nat)), some (.ref O), some (.ref N), some v3, some v4, some (.ref be), none, none] HJ
    refine ⟨.ref p1', rfl, .ref be, rfl, sl2, fun t1 n1 => ?_⟩
    have s1 := same_upd (o := (HO.tup [V.ref p1', .ref be])) n1
    have h1 : upd HJ t1 (HO.tup [V.ref p1', .ref be]) t1 = some (HO.tup [V.ref p1', .ref be]) := upd_same
    generalize upd HJ t1 (HO.tup [V.ref p1', .ref be]) = J1 at s1 h1 ⊢
    refine ⟨.ref p1', rfl, v2, rfl, sl2, fun t2 n2 => ?_⟩
    have s2' := same_upd (o := (HO.tup [V.ref p1', v2])) n2
    have h2 : upd J1 t2 (HO.tup [V.ref p1', v2]) t2 = some (HO.tup [V.ref p1', v2]) := upd_same
    generalize upd J1 t2 (HO.tup [V.ref p1', v2]) = J2 at s2' h2 ⊢
    refine ⟨.ref p1', rfl, .ref p1', rfl, sl2, fun t3 n3 => ?_⟩
    have s3 := same_upd (o := (HO.tup [V.ref p1', .ref p1'])) n3
    have h3 : upd J2 t3 (HO.tup [V.ref p1', .ref p1']) t3 = some (HO.tup [V.ref p1', .ref p1']) := upd_same
    generalize upd J2 t3 (HO.tup [V.ref p1', .ref p1']) = J3 at s3 h3 ⊢
    refine ⟨v3, rfl, v4, rfl, sl2, fun t4 n4 => ?_⟩
    have s4 := same_upd (o := (HO.tup [v3, v4])) n4
    have h4 : upd J3 t4 (HO.tup [v3, v4]) t4 = some (HO.tup [v3, v4]) := upd_same
    generalize upd J3 t4 (HO.tup [v3, v4]) = J4 at s4 h4 ⊢
    refine ⟨v4, rfl, v3, rfl, sl2, fun t5 n5 => ?_⟩
    have s5 := same_upd (o := (HO.tup [v4, v3])) n5
    have h5 : upd J4 t5 (HO.tup [v4, v3]) t5 = some (HO.tup [v4, v3]) := upd_same
    generalize upd J4 t5 (HO.tup [v4, v3]) = J5 at s5 h5 ⊢
    have sJ5 := (((s1.trans s2').trans s3).trans s4).trans s5
    refine ⟨v3, rfl, .ref O, rfl, O, _, 0, v5, rfl, rfl, SqL.of (sJ5 _ _ hOJ), hv5, sl2, fun t6 n6 => ?_⟩
    have s6' := same_upd (o := (HO.tup [v3, v5])) n6
    have h6 : upd J5 t6 (HO.tup [v3, v5]) t6 = some (HO.tup [v3, v5]) := upd_same
    generalize upd J5 t6 (HO.tup [v3, v5]) = J6 at s6' h6 ⊢
    refine ⟨(show 6 ≤ sizeLine by decide), fun W nW => ?_⟩
    have s7' := same_upd (o := (HO.lst [V.ref t1, .ref t2, .ref t3, .ref t4, .ref t5, .ref t6])) nW
    have h7 : upd J6 W (HO.lst [V.ref t1, .ref t2, .ref t3, .ref t4, .ref t5, .ref t6]) W = some (HO.lst [V.ref t1, .ref t2, .ref t3, .ref t4, .ref t5, .ref t6]) := upd_same
    generalize upd J6 W (HO.lst [V.ref t1, .ref t2, .ref t3, .ref t4, .ref t5, .ref t6]) = J7 at s7' h7 ⊢
    have sJ7 := (sJ5.trans s6').trans s7'
    have tsJ := Ts.same sJ7
    obtain ⟨x, hx, mx⟩ := at_pick (xs := [V.ref t1, .ref t2, .ref t3, .ref t4, .ref t5, .ref t6]) w0 w1
    refine ⟨.int way, rfl, W, _, way, x, rfl, rfl, SqL.of h7, hx, ?_⟩
    have fin : ∀ (t : Addr) (u v : V), J7 t = some (.tup [u, v]) → HJ t = none → Rw HJ m u → Rw HJ m v → Q (.ref t) J7 := fun t u v ht nt hu hv => by
      obtain ⟨a, b, ca', ok⟩ := pair_at ht (hu.ts tsJ) (hv.ts tsJ) m6
      exact q t a b J7 ((DJ.same sJ7).mono (by omega)) (frJ.trans (Fr.of sJ7)) (none_of_frG frJ DJ nt) ca' ok
    have back : ∀ {G : Hp} {t : Addr}, Same HJ G → G t = none → HJ t = none := fun {G t} s n => by
      cases z : HJ t with
      | none => rfl
      | some o => rw [s _ _ z] at n; cases n
    simp only [List.mem_cons, List.not_mem_nil, or_false] at mx
    rcases mx with rfl | rfl | rfl | rfl | rfl | rfl
    · exact fin _ _ _ (s7' _ _ (s6' _ _ (s5 _ _ (s4 _ _ (s3 _ _ (s2' _ _ h1)))))) n1 w1' rb
    · exact fin _ _ _ (s7' _ _ (s6' _ _ (s5 _ _ (s4 _ _ (s3 _ _ h2))))) (back s1 n2) w1' w2
    · exact fin _ _ _ (s7' _ _ (s6' _ _ (s5 _ _ (s4 _ _ h3)))) (back (s1.trans s2') n3) w1' w1'
    · exact fin _ _ _ (s7' _ _ (s6' _ _ (s5 _ _ h4))) (back ((s1.trans s2').trans s3) n4) w3 w4
    · exact fin _ _ _ (s7' _ _ (s6' _ _ h5)) (back (((s1.trans s2').trans s3).trans s4) n5) w4 w3
    · exact fin _ _ _ (s7' _ _ h6) (back sJ5 n6) w3 w5

end
end Gk

set_option Elab.async false
set_option linter.all false
set_option maxRecDepth 100000
set_option maxHeartbeats 1000000
set_option pp.maxSteps 1500
set_option pp.deepTerms false
namespace Gk
open PySem PySem.Spec PyProof.Rows L2
section
variable {P : Program} {w : World} {K : PySem.W.Frag} {mg : Str → Option Value} {base : Heap}
/-! ### a wish drawn -/
abbrev Ch := List Int × List Int
def cD (c : Ch) : PyData := chD c.1 c.2
def wishD (m : Nat) (bs : List Bool) (chs : List Ch) : PyData := .tuple [.int m, .str (tabOf bs), .tuple (chs.map cD)]
structure WishOk (m : Nat) (bs : List Bool) (chs : List Ch) : Prop where
  m1 : 1 ≤ m
  m4 : m ≤ 4
  lb : bs.length = 2 ^ m
  lc : chs.length ≤ 64
  oc : ∀ c ∈ chs, ChOk m c.1 c.2
theorem ChAt.tk {H : Hp} {c : Addr} {a b : List Int} (h : ChAt H c a b) : Tk H (.ref c) (chD a b) := by
  obtain ⟨ra, rb, h1, h2, h3⟩ := h
  exact .tup h1 (.cons (.tup h2 (TkAll.ints a)) (.cons (.tup h3 (TkAll.ints b)) .nil))
theorem ChAt.of_tk {H : Hp} {v : V} {c : Ch} (h : Tk H v (cD c)) : ∃ p, v = .ref p ∧ ChAt H p c.1 c.2 := by
  obtain ⟨p, ra, rb, rfl, h1, h2, h3⟩ := Tk.ch_inv h
  exact ⟨p, rfl, ra, rb, h1, h2, h3⟩
theorem noL_chs (chs : List Ch) : noLs (chs.map cD) = true := noLs_map (f := cD) (fun c => noL_ch c.1 c.2) chs
theorem noL_wish (m : Nat) (bs : List Bool) (chs : List Ch) : noL (wishD m bs chs) = true := by
  show (true && (true && (noLs (chs.map cD) && true))) = true
  rw [noL_chs]
  rfl
theorem Tk.wish_inv {H : Hp} {v : V} {m : Nat} {bs : List Bool} {chs : List Ch} (h : Tk H v (wishD m bs chs)) : ∃ r t xs, v = .ref r ∧ H r = some (.tup [.int m, .str (tabOf bs), .ref t]) ∧ H t = some (.tup xs) ∧ TkAll H xs (chs.map cD) := by
  obtain ⟨r, xs, rfl, hr, t⟩ := h.tup_inv
  cases t with
  | cons h1 t => cases t with
    | cons h2 t => cases t with
      | cons h3 t =>
        cases t
        cases h1
        cases h2
        obtain ⟨t, ys, rfl, ht, tx⟩ := h3.tup_inv
        exact ⟨r, t, ys, rfl, hr, ht, tx⟩
def sp_wish (K : PySem.W.Frag) : Sp := fun vs H Q _ => ∃ (d l : Addr) (n mo : Int), vs = [.ref d, .int mo] ∧ DeckG H d l n ∧ n < 700000000 ∧ 1 ≤ mo ∧ mo ≤ 57 ∧ ∀ (r : Addr) (m : Nat) (bs : List Bool) (chs : List Ch) (H' : Hp), DeckG H' d l (n + 800) → Fr d l H H' → H r = none → Tk H' (.ref r) (wishD m bs chs) → WishOk m bs chs → Q (.ref r) H'
theorem ok_wish (T : Tx K mg) : FnOk P w K mg base CX0 4 T.f_wish T.fd_wish ["_law_deck_here", "_law_most"] (sp_wish K) := by
  refine T.F_wish.ok sc_wish (fun vs H Q E h => ?_) (fun cdv A outer s H vs Q E hr h => ?_)
  · obtain ⟨d, l, n, mo, rfl, _⟩ := h
    rfl
  · obtain ⟨d, l, n, mo, rfl, D, hn, o1, o57, q⟩ := h
    refine ⟨_, (pss_cons (ps_set (i := 2) sc_wish.nd rfl (by first | exact .inl rfl | exact .inr rfl) (pe_ix ix_list (pe_lst (pa_cons pe_int (pa_cons pe_int (pa_cons pe_int (pa_cons pe_int (pa_cons pe_int (pa_cons pe_int (pa_cons pe_int (pa_cons pe_int pa_nil))))))))) (pe_call (ok_next T) (hr.mono (by decide)) (by rfl) T.g_next T.F_next.kp T.b_next .nil pass0 (pa_cons (pv 0) (pa_cons pe_int pa_nil))) (fun _ _ => rfl))) (pss_cons (ps_set (i := 3) sc_wish.nd rfl (by first | exact .inl rfl | exact .inr rfl) (pe_ix ix_list (pe_lst (pa_cons pe_int (pa_cons pe_int (pa_cons pe_int (pa_cons pe_int (pa_cons pe_int (pa_cons pe_int (pa_cons pe_int (pa_cons pe_int pa_nil))))))))) (pe_call (ok_next T) (hr.mono (by decide)) (by rfl) T.g_next T.F_next.kp T.b_next .nil pass0 (pa_cons (pv 0) (pa_cons pe_int pa_nil))) (fun _ _ => rfl))) (pss_cons (ps_set (i := 4) sc_wish.nd rfl (by first | exact .inl rfl | exact .inr rfl) (pe_ix ix_list (pe_lst (pa_cons (pe_call (ok_next T) (hr.mono (by decide)) (by rfl) T.g_next T.F_next.kp T.b_next .nil pass0 (pa_cons (pv 0) (pa_cons pe_int pa_nil))) (pa_cons (pe_call (ok_next T) (hr.mono (by decide)) (by rfl) T.g_next T.F_next.kp T.b_next .nil pass0 (pa_cons (pv 0) (pa_cons pe_int pa_nil))) (pa_cons (pe_op op_add pe_int (pe_call (ok_next T) (hr.mono (by decide)) (by rfl) T.g_next T.F_next.kp T.b_next .nil pass0 (pa_cons (pv 0) (pa_cons (pv 1) pa_nil)))) pa_nil)))) (pv 3) (fun _ _ => rfl))) (pss_cons (ps_set (i := 5) sc_wish.nd rfl (by first | exact .inl rfl | exact .inr rfl) (pe_call (ok_table T) (hr.mono (by decide)) (by rfl) T.g_table T.F_table.kp T.b_table .nil pass0 (pa_cons (pv 0) (pa_cons (pv 2) pa_nil)))) (pss_one (ps_ret (pe_tup (pa_cons (pv 2) (pa_cons (pv 5) (pa_cons (pe_callTy call_tuple_of (by rfl) T.m_tuple (by decide +kernel) (pa_cons (pe_lc (own := [("_law_k", 6)]) (by rfl) sc_wish.nd (pi_range1 (by rfl) T.m_range (pa_cons (pv 4) pa_nil)) (blkOk_by (own := [("_law_k", 6)]) (N := ["_law_deck_here", "_law_most", "_law_many", "_law_way", "_law_count", "_law_table_here", "_law_k"]) (sc := defScope s_wish) (by decide +kernel)) (fun _ _ _ _ _ => (pg_name (i := 6) sc_wish.nd rfl (by first | exact .inl rfl | exact .inr rfl))) (fun _ _ _ _ _ => pts_nil) (fun _ _ _ _ _ => (pe_call (ok_change T) (hr.mono (by decide)) (by rfl) T.g_change T.F_change.kp T.b_change .nil pass0 (pa_cons (pv 0) (pa_cons (pv 2) (pa_cons (pv 5) pa_nil)))))) pa_nil)) pa_nil)))))))))), ?_⟩
    refine ⟨(show 8 ≤ sizeLine by decide), fun p1 np1 => ?_⟩
    have s1 := same_upd (o := (HO.lst [V.int 1, .int 2, .int 3, .int 3, .int 3, .int 4, .int 2, .int 4])) np1
    have h1 : upd H p1 (HO.lst [V.int 1, .int 2, .int 3, .int 3, .int 3, .int 4, .int 2, .int 4]) p1 = some (HO.lst [V.int 1, .int 2, .int 3, .int 3, .int 3, .int 4, .int 2, .int 4]) := upd_same
    generalize upd H p1 (HO.lst [V.int 1, .int 2, .int 3, .int 3, .int 3, .int 4, .int 2, .int 4]) = A1 at s1 h1 ⊢
    have D1 := D.same s1
    have o1' := D.off np1
    refine ⟨.ref d, rfl, d, l, 8, _, rfl, D1, by omega, by decide, by decide, fun H2 x D2 fr2 x0 x1 => ?_⟩
    obtain ⟨vm, hm, mm⟩ := at_pick (xs := [V.int 1, .int 2, .int 3, .int 3, .int 3, .int 4, .int 2, .int 4]) x0 x1
    refine ⟨p1, _, x, vm, rfl, rfl, SqL.of (fr2 _ _ o1'.1 o1'.2 h1), hm, ?_⟩
    obtain ⟨m, rfl, m1, m4⟩ : ∃ m : Nat, vm = .int m ∧ 1 ≤ m ∧ m ≤ 4 := by
      simp only [List.mem_cons, List.not_mem_nil, or_false] at mm
      rcases mm with rfl | rfl | rfl | rfl | rfl | rfl | rfl | rfl
      · exact ⟨1, rfl, by omega, by omega⟩
      · exact ⟨2, rfl, by omega, by omega⟩
      · exact ⟨3, rfl, by omega, by omega⟩
      · exact ⟨3, rfl, by omega, by omega⟩
      · exact ⟨3, rfl, by omega, by omega⟩
      · exact ⟨4, rfl, by omega, by omega⟩
      · exact ⟨2, rfl, by omega, by omega⟩
      · exact ⟨4, rfl, by omega, by omega⟩
    refine ⟨(show 8 ≤ sizeLine by decide), fun p2 np2 => ?_⟩
    have s3 := same_upd (o := (HO.lst [V.int 0, .int 0, .int 1, .int 1, .int 1, .int 0, .int 1, .int 2])) np2
    have h3 : upd H2 p2 (HO.lst [V.int 0, .int 0, .int 1, .int 1, .int 1, .int 0, .int 1, .int 2]) p2 = some (HO.lst [V.int 0, .int 0, .int 1, .int 1, .int 1, .int 0, .int 1, .int 2]) := upd_same
    generalize upd H2 p2 (HO.lst [V.int 0, .int 0, .int 1, .int 1, .int 1, .int 0, .int 1, .int 2]) = A3 at s3 h3 ⊢
    have D3 := D2.same s3
    have o2' := D2.off np2
    refine ⟨.ref d, rfl, d, l, 8, _, rfl, D3, by omega, by decide, by decide, fun H4 y D4 fr4 y0 y1 => ?_⟩
    obtain ⟨vw, hw, mw⟩ := at_pick (xs := [V.int 0, .int 0, .int 1, .int 1, .int 1, .int 0, .int 1, .int 2]) y0 y1
    refine ⟨p2, _, y, vw, rfl, rfl, SqL.of (fr4 _ _ o2'.1 o2'.2 h3), hw, ?_⟩
    obtain ⟨way, rfl, wy0, wy3⟩ : ∃ way : Int, vw = .int way ∧ 0 ≤ way ∧ way < 3 := by
      simp only [List.mem_cons, List.not_mem_nil, or_false] at mw
      rcases mw with rfl | rfl | rfl | rfl | rfl | rfl | rfl | rfl <;> exact ⟨_, rfl, by decide, by decide⟩
    have fr04 := ((Fr.of (d := d) (l := l) s1).trans fr2).trans ((Fr.of (d := d) (l := l) s3).trans fr4)
    refine ⟨.ref d, rfl, d, l, 4, _, rfl, D4, by omega, by decide, by decide, fun H5 c1 D5 fr5 c10 c11 => ?_⟩
    refine ⟨.ref d, rfl, d, l, 7, _, rfl, D5, by omega, by decide, by decide, fun H6 c2 D6 fr6 c20 c21 => ?_⟩
    refine ⟨.ref d, rfl, .int mo, rfl, d, l, mo, _, rfl, D6, by omega, by omega, by omega, fun H7 c3 D7 fr7 c30 c31 => ?_⟩
    refine ⟨_, _, rfl, rfl, sl3, fun p3 np3 => ?_⟩
    have s8 := same_upd (o := (HO.lst [V.int c1, .int c2, .int (8 + c3)])) np3
    have h8 : upd H7 p3 (HO.lst [V.int c1, .int c2, .int (8 + c3)]) p3 = some (HO.lst [V.int c1, .int c2, .int (8 + c3)]) := upd_same
    generalize upd H7 p3 (HO.lst [V.int c1, .int c2, .int (8 + c3)]) = A8 at s8 h8 ⊢
    have D8 := D7.same s8
    obtain ⟨vc, hc, mc⟩ := at_pick (xs := [V.int c1, .int c2, .int (8 + c3)]) wy0 wy3
    refine ⟨.int way, rfl, p3, _, way, vc, rfl, rfl, SqL.of h8, hc, ?_⟩
    obtain ⟨cnt, rfl, ct0, ct64⟩ : ∃ c : Int, vc = .int c ∧ 0 ≤ c ∧ c ≤ 64 := by
      simp only [List.mem_cons, List.not_mem_nil, or_false] at mc
      rcases mc with rfl | rfl | rfl
      · exact ⟨_, rfl, c10, by omega⟩
      · exact ⟨_, rfl, c20, by omega⟩
      · exact ⟨_, rfl, by omega, by omega⟩
    have fr08 := ((fr04.trans fr5).trans (fr6.trans fr7)).trans (Fr.of s8)
    first | (show (_ : L2.St → Hp → Prop) [some (.ref d), some (.int mo), some (.int m), some (.int way), some (.int cnt), none, none] A8) | (unfold gName; show (_ : L2.St → Hp → Prop) [some (.ref d), some (.int mo), some (.int m), some (.int way), some (.int cnt), none, none] A8) | (dsimp only; show (_ : L2.St → Hp → Prop) [some (.ref d), some (.int mo), some (.int m), some (.int way), some (.int cnt), none, none] A8) | (dsimp only [gName]; show (_ : L2.St → Hp → Prop) [some (.ref d), some (.int mo), some (.int m), some (.int way), some (.int cnt), none, none] A8)
    refine ⟨.ref d, rfl, .int m, rfl, d, l, _, m, rfl, D8, by omega, m1, by omega, fun bs H9 D9 fr9 lb => ?_⟩
    have fr09 := fr08.trans fr9
    first | (show (_ : L2.St → Hp → Prop) [some (.ref d), some (.int mo), some (.int m), some (.int way), some (.int cnt), some (.str (tabOf bs)), none] H9) | (unfold gName; show (_ : L2.St → Hp → Prop) [some (.ref d), some (.int mo), some (.int m), some (.int way), some (.int cnt), some (.str (tabOf bs)), none] H9) | (dsimp only; show (_ : L2.St → Hp → Prop) [some (.ref d), some (.int mo), some (.int m), some (.int way), some (.int cnt), some (.str (tabOf bs)), none] H9) | (dsimp only [gName]; show (_ : L2.St → Hp → Prop) [some (.ref d), some (.int mo), some (.int m), some (.int way), some (.int cnt), some (.str (tabOf bs)), none] H9)
    refine ⟨.int m, rfl, .str (tabOf bs), rfl, .int cnt, rfl, cnt, rfl, by omega, by omega, fun L nL => ?_⟩
    have oL := D9.off nL
    have nL0 := none_of_frG fr09 D9 nL
    refine lc_range (g := gName 6) (lo := 0) (n := cnt.toNat) (fun j H' => DeckG H' d l (n + 305 + 6 * j) ∧ Fr d l H H' ∧ ∃ (xs : List V) (chs : List Ch), H' L = some (.lst xs) ∧ xs.length = j ∧ TkAll H' xs (chs.map cD) ∧ ∀ c ∈ chs, ChOk m c.1 c.2) ⟨(D9.same (same_upd nL)).mono (by omega), fr09.trans (Fr.new nL), [], [], upd_same, rfl, .nil, fun c hc => by cases hc⟩ ?_ ?_
    · rintro j H10 hj ⟨D10, fr10, xs, chs, hL, lx, tx, okc⟩
      have hj' : j < 64 := by omega
      refine ⟨rfl, .ref d, rfl, .int m, rfl, .str (tabOf bs), rfl, d, l, _, m, bs, rfl, D10, by omega, m1, by omega, lb, fun c a b H11 D11 fr11 nc ca ok => ?_⟩
      have hL11 := fr11 _ _ oL.1 oL.2 hL
      have tsL := (Ts.frG D10 fr11).trans (Ts.set (ys := xs ++ [V.ref c]) hL11)
      refine ⟨_, hL11, Nat.lt_of_lt_of_le (show _ < 128 by omega) (by decide), (D11.upd oL.1 oL.2).mono (by push_cast; omega), Fr.upd (fr10.trans fr11) nL0, xs ++ [V.ref c], chs ++ [(a, b)], upd_same, by rw [List.length_append, lx]; rfl, ?_, fun z hz => ?_⟩
      · rw [List.map_append]
        exact (tx.ts tsL (noL_chs _)).append (.cons ((ca.tk).ts (Ts.set hL11) (noL_ch a b)) .nil)
      · rcases List.mem_append.mp hz with h | h
        · exact okc z h
        · rw [List.mem_singleton.mp h]; exact ok
    rintro H10 ⟨D10, fr10, xs, chs, hL, lx, tx, okc⟩
    refine ⟨L, _, rfl, .inl ⟨SqL.of hL, fun t nt => ?_⟩⟩
    have s11 := same_upd (o := (HO.tup xs)) nt
    have h11 : upd H10 t (HO.tup xs) t = some (HO.tup xs) := upd_same
    generalize upd H10 t (HO.tup xs) = A11 at s11 h11 ⊢
    refine ⟨sl3, fun r nr => ?_⟩
    have s12 := same_upd (o := (HO.tup [V.int m, .str (tabOf bs), .ref t])) nr
    have h12 : upd A11 r (HO.tup [V.int m, .str (tabOf bs), .ref t]) r = some (HO.tup [V.int m, .str (tabOf bs), .ref t]) := upd_same
    generalize upd A11 r (HO.tup [V.int m, .str (tabOf bs), .ref t]) = A12 at s12 h12 ⊢
    have sa := s11.trans s12
    have nr10 : H10 r = none := by
      cases z : H10 r with
      | none => rfl
      | some o => rw [s11 _ _ z] at nr; cases nr
    have lcx := tx.length
    rw [List.length_map] at lcx
    exact q r m bs chs A12 ((D10.same sa).mono (by omega)) (fr10.trans (Fr.of sa)) (none_of_frG fr10 D10 nr10) (.tup h12 (.cons (.int _) (.cons (.str _) (.cons (.tup (s12 _ _ h11) (tx.same sa)) .nil)))) ⟨m1, m4, lb, by omega, okc⟩

end
end Gk

set_option Elab.async false
set_option linter.all false
set_option maxRecDepth 100000
set_option maxHeartbeats 1000000
set_option pp.maxSteps 1500
set_option pp.deepTerms false
namespace Gk
open PySem PySem.Spec PyProof.Rows L2
section
variable {P : Program} {w : World} {K : PySem.W.Frag} {mg : Str → Option Value} {base : Heap}
/-! ### all choices -/
def stepC {α : Type} (cs : List (List α)) (os : List α) : List (List α) := cs.flatMap fun c => os.map fun o => c ++ [o]
def chs {α : Type} (ls : List (List α)) : List (List α) := ls.foldl stepC [[]]
theorem chs_snoc {α : Type} (ls : List (List α)) (os : List α) : chs (ls ++ [os]) = stepC (chs ls) os := by
  unfold chs
  rw [List.foldl_append]
  rfl
theorem stepC_snoc {α : Type} (cs : List (List α)) (c : List α) (os : List α) : stepC (cs ++ [c]) os = stepC cs os ++ os.map fun o => c ++ [o] := by
  unfold stepC
  rw [List.flatMap_append]
  simp
theorem stepC_len {α : Type} (cs : List (List α)) (os : List α) : (stepC cs os).length = cs.length * os.length := by
  induction cs with
  | nil => simp [stepC]
  | cons c r ih =>
    have : stepC (c :: r) os = (os.map fun o => c ++ [o]) ++ stepC r os := by simp [stepC]
    rw [this, List.length_append, List.length_map, ih, List.length_cons, Nat.succ_mul]
    omega
theorem chs_len {α : Type} (m : Nat) (hm : 1 ≤ m) : ∀ (n : Nat) (ls : List (List α)), ls.length = n → (∀ l ∈ ls, l.length ≤ m) → (chs ls).length ≤ m ^ n := by
  intro n
  induction n with
  | zero =>
    intro ls h _
    cases List.eq_nil_of_length_eq_zero h
    exact Nat.le_refl _
  | succ n ih =>
    intro ls h hl
    have hne : ls ≠ [] := fun z => by rw [z] at h; cases h
    obtain ⟨r, x, rfl⟩ : ∃ r x, ls = r ++ [x] := ⟨ls.dropLast, ls.getLast hne, (List.dropLast_concat_getLast hne).symm⟩
    have hr := ih r (by rw [List.length_append] at h; simpa using h) fun l h' => hl l (List.mem_append_left _ h')
    rw [chs_snoc, stepC_len, Nat.pow_succ]
    exact Nat.mul_le_mul hr (hl x (by simp))
theorem chs_width {α : Type} : ∀ (ls : List (List α)) (c : List α), c ∈ chs ls → c.length = ls.length := by
  have key : ∀ (n : Nat) (ls : List (List α)), ls.length = n → ∀ c ∈ chs ls, c.length = n := by
    intro n
    induction n with
    | zero =>
      intro ls h c hc
      cases List.eq_nil_of_length_eq_zero h
      cases List.mem_singleton.mp hc
      rfl
    | succ n ih =>
      intro ls h c hc
      have hne : ls ≠ [] := fun z => by rw [z] at h; cases h
      obtain ⟨r, x, rfl⟩ : ∃ r x, ls = r ++ [x] := ⟨ls.dropLast, ls.getLast hne, (List.dropLast_concat_getLast hne).symm⟩
      rw [chs_snoc] at hc
      obtain ⟨c0, h0, hc⟩ := List.mem_flatMap.mp hc
      obtain ⟨o, _, rfl⟩ := List.mem_map.mp hc
      rw [List.length_append, ih r (by rw [List.length_append] at h; simpa using h) c0 h0]
      rfl
  exact fun ls c h => key _ ls rfl c h
theorem chs_map {α β : Type} (f : α → β) : ∀ (n : Nat) (ls : List (List α)), ls.length = n → chs (ls.map (List.map f)) = (chs ls).map (List.map f) := by
  intro n
  induction n with
  | zero =>
    intro ls h
    cases List.eq_nil_of_length_eq_zero h
    rfl
  | succ n ih =>
    intro ls h
    have hne : ls ≠ [] := fun z => by rw [z] at h; cases h
    obtain ⟨r, x, rfl⟩ : ∃ r x, ls = r ++ [x] := ⟨ls.dropLast, ls.getLast hne, (List.dropLast_concat_getLast hne).symm⟩
    rw [List.map_append, List.map_singleton, chs_snoc, chs_snoc, ih r (by rw [List.length_append] at h; simpa using h)]
    unfold stepC
    rw [List.flatMap_map, List.map_flatMap]
    congr 1
    funext c
    simp
def sp_choices_of (K : PySem.W.Frag) : Sp := fun vs H Q _ => ∃ (la : Addr) (xs : List V) (os : List (List PyData)), vs = [.ref la] ∧ H la = some (.lst xs) ∧ TkAll H xs (os.map PyData.tuple) ∧ (os.length ≤ 3 ∨ os.length ≤ 8 ∧ ∀ o ∈ os, o.length ≤ 2) ∧ (∀ o ∈ os, o.length ≤ 8) ∧ ∀ r H', Same H H' → Tk H' (.ref r) (.tuple ((chs os).map PyData.tuple)) → Q (.ref r) H'
theorem ok_choices_of (T : Tx K mg) : FnOk P w K mg base CX0 1 T.f_choices_of T.fd_choices_of ["lists"] (sp_choices_of K) := by
  refine T.F_choices_of.ok sc_choices_of (fun vs H Q E h => ?_) (fun cdv A outer s H vs Q E hr h => ?_)
  · obtain ⟨la, xs, os, rfl, _⟩ := h
    rfl
  · obtain ⟨la, xs, os, rfl, hla, tk, o3, o8, q⟩ := h
    have big : ∀ i, i ≤ os.length → (chs (os.take i)).length ≤ 512 := fun i hi => by
      rcases o3 with o3 | ⟨o3, o2⟩
      · have h1 := chs_len 8 (by decide) i (os.take i) (by rw [List.length_take]; omega) fun l hl => o8 l (List.mem_of_mem_take hl)
        have h2 : 8 ^ i ≤ 8 ^ 3 := Nat.pow_le_pow_right (by decide) (by omega)
        omega
      · have h1 := chs_len 2 (by decide) i (os.take i) (by rw [List.length_take]; omega) fun l hl => o2 l (List.mem_of_mem_take hl)
        have h2 : 2 ^ i ≤ 2 ^ 8 := Nat.pow_le_pow_right (by decide) (by omega)
        omega
    refine ⟨_, (pss_cons (ps_set (i := 1) sc_choices_of.nd rfl (by first | exact .inl rfl | exact .inr rfl) (pe_lst (pa_cons (pe_tup pa_nil) pa_nil))) (pss_cons (ps_for PassesOwn.never rfl (pi_list (pv 0)) (pg_name (i := 2) sc_choices_of.nd rfl (by first | exact .inl rfl | exact .inr rfl)) (pss_one (ps_setLc2 (i := 1) (own := [("choice", 3), ("option", 4)]) (vs1 := [4]) (by rfl) sc_choices_of.nd rfl rfl (sw_true rfl rfl rfl (by decide +kernel)) (pi_list (pv 1)) (blkOk_by (own := [("choice", 3), ("option", 4)]) (N := ["lists", "choices", "options", "choice", "option"]) (sc := defScope s_choices_of) (by decide +kernel)) (by decide) (fun _ _ _ _ _ => (pg_name (i := 3) sc_choices_of.nd rfl (by first | exact .inl rfl | exact .inr rfl))) (fun _ _ _ _ _ => pts_nil) (fun _ _ _ _ _ => (show PI _ _ _ (iTup K _) from pi_tup (pv 2))) (fun _ _ _ _ _ => (pg_name (i := 4) sc_choices_of.nd rfl (by first | exact .inl rfl | exact .inr rfl))) (fun _ _ _ _ _ => pts_nil) (fun _ _ _ _ _ => (pe_op (show OpR _ _ (rCatA K) from op_catA) (pv 3) (pe_tup (pa_cons (pv 4) pa_nil))))))) (pss_one (ps_ret (pe_callTy call_tuple_of (by rfl) T.m_tuple (by decide +kernel) (pa_cons (pv 1) pa_nil)))))), ?_⟩
    refine ⟨Nat.zero_le _, fun t0 n0 => ⟨sl1, fun c0 nc0 => ?_⟩⟩
    refine ⟨.ref la, rfl, la, rfl, ⟨_, SqL.of (same_upd nc0 _ _ (same_upd n0 _ _ hla))⟩, for_list (K := K) (a := la) (xs := xs) (fun i σ H' => ∃ ca y2, σ = [some (.ref la), some (.ref ca), y2, none, none] ∧ Same H H' ∧ Tk H' (.ref ca) (.list ((chs (os.take i)).map PyData.tuple)))
      ⟨c0, none, rfl, (same_upd n0).trans (same_upd nc0), .lst upd_same (.cons (.tup (same_upd nc0 _ _ upd_same) .nil) .nil)⟩ (fun i σ H' _ ⟨_, _, _, z, _⟩ => SqL.of (z _ _ hla)) ?_ ?_⟩
    · rintro i x σ H1 hx ⟨ca, y2, rfl, s1, tc⟩
      obtain ⟨dx, hdx, tx⟩ := tk.get hx
      obtain ⟨op, hop, rfl⟩ : ∃ op, os[i]? = some op ∧ dx = .tuple op := by
        rw [List.getElem?_map] at hdx
        cases hz : os[i]? with
        | none => rw [hz] at hdx; cases hdx
        | some op => rw [hz] at hdx; exact ⟨op, rfl, (Option.some.inj hdx).symm⟩
      obtain ⟨oa, ys, rfl, hoa, ty⟩ := tx.tup_inv
      obtain ⟨ca', cs, e, hca, tcs⟩ := tc.lst_inv
      cases e
      have hi : i < os.length := (List.getElem?_eq_some_iff.mp hop).1
      have o8' := o8 op (List.mem_of_getElem? hop)
      have ytake : chs (os.take (i + 1)) = stepC (chs (os.take i)) op := by
        rw [List.take_add_one, hop]
        exact chs_snoc _ _
      have bigN := big (i + 1) hi
      rw [ytake] at bigN
      refine ⟨.ref ca, rfl, ca, rfl, ⟨_, SqL.of hca⟩, fun D nD => ?_⟩
      have lcs : cs.length = (chs (os.take i)).length := by rw [tcs.length, List.length_map]
      -- both walks
      refine ⟨fun k m H' => m = cs.length - k ∧ k ≤ cs.length ∧ Same H1 (hd1 D H') ∧ ∃ acc, H' D = some (.lst acc) ∧ TkAll (hd1 D H') acc ((stepC ((chs (os.take i)).take k) op).map PyData.tuple), ⟨_, rfl, Nat.zero_le _, hd1_of (same_upd nD) nD, [], upd_same, .nil⟩, ?_⟩
      rintro k m H2 ⟨rfl, hk, s2, acc, hD, ta⟩
      have hca2 := hd1_le _ _ (s2 _ _ hca)
      by_cases hlt : k < cs.length
      · obtain ⟨c, hc⟩ : ∃ c, (chs (os.take i))[k]? = some c := ⟨_, List.getElem?_eq_getElem (by omega)⟩
        have htk : (chs (os.take i)).take (k + 1) = (chs (os.take i)).take k ++ [c] := by
          rw [List.take_add_one, hc]
          rfl
        refine .inr ⟨⟨cs, cs[k], SqL.of hca2, List.getElem?_eq_getElem hlt⟩, fun H' => Same H1 (hd1 D H') ∧ ∃ acc, H' D = some (.lst acc) ∧ TkAll (hd1 D H') acc ((stepC ((chs (os.take i)).take (k + 1)) op).map PyData.tuple), fun σ' ⟨z1, z2⟩ => ⟨cs.length - (k + 1), by omega, rfl, by omega, z1, z2⟩, fun x H' hy => ?_⟩
        obtain ⟨rfl, hy⟩ := hy
        have hx2 : cs[k]? = some x := hy cs (SqL.of hca2)
        obtain ⟨dc, hdc, tx2⟩ := tcs.get hx2
        obtain rfl : dc = .tuple c := by
          rw [List.getElem?_map, hc] at hdc
          exact (Option.some.inj hdc).symm
        obtain ⟨xa, zs, rfl, hxa, tz⟩ := tx2.tup_inv
        refine ⟨rfl, ?_⟩
        have hoa2 := hd1_le _ _ (s2 _ _ (s1 _ _ hoa))
        refine ⟨.ref oa, rfl, oa, rfl, ⟨_, SqT.of hoa2⟩, ?_⟩
        refine ⟨fun j n H' => n = ys.length - j ∧ j ≤ ys.length ∧ Same H1 (hd1 D H') ∧ ∃ acc, H' D = some (.lst acc) ∧ TkAll (hd1 D H') acc ((stepC ((chs (os.take i)).take k) op ++ (op.take j).map fun o => c ++ [o]).map PyData.tuple), ⟨_, rfl, Nat.zero_le _, s2, acc, hD, by rw [List.take_zero, List.map_nil, List.append_nil]; exact ta⟩, ?_⟩
        rintro j n H3 ⟨rfl, hj, s3, acc3, hD3, ta3⟩
        have hoa3 := hd1_le _ _ (s3 _ _ (s1 _ _ hoa))
        have lys : ys.length = op.length := ty.length
        by_cases hjl : j < ys.length
        · obtain ⟨ov, hov⟩ : ∃ ov, op[j]? = some ov := ⟨_, List.getElem?_eq_getElem (by omega)⟩
          refine .inr ⟨⟨ys, ys[j], SqT.of hoa3, List.getElem?_eq_getElem hjl⟩, fun H' => Same H1 (hd1 D H') ∧ ∃ acc, H' D = some (.lst acc) ∧ TkAll (hd1 D H') acc ((stepC ((chs (os.take i)).take k) op ++ (op.take (j + 1)).map fun o => c ++ [o]).map PyData.tuple), fun σ' ⟨z1, z2⟩ => ⟨ys.length - (j + 1), by omega, rfl, by omega, z1, z2⟩, fun y Hn hy => ?_⟩
          obtain ⟨rfl, hy⟩ := hy
          have hy2 : ys[j]? = some y := hy ys (SqT.of hoa3)
          obtain ⟨dy, hdy, ty2⟩ := ty.get hy2
          cases Option.some.inj (hdy.symm.trans hov)
          refine ⟨rfl, ?_⟩
          -- choice + (option,)
          have hxa3 := hd1_le _ _ (s3 _ _ hxa)
          refine ⟨.ref xa, rfl, y, rfl, sl1, fun t nt => ?_⟩
          have st := same_upd (o := .tup [y]) nt
          have ntD : t ≠ D := (ne_of_none hD3 nt).symm
          have sD := hd1_same (p := D) st
          have ty3 : Tk (hd1 D Hn) y ov := ty2.same (s1.trans s3)
          have tz3 : TkAll (hd1 D Hn) zs c := tz.same s3
          have lacc : acc3.length < sizeLine := by
            have h1 := ta3.length
            rw [List.length_map, List.length_append, stepC_len, List.length_map, List.length_take, List.length_take] at h1
            have h2 : min k (chs (os.take i)).length * op.length ≤ 512 * 8 := Nat.mul_le_mul (by have := big i (by omega); omega) o8'
            have : sizeLine = 16777216 := by decide
            omega
          have done : ∀ (H4 : Hp) (p : Addr), Same (hd1 D Hn) (hd1 D H4) → H4 D = some (.lst acc3) → p ≠ D → H4 p = some (.tup (zs ++ [y])) → TkAll (hd1 D H4) zs c → Tk (hd1 D H4) y ov → ∃ acc, H4 D = some (.lst acc) ∧ acc.length < sizeLine ∧ Same H1 (hd1 D (upd H4 D (.lst (acc ++ [.ref p])))) ∧ ∃ acc', (upd H4 D (.lst (acc ++ [.ref p]))) D = some (.lst acc') ∧ TkAll (hd1 D (upd H4 D (.lst (acc ++ [.ref p])))) acc' ((stepC ((chs (os.take i)).take k) op ++ (op.take (j + 1)).map fun o => c ++ [o]).map PyData.tuple) := fun H4 p s4 h4 np hp tzz tyy => by
            refine ⟨acc3, h4, lacc, (s3.trans s4).trans hd1_upd, acc3 ++ [.ref p], upd_same, ?_⟩
            rw [List.take_add_one, hov]
            show TkAll _ _ ((_ ++ (op.take j ++ [ov]).map _).map _)
            rw [List.map_append (l₁ := op.take j), ← List.append_assoc, List.map_append]
            refine ((ta3.same s4).same hd1_upd).append (.cons (.tup (xs := zs ++ [y]) ?_ ((tzz.same hd1_upd).append (.cons (tyy.same hd1_upd) .nil))) .nil)
            rw [hd1_at np, upd_ne np]
            exact hp
          have lz : zs.length + 1 ≤ sizeLine := by
            have h1 := (Tk.tup hxa tz)
            have h2 := tz.length
            have h3 : c.length ≤ 8 := by
              have := chs_width (os.take i) c (List.mem_of_getElem? hc)
              have h8 : os.length ≤ 8 := by rcases o3 with o | ⟨o, _⟩ <;> omega
              rw [this, List.length_take]
              omega
            have : sizeLine = 16777216 := by decide
            omega
          refine ⟨xa, t, zs, [y], rfl, rfl, SqT.of (st _ _ hxa3), SqT.of upd_same, lz, fun ez => ?_, (fun _ z => by cases z), fun nz _ p np => ?_⟩
          · subst ez
            exact done _ t sD (st _ _ hD3) ntD upd_same (tz3.same sD) (ty3.same sD)
          · have sp := same_upd (o := .tup (zs ++ [y])) np
            have sDp := hd1_same (p := D) sp
            have npD : p ≠ D := (ne_of_none (st _ _ hD3) np).symm
            exact done _ p (sD.trans sDp) (sp _ _ (st _ _ hD3)) npD upd_same ((tz3.same sD).same sDp) ((ty3.same sD).same sDp)
        · have ej : j = ys.length := by omega
          refine .inl ⟨⟨ys, SqT.of hoa3, by omega⟩, s3, acc3, hD3, ?_⟩
          rw [htk, stepC_snoc]
          rw [ej, lys, List.take_length] at ta3
          exact ta3
      · have ek : k = cs.length := by omega
        refine .inl ⟨⟨cs, SqL.of hca2, by omega⟩, ?_⟩
        refine ⟨D, _, rfl, fun b o e => hd1_le _ _ (s2 _ _ (s1 _ _ e)), ?_⟩
        rw [ytake]
        refine .lst hD ?_
        rw [ek, lcs, List.take_length] at ta
        exact ta.same hd1_le
    · rintro σ H1 ⟨ca, y2, rfl, s1, tc⟩
      have lx : xs.length = os.length := by rw [tk.length, List.length_map]
      rw [lx, List.take_length] at tc
      obtain ⟨ca', cs, e, hca, tcs⟩ := tc.lst_inv
      cases e
      refine ⟨.ref ca, rfl, ca, cs, rfl, .inl ⟨SqL.of hca, fun r nr => ?_⟩⟩
      exact q r _ (s1.trans (same_upd nr)) (.tup upd_same (tcs.same (same_upd nr)))

def rowsI (m : Nat) : List (List Int) := chs (List.replicate m [0, 1])
theorem rep_ref (x : V) : ∀ k : Nat, (List.replicate k [x]).flatten = List.replicate k x
  | 0 => rfl
  | k + 1 => by rw [List.replicate_succ, List.flatten_cons, rep_ref x k]; rfl
theorem TkAll.rep {H : Hp} {v : V} {d : PyData} (h : Tk H v d) : ∀ k : Nat, TkAll H (List.replicate k v) (List.replicate k d)
  | 0 => .nil
  | k + 1 => .cons h (TkAll.rep h k)
theorem rows_data (m : Nat) : (chs (List.replicate m [PyData.int 0, PyData.int 1])).map PyData.tuple = (rowsI m).map rowD := by
  have e : List.replicate m [PyData.int 0, PyData.int 1] = (List.replicate m [(0 : Int), 1]).map (List.map PyData.int) := by rw [List.map_replicate]; rfl
  rw [e, chs_map PyData.int _ _ rfl, List.map_map]
  rfl
def sp_rows_of (K : PySem.W.Frag) : Sp := fun vs H Q _ => ∃ m : Nat, vs = [.int m] ∧ 1 ≤ m ∧ m ≤ 6 ∧ ∀ r H', Same H H' → Tk H' (.ref r) (.tuple ((rowsI m).map rowD)) → Q (.ref r) H'
theorem ok_rows_of (T : Tx K mg) : FnOk P w K mg base CX0 2 T.f_rows_of T.fd_rows_of ["many"] (sp_rows_of K) := by
  refine T.F_rows_of.ok sc_rows_of (fun vs H Q E h => ?_) (fun cdv A outer s H vs Q E hr h => ?_)
  · obtain ⟨m, rfl, _⟩ := h
    rfl
  · obtain ⟨m, rfl, m1, m6, q⟩ := h
    refine ⟨_, (pss_one (ps_ret (pe_call (ok_choices_of T) (hr.mono (by decide)) (by rfl) T.g_choices_of T.F_choices_of.kp T.b_choices_of .nil pass0 (pa_cons (pe_op op_rep (pe_lst (pa_cons (pe_tup (pa_cons pe_int (pa_cons pe_int pa_nil))) pa_nil)) (pv 0)) pa_nil)))), ?_⟩
    refine ⟨sl2, fun t nt => ⟨sl1, fun p np => ?_⟩⟩
    have s1 := same_upd (o := HO.tup [V.int 0, V.int 1]) nt
    have s2 := same_upd (o := HO.lst [V.ref t]) np
    refine ⟨.int m, rfl, p, m, _, rfl, rfl, upd_same, by omega, by omega, ?_, fun l nl => ?_⟩
    · show 1 * (m : Int).toNat ≤ sizeLine
      exact Nat.le_trans (show _ ≤ 8 by omega) (by decide)
    rw [rep_ref, show (m : Int).toNat = m by omega]
    have s3 := same_upd (o := HO.lst (List.replicate m (V.ref t))) nl
    have ht := s3 _ _ (s2 _ _ (show (upd H t (.tup [V.int 0, V.int 1])) t = _ from upd_same))
    refine ⟨l, _, List.replicate m [.int 0, .int 1], rfl, upd_same, ?_, .inr ⟨by rw [List.length_replicate]; omega, fun o ho => ?_⟩, fun o ho => ?_, fun r H' s4 tr => ?_⟩
    · rw [List.map_replicate]
      exact TkAll.rep (.tup ht (.cons (.int 0) (.cons (.int 1) .nil))) m
    · rw [(List.mem_replicate.mp ho).2]
      exact Nat.le_refl _
    · rw [(List.mem_replicate.mp ho).2]
      decide
    · rw [rows_data] at tr
      exact q r H' (((s1.trans s2).trans s3).trans s4) tr
/-! ### counted up -/
def incr : List Int → List Int
  | [] => []
  | x :: r => if r.all (fun y => decide (y = 1)) = true then 1 :: r.map (fun _ => 0) else x :: incr r
theorem rows_step : ((List.range 7).all fun m => (List.range (2 ^ m - 1)).all fun i => decide ((rowsI m)[i + 1]? = ((rowsI m)[i]?).map incr) && ((rowsI m)[i]?).any (fun r => decide ((0 : Int) ∈ r))) = true := by decide +kernel
theorem rows_ends : ((List.range 7).all fun m => decide ((rowsI m).length = 2 ^ m) && (decide ((rowsI m)[0]? = some (List.replicate m 0)) && decide ((rowsI m)[2 ^ m - 1]? = some (List.replicate m 1)))) = true := by decide +kernel
theorem rows_len {m i : Nat} {r : List Int} (h : (rowsI m)[i]? = some r) : r.length = m := by
  have := chs_width (List.replicate m [(0 : Int), 1]) r (List.mem_of_getElem? h)
  rw [List.length_replicate] at this
  exact this

end
end Gk

set_option Elab.async false
set_option linter.all false
set_option maxRecDepth 100000
set_option maxHeartbeats 1000000
set_option pp.maxSteps 1500
set_option pp.deepTerms false
namespace Gk
open PySem PySem.Spec PyProof.Rows L2
section
variable {P : Program} {w : World} {K : PySem.W.Frag} {mg : Str → Option Value} {base : Heap}
/-! ### products: the program's own -/
theorem joinOk_ones (cs : List Nat) (h : cs.length ≤ 64) : JoinOk (Str.ofString "") (cs.map one) = true := by
  have key : ∀ (cs : List Nat) (n : Nat), (cs.map one).foldl (fun a t => a + t.length + (Str.ofString "").length) n = n + cs.length := by
    intro cs
    induction cs with
    | nil => intro n; rfl
    | cons c r ih =>
      intro n
      rw [List.map_cons, List.foldl_cons, ih, List.length_cons]
      show n + 1 + 0 + r.length = n + (r.length + 1)
      omega
  unfold JoinOk
  rw [List.foldl_toArray', key]
  · unfold Builtin.Str.tooLong
    rw [decide_eq_false (show ¬ (0 + cs.length > sizeLine) by rw [sizeLine_eq]; omega)]
    rfl
  · simp
def sp_show_row (T : Tx K mg) : Sp := fun vs H Q _ => ∃ (a : Addr) (r : List Int), vs = [.ref a] ∧ H a = some (.tup (r.map V.int)) ∧ Row01' r ∧ r.length ≤ 6 ∧ Tabs H T.tabs ∧ ∀ H', Gr H H' → Q (.str (SX.S (rowS r))) H'
theorem ok_show_row (T : Tx K mg) (B : Tb base T) : FnOk P w K mg base CX0 2 T.f_show_row T.fd_show_row ["row"] (sp_show_row T) := by
  refine okC T.F_show_row sc_show_row (fun vs H Q E h => ?_) (fun A outer s H vs Q E hr h => ?_)
  · obtain ⟨a, r, rfl, _⟩ := h
    rfl
  · obtain ⟨a, r, rfl, ha, ok, l6, tabs, q⟩ := h
    refine ⟨_, (pss_one (ps_ret (GxJ.pe_joinX (own := [("worth", 1)]) (k := 0) (hr.mono (by decide)) rfl sc_show_row.nd pe_str B.TB_show_row T.cd_show_row rfl rfl (by decide +kernel) (blkOk_by (own := [("worth", 1)]) (N := ["row", "worth"]) (sc := defScope s_show_row) (by decide +kernel)) (pi_tup (pv 0)) (fun _ _ _ _ _ _ _ hr gd => (pg_name (i := 1) sc_show_row.nd rfl (by first | exact .inl rfl | exact .inr rfl))) (fun _ _ _ _ _ _ _ hr gd => pts_nil) (fun _ _ _ _ _ _ _ hr gd => (pe_callTy call_str_int (by rfl) T.m_str (by decide +kernel) (pa_cons (pv 1) pa_nil))) (fun _ => rfl)))), ?_⟩
    have tab : GxR.TabG H T.P_show_row := tabs _ (by simp [Tx.tabs])
    refine ⟨_, rfl, .ref a, rfl, a, rfl, ⟨_, SqT.of ha⟩, tab, fun H2 tb2 => ?_⟩
    have g2 := Gr.tab tab tb2
    refine gx_tup (K := K) (a := a) (xs := r.map V.int) (fun j ys H' => H' = H2 ∧ ys = ((rowS (r.take j)).map one).map V.str) ⟨rfl, rfl⟩ (fun j ys H' _ ⟨e, _⟩ => by rw [e]; exact SqT.of (g2.tup ha)) ?_ ?_
    · rintro j x ys H' hx ⟨rfl, rfl⟩
      obtain ⟨b, hb, rfl⟩ : ∃ b, r[j]? = some b ∧ x = V.int b := by
        rw [List.getElem?_map] at hx
        cases hz : r[j]? with
        | none => rw [hz] at hx; cases hx
        | some u => rw [hz] at hx; exact ⟨u, rfl, (Option.some.inj hx).symm⟩
      have hb01 := ok b (List.mem_of_getElem? hb)
      refine ⟨rfl, .int b, rfl, b, rfl, by rcases hb01 with rfl | rfl <;> decide, ?_⟩
      rw [str01 hb01]
      refine ⟨?_, rfl, ?_⟩
      · unfold rowS
        rw [List.length_map, List.length_map, List.length_map, List.length_take]
        exact Nat.lt_of_lt_of_le (show _ < 64 by omega) (by decide)
      · unfold rowS
        rw [List.take_add_one, hb]
        simp
    · rintro ys H' ⟨rfl, rfl⟩
      rw [List.length_map, List.take_length]
      refine ⟨(rowS r).map one, rfl, joinOk_ones _ (by unfold rowS; rw [List.length_map]; omega), ?_⟩
      rw [join_one]
      exact q _ g2
theorem at_tx {H : Hp} (p : List Nat) : (ZpG.ZS.tx (SX.S p)).at K H (p.map fun c => V.str (one c)) := (S_list p).symm
def sp_holds_all (T : Tx K mg) : Sp := fun vs H Q _ => ∃ (p q' : List Nat), vs = [.str (SX.S p), .str (SX.S q')] ∧ p.length = q'.length ∧ Tabs H T.tabs ∧ ∀ H', Gr H H' → Q (.bl (hall p q')) H'
theorem ok_holds_all (T : Tx K mg) (B : Tb base T) : FnOk P w K mg base CX0 2 T.f_holds_all T.fd_holds_all ["product", "other"] (sp_holds_all T) := by
  refine okC T.F_holds_all sc_holds_all (fun vs H Q E h => ?_) (fun A outer s H vs Q E hr h => ?_)
  · obtain ⟨p, q', rfl, _⟩ := h
    rfl
  · obtain ⟨p, q', rfl, hl, tabs, q⟩ := h
    refine ⟨_, (pss_one (ps_ret (pe_allX (own := [("sign", 2), ("held", 3)]) (k := 0) (hr.mono (by decide)) rfl sc_holds_all.nd (by rfl) T.m_all (by decide +kernel) B.TB_holds_all T.cd_holds_all rfl rfl (by decide +kernel) (blkOk_by (own := [("sign", 2), ("held", 3)]) (N := ["product", "other", "sign", "held"]) (sc := defScope s_holds_all) (by decide +kernel)) (ZpG.pi_zip2 (by rfl) T.m_zip (pa_cons (pv 0) (pa_cons (pv 1) pa_nil))) (fun _ _ _ _ _ _ _ hr gd => (show PG _ _ (gTup K 2 _) from pg_tup rfl (pgs_cons (pg_name (i := 2) sc_holds_all.nd rfl (by first | exact .inl rfl | exact .inr rfl)) (pgs_cons (pg_name (i := 3) sc_holds_all.nd rfl (by first | exact .inl rfl | exact .inr rfl)) pgs_nil)))) (fun _ _ _ _ _ _ _ hr gd => pts_nil) (fun _ _ _ _ _ _ _ hr gd => (pe_cmpR (show OpR _ _ (rIn K false) from op_in_seq) (pv 2) (pe_tup (pa_cons pe_str (pa_cons (pv 3) pa_nil))) rfl)) (fun _ => rfl)))), ?_⟩
    have tab : GxR.TabG H T.P_holds_all := tabs _ (by simp [Tx.tabs])
    refine ⟨.str (SX.S p), rfl, .str (SX.S q'), rfl, .tx (SX.S p), .tx (SX.S q'), _, _, rfl, at_tx p, at_tx q', tab, fun H2 tb2 => ?_⟩
    have g2 := Gr.tab tab tb2
    refine ZpG.gx_zip2 (K := K) (n := p.length) (xs1 := p.map fun c => V.str (one c)) (xs2 := q'.map fun c => V.str (one c)) (by rw [List.length_map]) (by rw [List.length_map, hl]) (fun j _ H' => Gr H H' ∧ ((p.zip q').take j).all (fun z => decide (z.1 = 45) || decide (z.1 = z.2)) = true) ⟨g2, rfl⟩ (fun j _ H' _ _ => ⟨at_tx p, at_tx q'⟩) ?_ ?_
    · rintro j x y t _ H' hx hy nt ⟨g, ih⟩
      obtain ⟨a, ha, rfl⟩ := one_at hx
      obtain ⟨b, hb, rfl⟩ := one_at hy
      have g' := g.trans (Gr.none (o := .tup [V.str (one a), V.str (one b)]) nt)
      have ez := zip_take_succ ha hb
      refine ⟨t, _, rfl, SqT.of upd_same, rfl, _, _, rfl, _, _, rfl, rfl, rfl, ?_⟩
      refine ⟨.str (one a), rfl, .str (one b), rfl, sl2, fun u nu => ?_⟩
      have g'' := g'.trans (Gr.none (o := .tup [V.str (Str.ofString "-"), V.str (one b)]) nu)
      refine ⟨u, _, rfl, .inr (SqT.of upd_same), rfl, rfl, ?_⟩
      have ev : (if false = true then !inV (.str (one a)) [V.str (Str.ofString "-"), V.str (one b)] else inV (.str (one a)) [V.str (Str.ofString "-"), V.str (one b)]) = (decide (a = 45) || decide (a = b)) := by
        show (eqV (.str (Str.ofString "-")) (.str (one a)) || (eqV (.str (one b)) (.str (one a)) || false)) = _
        rw [dash_S, eqV_one, eqV_one, Bool.or_false]
        congr 1
        · exact decide_eq_decide.mpr ⟨Eq.symm, Eq.symm⟩
        · exact decide_eq_decide.mpr ⟨Eq.symm, Eq.symm⟩
      refine ⟨_, rfl, ?_⟩
      rw [ev]
      refine ite2 (fun e => ⟨g'', ?_⟩) (fun e => ?_)
      · rw [ez, List.all_append, ih]
        simpa using e
      · have : hall p q' = false := all_stop (f := fun z : Nat × Nat => decide (z.1 = 45) || decide (z.1 = z.2)) ez (Bool.eq_false_iff.mpr e)
        have z := q _ g''
        rw [this] at z
        exact z
    · rintro _ H' ⟨g, ih⟩
      have : (p.zip q').length ≤ p.length := by rw [List.length_zip]; omega
      rw [List.take_of_length_le this] at ih
      have z := q H' g
      unfold hall at z
      rw [ih] at z
      exact z
def sp_meet (T : Tx K mg) : Sp := fun vs H Q _ => ∃ (p q' : List Nat), vs = [.str (SX.S p), .str (SX.S q')] ∧ p.length = q'.length ∧ Tabs H T.tabs ∧ ∀ H', Gr H H' → Q (.bl (meetM p q')) H'
theorem ok_meet (T : Tx K mg) (B : Tb base T) : FnOk P w K mg base CX0 2 T.f_meet T.fd_meet ["product", "other"] (sp_meet T) := by
  refine okC T.F_meet sc_meet (fun vs H Q E h => ?_) (fun A outer s H vs Q E hr h => ?_)
  · obtain ⟨p, q', rfl, _⟩ := h
    rfl
  · obtain ⟨p, q', rfl, hl, tabs, q⟩ := h
    refine ⟨_, (pss_one (ps_ret (pe_allX (own := [("one", 2), ("two", 3)]) (k := 0) (hr.mono (by decide)) rfl sc_meet.nd (by rfl) T.m_all (by decide +kernel) B.TB_meet T.cd_meet rfl rfl (by decide +kernel) (blkOk_by (own := [("one", 2), ("two", 3)]) (N := ["product", "other", "one", "two"]) (sc := defScope s_meet) (by decide +kernel)) (ZpG.pi_zip2 (by rfl) T.m_zip (pa_cons (pv 0) (pa_cons (pv 1) pa_nil))) (fun _ _ _ _ _ _ _ hr gd => (show PG _ _ (gTup K 2 _) from pg_tup rfl (pgs_cons (pg_name (i := 2) sc_meet.nd rfl (by first | exact .inl rfl | exact .inr rfl)) (pgs_cons (pg_name (i := 3) sc_meet.nd rfl (by first | exact .inl rfl | exact .inr rfl)) pgs_nil)))) (fun _ _ _ _ _ _ _ hr gd => pts_nil) (fun _ _ _ _ _ _ _ hr gd => (pe_or (pe_cmpR (show OpR _ _ (rIn K false) from op_in_seq) pe_str (pe_tup (pa_cons (pv 2) (pa_cons (pv 3) pa_nil))) rfl) (pe_one (pe_cmpR op_eq (pv 2) (pv 3) (nomark _))))) (fun _ => rfl)))), ?_⟩
    have tab : GxR.TabG H T.P_meet := tabs _ (by simp [Tx.tabs])
    refine ⟨.str (SX.S p), rfl, .str (SX.S q'), rfl, .tx (SX.S p), .tx (SX.S q'), _, _, rfl, at_tx p, at_tx q', tab, fun H2 tb2 => ?_⟩
    have g2 := Gr.tab tab tb2
    refine ZpG.gx_zip2 (K := K) (n := p.length) (xs1 := p.map fun c => V.str (one c)) (xs2 := q'.map fun c => V.str (one c)) (by rw [List.length_map]) (by rw [List.length_map, hl]) (fun j _ H' => Gr H H' ∧ ((p.zip q').take j).all (fun z => decide (z.1 = 45) || decide (z.2 = 45) || decide (z.1 = z.2)) = true) ⟨g2, rfl⟩ (fun j _ H' _ _ => ⟨at_tx p, at_tx q'⟩) ?_ ?_
    · rintro j x y t _ H' hx hy nt ⟨g, ih⟩
      obtain ⟨a, ha, rfl⟩ := one_at hx
      obtain ⟨b, hb, rfl⟩ := one_at hy
      have g' := g.trans (Gr.none (o := .tup [V.str (one a), V.str (one b)]) nt)
      have ez := zip_take_succ ha hb
      refine ⟨t, _, rfl, SqT.of upd_same, rfl, _, _, rfl, _, _, rfl, rfl, rfl, ?_⟩
      refine ⟨.str (one a), rfl, .str (one b), rfl, sl2, fun u nu => ?_⟩
      have g'' := g'.trans (Gr.none (o := .tup [V.str (one a), V.str (one b)]) nu)
      have fin : ∀ c : Bool, c = (decide (a = 45) || decide (b = 45) || decide (a = b)) → ∃ b_1, V.bl c = V.bl b_1 ∧ if b_1 = true then Gr H (upd (upd H' t (.tup [V.str (one a), V.str (one b)])) u (.tup [V.str (one a), V.str (one b)])) ∧ ((p.zip q').take (j + 1)).all (fun z => decide (z.1 = 45) || decide (z.2 = 45) || decide (z.1 = z.2)) = true else Q (.bl false) (upd (upd H' t (.tup [V.str (one a), V.str (one b)])) u (.tup [V.str (one a), V.str (one b)])) := fun c hc => by
        refine ⟨c, rfl, ?_⟩
        refine ite2 (fun e => ⟨g'', ?_⟩) (fun e => ?_)
        · rw [ez, List.all_append, ih]
          rw [hc] at e
          simpa using e
        · rw [hc] at e
          have : meetM p q' = false := all_stop (f := fun z : Nat × Nat => decide (z.1 = 45) || decide (z.2 = 45) || decide (z.1 = z.2)) ez (Bool.eq_false_iff.mpr e)
          have z := q _ g''
          rw [this] at z
          exact z
      have ev : (if false = true then !inV (.str (Str.ofString "-")) [V.str (one a), V.str (one b)] else inV (.str (Str.ofString "-")) [V.str (one a), V.str (one b)]) = (decide (a = 45) || decide (b = 45)) := by
        show (eqV (.str (one a)) (.str (Str.ofString "-")) || (eqV (.str (one b)) (.str (Str.ofString "-")) || false)) = _
        rw [dash_S, eqV_one, eqV_one, Bool.or_false]
      refine ⟨u, _, rfl, .inr (SqT.of upd_same), rfl, rfl, _, rfl, ?_⟩
      rw [ev]
      refine ite2 (fun e => ?_) (fun e => ?_)
      · refine fin _ ?_
        rw [e]
        rfl
      · refine ⟨.str (one a), rfl, .str (one b), rfl, rfl, fin _ ?_⟩
        rw [Bool.eq_false_iff.mpr e, Bool.false_or, str_dec]
        exact one_inj
    · rintro _ H' ⟨g, ih⟩
      have : (p.zip q').length ≤ p.length := by rw [List.length_zip]; omega
      rw [List.take_of_length_le this] at ih
      have z := q H' g
      unfold meetM at z
      rw [ih] at z
      exact z

def sp_holds_row (T : Tx K mg) : Sp := fun vs H Q _ => ∃ (p : List Nat) (a : Addr) (r : List Int), vs = [.str (SX.S p), .ref a] ∧ H a = some (.tup (r.map V.int)) ∧ Row01' r ∧ p.length = r.length ∧ r.length ≤ 6 ∧ Tabs H T.tabs ∧ ∀ H', Gr H H' → Q (.bl (hrow p r)) H'
theorem ok_holds_row (T : Tx K mg) (B : Tb base T) : FnOk P w K mg base CX0 3 T.f_holds_row T.fd_holds_row ["product", "row"] (sp_holds_row T) := by
  refine T.F_holds_row.ok sc_holds_row (fun vs H Q E h => ?_) (fun cdv A outer s H vs Q E hr h => ?_)
  · obtain ⟨p, a, r, rfl, _⟩ := h
    rfl
  · obtain ⟨p, a, r, rfl, ha, ok, hl, l6, tabs, q⟩ := h
    refine ⟨_, (pss_one (ps_ret (pe_call (ok_holds_all T B) (hr.mono (by decide)) (by rfl) T.g_holds_all T.F_holds_all.kp T.b_holds_all .nil pass0 (pa_cons (pv 0) (pa_cons (pe_call (ok_show_row T B) (hr.mono (by decide)) (by rfl) T.g_show_row T.F_show_row.kp T.b_show_row .nil pass0 (pa_cons (pv 1) pa_nil)) pa_nil))))), ?_⟩
    refine ⟨.str (SX.S p), rfl, .ref a, rfl, a, r, rfl, ha, ok, l6, tabs, fun H1 g1 => ?_⟩
    exact ⟨p, rowS r, rfl, by unfold rowS; rw [List.length_map]; exact hl, g1.tabs tabs, fun H2 g2 => q H2 (g1.trans g2)⟩
def sp_cube_of (T : Tx K mg) : Sp := fun vs H Q _ => ∃ (c : Addr) (m : Nat) (a b : List Int), vs = [.ref c] ∧ ChAt H c a b ∧ ChOk m a b ∧ Tabs H T.tabs ∧ ∀ H', Gr H H' → Q (.str (SX.S (cubeM a b))) H'
theorem int_at {r : List Int} {i : Nat} {x : V} (h : (r.map V.int)[i]? = some x) : ∃ b, r[i]? = some b ∧ x = V.int b := by
  rw [List.getElem?_map] at h
  cases hz : r[i]? with
  | none => rw [hz] at h; cases h
  | some u => rw [hz] at h; exact ⟨u, rfl, (Option.some.inj h).symm⟩
theorem int_dec (x y : Int) : decide (V.int x = V.int y) = decide (x = y) := by
  by_cases z : x = y
  · rw [decide_eq_true z, decide_eq_true (by rw [z])]
  · rw [decide_eq_false z, decide_eq_false (fun k => z (V.int.inj k))]
theorem ok_cube_of (T : Tx K mg) (B : Tb base T) : FnOk P w K mg base CX0 2 T.f_cube_of T.fd_cube_of ["change"] (sp_cube_of T) := by
  refine okC T.F_cube_of sc_cube_of (fun vs H Q E h => ?_) (fun A outer s H vs Q E hr h => ?_)
  · obtain ⟨c, m, a, b, rfl, _⟩ := h
    rfl
  · obtain ⟨c, m, a, b, rfl, ⟨ra, rb, hc, ha, hb⟩, ok, tabs, q⟩ := h
    refine ⟨_, (pss_cons (ps_asg (pv 0) (pg_tup rfl (pgs_cons (pg_name (i := 1) sc_cube_of.nd rfl (by first | exact .inl rfl | exact .inr rfl)) (pgs_cons (pg_name (i := 2) sc_cube_of.nd rfl (by first | exact .inl rfl | exact .inr rfl)) pgs_nil)))) (pss_one (ps_ret (GxJ.pe_joinX (own := [("before", 3), ("after", 4)]) (k := 0) (hr.mono (by decide)) rfl sc_cube_of.nd pe_str B.TB_cube_of T.cd_cube_of rfl rfl (by decide +kernel) (blkOk_by (own := [("before", 3), ("after", 4)]) (N := ["change", "a", "b", "before", "after"]) (sc := defScope s_cube_of) (by decide +kernel)) (ZpG.pi_zip2 (by rfl) T.m_zip (pa_cons (pv 1) (pa_cons (pv 2) pa_nil))) (fun _ _ _ _ _ _ _ hr gd => (show PG _ _ (gTup K 2 _) from pg_tup rfl (pgs_cons (pg_name (i := 3) sc_cube_of.nd rfl (by first | exact .inl rfl | exact .inr rfl)) (pgs_cons (pg_name (i := 4) sc_cube_of.nd rfl (by first | exact .inl rfl | exact .inr rfl)) pgs_nil)))) (fun _ _ _ _ _ _ _ hr gd => pts_nil) (fun _ _ _ _ _ _ _ hr gd => (pe_ifExp (pt_cmpR op_eq (pv 3) (pv 4) (nomark _)) (pe_callTy call_str_int (by rfl) T.m_str (by decide +kernel) (pa_cons (pv 3) pa_nil)) pe_str)) (fun _ => rfl))))), ?_⟩
    have tab : GxR.TabG H T.P_cube_of := tabs _ (by simp [Tx.tabs])
    refine ⟨.ref c, rfl, c, _, rfl, SqT.of hc, rfl, _, _, rfl, _, _, rfl, rfl, ?_⟩
    refine ⟨_, rfl, .ref ra, rfl, .ref rb, rfl, .tu ra, .tu rb, _, _, rfl, SqT.of ha, SqT.of hb, tab, fun H2 tb2 => ?_⟩
    have g2 := Gr.tab tab tb2
    have la := ok.la
    have lb := ok.lb
    have m6 := ok.m6
    refine ZpG.gx_zip2 (K := K) (n := m) (xs1 := a.map V.int) (xs2 := b.map V.int) (by rw [List.length_map, la]) (by rw [List.length_map, lb]) (fun j ys H' => Gr H H' ∧ ys = ((((a.zip b).take j).map fun z => if z.1 = z.2 then wS z.1 else 45).map one).map V.str) ⟨g2, rfl⟩ (fun j _ H' _ z => ⟨SqT.of (z.1.tup ha), SqT.of (z.1.tup hb)⟩) ?_ ?_
    · rintro j x y t ys H' hx hy nt ⟨g, rfl⟩
      obtain ⟨u, hu, rfl⟩ := int_at hx
      obtain ⟨v, hv, rfl⟩ := int_at hy
      have u01 := ok.oa u (List.mem_of_getElem? hu)
      have g' := g.trans (Gr.none (o := .tup [V.int u, V.int v]) nt)
      have ez := zip_take_succ hu hv
      have ll : ((((((a.zip b).take j).map fun z => if z.1 = z.2 then wS z.1 else 45).map one).map V.str)).length < sizeLine := by
        rw [List.length_map, List.length_map, List.length_map, List.length_take, List.length_zip]
        exact Nat.lt_of_lt_of_le (show _ < 64 by omega) (by decide)
      refine ⟨t, _, rfl, SqT.of upd_same, rfl, _, _, rfl, _, _, rfl, rfl, rfl, ?_⟩
      refine ⟨.int u, rfl, .int v, rfl, rfl, _, rfl, ?_⟩
      rw [int_dec]
      refine ite2 (fun e => ?_) (fun e => ?_)
      · have e : u = v := of_decide_eq_true e
        refine ⟨.int u, rfl, u, rfl, by rcases u01 with rfl | rfl <;> decide, ll, g', ?_⟩
        rw [str01 u01, ez]
        simp [e]
      · have e : ¬ u = v := fun z => e (decide_eq_true z)
        refine ⟨ll, g', ?_⟩
        rw [dash_S, ez]
        simp [e]
    · rintro ys H' ⟨g, rfl⟩
      have : (a.zip b).length ≤ m := by rw [List.length_zip]; omega
      rw [List.take_of_length_le this]
      refine ⟨(cubeM a b).map one, rfl, joinOk_ones _ ?_, ?_⟩
      · unfold cubeM
        rw [List.length_map]
        omega
      · rw [join_one]
        exact q _ g
theorem cube_len {m : Nat} {a b : List Int} (ok : ChOk m a b) : (cubeM a b).length = m := by
  unfold cubeM
  rw [List.length_map, List.length_zip, ok.la, ok.lb, Nat.min_self]

/-! ### a table at a row -/
def sp_table_worth (K : PySem.W.Frag) : Sp := fun vs H Q _ => ∃ (bs : List Bool) (la : Addr) (ws : List Int), vs = [.str (tabOf bs), .ref la] ∧ H la = some (.tup (ws.map V.int)) ∧ Row01' ws ∧ bs.length = 2 ^ ws.length ∧ ws.length ≤ 6 ∧ Q (.int (gateM bs ws)) H
theorem ok_table_worth (T : Tx K mg) : FnOk P w K mg base CX0 1 T.f_table_worth T.fd_table_worth ["table", "worths"] (sp_table_worth K) := by
  refine T.F_table_worth.ok sc_table_worth (fun vs H Q E h => ?_) (fun cdv A outer s H vs Q E hr h => ?_)
  · obtain ⟨bs, la, ws, rfl, _⟩ := h
    rfl
  · obtain ⟨bs, la, ws, rfl, hS, hw, hb, h6, q⟩ := h
    obtain ⟨b, p0, p1, p2, p3, p4⟩ := gate_read6 hw hb h6
    refine ⟨_, (pss_cons (ps_set (i := 2) sc_table_worth.nd rfl (by first | exact .inl rfl | exact .inr rfl) pe_int) (pss_cons (ps_for PassesOwn.never rfl (pi_tup (pv 1)) (pg_name (i := 3) sc_table_worth.nd rfl (by first | exact .inl rfl | exact .inr rfl)) (pss_one (ps_set (i := 2) sc_table_worth.nd rfl (by first | exact .inl rfl | exact .inr rfl) (pe_op op_add (pe_op op_mul pe_int (pv 2)) (pv 3))))) (pss_one (ps_ret (pe_callTy call_int_str (by rfl) T.m_int (by decide +kernel) (pa_cons (pe_item_str (pv 0) (pv 2) (fun _ _ => rfl)) pa_nil)))))), ?_⟩
    refine ⟨.ref la, rfl, la, rfl, ⟨_, SqT.of hS⟩, for_tup (K := K) (a := la) (xs := ws.map V.int) (fun i σ H' => ∃ y, σ = [some (.str (tabOf bs)), some (.ref la), some (.int (plc (ws.take i))), y] ∧ H' = H) ⟨none, rfl, rfl⟩ (fun i σ H' _ ⟨_, _, e⟩ => by rw [e]; exact SqT.of hS) ?_ ?_⟩
    · rintro i x σ H' hx ⟨y, rfl, rfl⟩
      obtain ⟨u, hu, rfl⟩ : ∃ u, ws[i]? = some u ∧ x = V.int u := by
        rw [List.getElem?_map] at hx
        cases hz : ws[i]? with
        | none => rw [hz] at hx; cases hx
        | some u => rw [hz] at hx; exact ⟨u, rfl, (Option.some.inj hx).symm⟩
      refine ⟨.int (plc (ws.take i)), rfl, 2, _, rfl, rfl, .inl ⟨by decide, by decide⟩, .int u, rfl, _, _, rfl, rfl, some (.int u), ?_, rfl⟩
      rw [plc_take hu]
      rfl
    · rintro σ H' ⟨y, rfl, rfl⟩
      rw [List.length_map, List.take_length]
      refine ⟨.str (tabOf bs), rfl, .int (plc ws), rfl, _, _, _, rfl, rfl, p0, p1, p2, p3, _, _, rfl, int_sign b, (show 1 ≤ 640 by decide), ?_⟩
      rw [← p4]
      exact q

end
end Gk

set_option Elab.async false
set_option linter.all false
set_option maxRecDepth 100000
set_option maxHeartbeats 1000000
set_option pp.maxSteps 1500
set_option pp.deepTerms false
namespace Gk
open PySem PySem.Spec PyProof.Rows L2
section
variable {P : Program} {w : World} {K : PySem.W.Frag} {mg : Str → Option Value} {base : Heap}
/-! ### enumerate(tuple) -/
theorem draws_tuple {P : Program} {w : World} {A : Around} (hA : A.handled = none) (it a : Addr) (items : Array Value) (hne : a ≠ it) : Draws P w A it [it, a] items.size (fun i v => items[i]? = some v) (fun i h => h.IsTupleIter it a i ∧ h.IsTuple a items) where
  live := fun _ _ st => let ⟨o, ho, _⟩ := st.1; ⟨o, ho⟩
  frame := fun _ _ _ st hk => ⟨st.1.at fun o e => hk it (by simp) o e, by
    obtain ⟨o, ho, r⟩ := st.2
    exact ⟨o, hk a (by simp) o ho, r⟩⟩
  item := fun i s Q E hi st hQ => by
    refine RZ.nextOf_tuple_item st.1 st.2 (x := items[i]) (by simp [hi]) fun h' hit' hs' => ?_
    refine hQ _ h' s.toks (by simp [hi]) ⟨hit', ?_⟩ hs'
    obtain ⟨o, ho, r⟩ := st.2
    exact ⟨o, hs'.extBut a o hne ho, r⟩
  done := fun s Q E st hE => RZ.nextOf_tuple_end hA st.1 st.2 (by simp) hE
open PySem.AutoSeq1 in
set_option maxHeartbeats 1000000 in
theorem meets_enumerate_newT (l : Addr) (items : Array Value) (o : Obj) (hc : o.cls = .type "tuple") (n : Nat) (hd : o.data = .seq items n) :
    Meets (Builtin.«enumerate.__new__» ⟨[.type "enumerate", .ref l], []⟩) (fun _ R s => s.heap.get? l = some o ∧
      R (.ok (.ret (.ref (s.heap.push { cls := .type "tuple_iterator", data := .fields #[.ref l, .int 0 0] }).objs.size)))
        { s with heap := (s.heap.push { cls := .type "tuple_iterator", data := .fields #[.ref l, .int 0 0] }).push { cls := .type "enumerate", data := .fields #[.none, .bool false, .ref s.heap.objs.size, rawInt 0, .none, .none] } }) :=
  .of_wp fun prog w A R s h => by
    obtain ⟨hp, g, d, tk, os⟩ := s; obtain ⟨hl, h⟩ := h
    have hsub := sub_enumerate
    have hL : Heap.IsTuple (Shared.heap ⟨hp, g, d, tk, os⟩) l items := ⟨_, hl, hc, n, hd⟩
    wp_walk using wpAny_loadPart' hl
    refine wpAny_stack_any fun st => wpAny_pure ?_
    split
    · rename_i c _ _ _ _ _
      cases (c == Value.type "enumerate")
      · wp_walk using wpAny_loadPart' hl, wpAny_pyIter_tuple hL
        exact ⟨_, rfl, h⟩
      · wp_walk using wpAny_loadPart' hl, wpAny_pyIter_tuple hL
        exact ⟨_, rfl, h⟩
    · wp_walk using wpAny_loadPart' hl, wpAny_pyIter_tuple hL
      exact ⟨_, rfl, h⟩
theorem call_enumerate_tuple {prog : Program} {w : World} {A : Around} {E : Value → Shared → Prop} {s : Shared} {l : Addr} {items : Array Value} {Q : Value → Shared → Prop} (hL : s.heap.IsTuple l items)
    (h : ∀ h', IsEnum h' (s.heap.objs.size + 1) s.heap.objs.size 0 .none → h'.IsTupleIter s.heap.objs.size l 0 → h'.objs.size = s.heap.objs.size + 2 →
      (∀ b o, s.heap.get? b = some o → h'.get? b = some o) → Q (.ref (s.heap.objs.size + 1)) { s with heap := h' }) :
    wpAny (model prog w) A (call (.type "enumerate") [.ref l]) Q E s := by
  obtain ⟨o, hl, hc, n, hd⟩ := hL
  refine callType_new F.called_enumerate (by decide) (F.typeCall_enumerate_1 _) (F.newCall_enumerate_1 _) (fun obj => F.args_object_init_2 obj _) F.entry_enumerate_new
    (meets_enumerate_newT l items o hc n hd) ⟨hl, ?_⟩
  have hz : (s.heap.push { cls := .type "tuple_iterator", data := .fields #[.ref l, .int 0 0] }).objs.size = s.heap.objs.size + 1 := Heap.size_push ..
  show _ ∧ _
  rw [hz]
  have he : IsEnum ((s.heap.push { cls := .type "tuple_iterator", data := .fields #[.ref l, .int 0 0] }).push
      { cls := .type "enumerate", data := .fields #[.none, .bool false, .ref s.heap.objs.size, rawInt 0, .none, .none] }) (s.heap.objs.size + 1) s.heap.objs.size 0 .none := by
    have := Heap.get?_push_size (s.heap.push { cls := .type "tuple_iterator", data := .fields #[.ref l, .int 0 0] })
      (o := { cls := .type "enumerate", data := .fields #[.none, .bool false, .ref s.heap.objs.size, rawInt 0, .none, .none] }) rfl
    rw [hz] at this; exact this
  refine ⟨⟨_, he, rfl⟩, h _ he ⟨_, Heap.get?_push_of_some _ (Heap.get?_push_size _ rfl), rfl, rfl⟩ (by rw [Heap.size_push, hz]) fun b o x => Heap.get?_push_of_some _ (Heap.get?_push_of_some _ x)⟩
/-- the tuple at a, each item in a new pair -/
def IteT (K : PySem.W.Frag) (a : Addr) : It :=
  ⟨fun i H => ∃ (xs : List V) (x : V), SqT K H a xs ∧ xs[i]? = some x, fun i H v H' => ∃ T x, v = .ref T ∧ H T = none ∧ H' = upd H T (.tup [.int (i : Nat), x]) ∧ ∀ xs, SqT K H a xs → xs[i]? = some x, fun i H => ∃ xs : List V, SqT K H a xs ∧ xs.length = i⟩
theorem turn_enumT {P : Program} {w : World} {K : PySem.W.Frag} {elts : List Expr} {kk : Nat} {tpos : Pos} (a e it : Addr) :
    Turn P w K (.Tuple elts kk tpos) (IteT K a) [e, it] e (fun i h => (∃ old, IsEnum h e it ((i : Nat) : Int) old) ∧ h.IsTupleIter it a i ∧ e ≠ it) where
  mem := by simp
  obj := fun i h st b hb => by
    obtain ⟨⟨old, he⟩, ⟨o, ho, hc, hd⟩, _⟩ := st
    have e' : b = e ∨ b = it := by simpa using hb
    rcases e' with z | z
    · rw [z]; exact ⟨_, he, fun v q => nomatch q⟩
    · rw [z]; exact ⟨o, ho, fun v q => by rw [hd] at q; cases q⟩
  keep := fun i h h' st k => let ⟨⟨old, he⟩, hi, hne⟩ := st; ⟨⟨old, k e (by simp) _ he⟩, hi.at fun o q => k it (by simp) o q, hne⟩
  item := by
    intro X hP hw hK hc i pins s σ H E I hf st hg
    subst hP hw hK
    obtain ⟨⟨old, he⟩, hit, hne⟩ := st
    obtain ⟨xs, x, hq, hx⟩ := hg
    obtain ⟨its, rv, p, hz⟩ := I.tuple hq
    obtain ⟨u, hu, ru⟩ := rv.get hx
    have hel : e < s.heap.objs.size := Heap.lt_size he
    have hil : it < s.heap.objs.size := by obtain ⟨_, q, _⟩ := hit; exact Heap.lt_size q
    have hpt : s.heap.IsTuple a its.toArray := p
    have hai : a ≠ it := fun z => by
      obtain ⟨o1, h1, c1, _⟩ := hpt
      obtain ⟨o2, h2, c2, _⟩ := hit
      rw [z, h2] at h1
      cases h1
      rw [c2] at c1
      exact absurd (Value.type.inj c1) (by decide)
    have hae : e ≠ a := fun z => by
      obtain ⟨o1, h1, c1, _⟩ := hpt
      rw [← z, he] at h1
      cases h1
      exact absurd (Value.type.inj c1) (by decide)
    have hil2 : i < its.toArray.size := by
      rw [List.size_toArray]
      exact (List.getElem?_eq_some_iff.mp hu).1
    refine wpAny_pyNext_enum_itemD (draws_tuple (A := X.A.in1) (I.ok.hd hc) it a its.toArray hai) he ⟨hit, hpt⟩ hil2 hne (by simp only [List.mem_cons, List.not_mem_nil, or_false, not_or]; exact ⟨hne, hae⟩) fun y h' tk hy ho hst hT hsz hk => ?_
    have hyu : y = u := by
      have : its[i]? = some y := by simpa using hy
      rw [hu] at this
      exact (Option.some.inj this).symm
    subst hyu
    have hit' := hst.1
    refine ⟨_, rfl, wpAny_letOwnedTupleGo_enum (s := { s with heap := h', toks := tk + 1 }) ho fun h'' he' sb => ?_⟩
    have hT2 : h''.get? s.heap.objs.size = some { cls := .type "tuple", data := .seq #[.int i tk, y] } := (sb.2 _ (Nat.ne_of_gt hel)).trans hT
    have new : ObjOk X.prog X.w (upd H s.heap.objs.size (.tup [.int (i : Nat), x])) h'' s.heap.objs.size (.tup [.int (i : Nat), x]) :=
      ⟨by show 2 ≤ sizeLine; decide, [.int i tk, y], .cons ⟨_, rfl⟩ (.cons ru .nil), ⟨_, hT2, rfl, _, rfl⟩⟩
    have I1 : Inv X pins σ (upd H s.heap.objs.size (.tup [.int (i : Nat), x])) { s with heap := h'', toks := tk + 1 } :=
      I.turnedNew (ch := [e, it]) (fun b ob hb q => (sb.2 b (fun z => hb (by simp [z]))).trans (hk b ob (fun z => hb (by simp [z])) (fun z => hb (by simp [z])) q)) hf (Nat.le_refl _) new
    refine ⟨.ref s.heap.objs.size, _, I1, rfl, ⟨_, x, rfl, I.hok.fresh (Nat.le_refl _), rfl, fun ys hy => by rw [I.tuple_inj hy hq]; exact hx⟩, ⟨⟨y, ?_⟩, hit'.at fun o q => (sb.2 it (Ne.symm hne)).trans q, hne⟩, fun b hb => ?_⟩
    · have e1 : ((i + 1 : Nat) : Int) = (i : Int) + 1 := by omega
      rw [e1]; exact he'
    · have hb' : b < s.heap.objs.size := by
        have e' : b = e ∨ b = it := by simpa using hb
        rcases e' with z | z
        · rw [z]; exact hel
        · rw [z]; exact hil
      rw [upd_ne (Nat.ne_of_lt hb')]
      exact (hf b hb).1
  done := by
    intro X hP hw hK hc i pins s σ H E I hf st hg
    subst hP hw hK
    obtain ⟨⟨old, he⟩, hit, hne⟩ := st
    obtain ⟨xs, hq, hx⟩ := hg
    obtain ⟨its, rv, p, hz⟩ := I.tuple hq
    obtain ⟨f0, f1, f2, f3, f4, f5⟩ := hf it (by simp)
    have hl := rv.length
    have hpt : s.heap.IsTuple a its.toArray := p
    have hai : a ≠ it := fun z => by
      obtain ⟨o1, h1, c1, _⟩ := hpt
      obtain ⟨o2, h2, c2, _⟩ := hit
      rw [z, h2] at h1
      cases h1
      rw [c2] at c1
      exact absurd (Value.type.inj c1) (by decide)
    have hn : i = its.toArray.size := by rw [List.size_toArray]; omega
    exact wpAny_pyNext_enum_endD (draws_tuple (A := X.A.in1) (I.ok.hd hc) it a its.toArray hai) he (by rw [← hn]; exact ⟨hit, hpt⟩) fun h' eb => ⟨rfl, I.turned (t' := s.toks) (fun b o hb q => eb b o hb q) f0 f1 f3 f4 f5⟩
  self := fun A i s Q E st h => let ⟨⟨_, he⟩, _⟩ := st; wpAny_pyIter_enum he h
def iEnumT (K : PySem.W.Frag) (ta : TA) : TI := fun σ H R => ta σ H fun vs H1 => ∃ a xs, vs = [.ref a] ∧ SqT K H1 a xs ∧ R (IteT K a) H1
theorem pi_enumT {X : Cx} {e : Expr} {ta : TA} {p pos tpos : Pos} {elts : List Expr} {kk : Nat} (hg : Gl X "enumerate") (hm : X.mg "enumerate" = none) (ha : PA X [e] ta) (hs : starEach [e] X.env = [(false, eval e X.env)] := by rfl) :
    PI X (.Tuple elts kk tpos) (.Call (.Name "enumerate" p) [e] [] pos) (iEnumT X.K ta) := by
  refine ⟨fun pins s σ H R I h => ?_⟩
  refine Call_ (ld_blt I hg hm boot_enumerate (PyProof.Rows.callWith_type1 (thn (ha.run pos pins s σ H _ I h) fun us s1 ⟨vs, H1, I1, r1, q1⟩ => ?_) hs rfl))
  obtain ⟨a, xs, ex, hq, q⟩ := q1
  subst ex
  cases r1 with
  | cons r rr =>
    cases rr
    cases r
    obtain ⟨its, rv, p', hz⟩ := I1.tuple hq
    refine call_enumerate_tuple p' fun h' he hit hsz hk => wpAny_pyIter_enum he ?_
    have I2 : Inv X pins σ H1 { s1 with heap := h' } := I1.kept (t' := s1.toks) hk
    refine ⟨s1.heap.objs.size + 1, [s1.heap.objs.size + 1, s1.heap.objs.size], _, _, H1, rfl, I2, turn_enumT a (s1.heap.objs.size + 1) s1.heap.objs.size, ⟨⟨.none, he⟩, hit, Nat.succ_ne_self _⟩, fun b hb => ?_, q⟩
    have e' : b = s1.heap.objs.size + 1 ∨ b = s1.heap.objs.size := by simpa using hb
    have hle : s1.heap.objs.size ≤ b := by
      rcases e' with z | z
      · rw [z]; exact Nat.le_add_right _ _
      · rw [z]; exact Nat.le_refl _
    exact I1.fpOk hle (I1.hok.fresh hle)
theorem gx_enum {α : Type} {K : PySem.W.Frag} {a : Addr} {xs : List V} {g : TG} {tt : TT} {te : TE} {vs : List Nat} {σ0 : L2.St} {End : α → Hp → Prop} {Yd : α → V → Hp → (α → Hp → Prop) → Prop} {a0 : α} {H0 : Hp} (Pv : Nat → α → Hp → Prop) (h0 : Pv 0 a0 H0)
    (hl : ∀ i c H, i ≤ xs.length → Pv i c H → SqT K H a xs)
    (hs : ∀ i x T c H, xs[i]? = some x → H T = none → Pv i c H → g (.ref T) σ0 (upd H T (.tup [.int (i : Nat), x])) fun σ2 H2 => wipe σ2 vs = σ0 ∧ tt σ2 H2 fun b H3 => if b = true then te σ2 H3 fun y H4 => Yd c y H4 (Pv (i + 1)) else Pv (i + 1) c H3) (hd : ∀ c H, Pv xs.length c H → End c H) :
    ∃ W : Nat → Nat → α → Hp → Prop, (∃ m, W 0 m a0 H0) ∧ tGx (IteT K a) g tt te σ0 vs End Yd W := by
  refine ⟨fun i m c H => m = xs.length - i ∧ i ≤ xs.length ∧ Pv i c H, ⟨xs.length, rfl, Nat.zero_le _, h0⟩, ?_⟩
  rintro i m c H ⟨rfl, hi, p⟩
  by_cases hlt : i < xs.length
  · have hx : xs[i]? = some xs[i] := List.getElem?_eq_getElem hlt
    refine .inr ⟨⟨xs, xs[i], hl i c H hi p, hx⟩, Pv (i + 1), fun c' H' p' => ⟨xs.length - (i + 1), by omega, rfl, hlt, p'⟩, fun x H' y => ?_⟩
    obtain ⟨T, x1, rfl, nT, rfl, e1⟩ := y
    exact hs i x1 T c H (e1 xs (hl i c _ hi p)) nT p
  · have e : i = xs.length := by omega
    subst e
    exact .inl ⟨⟨xs, hl _ c H hi p, rfl⟩, hd c H p⟩
theorem gx_str {α : Type} {z : Str} {g : TG} {tt : TT} {te : TE} {vs : List Nat} {σ0 : L2.St} {End : α → Hp → Prop} {Yd : α → V → Hp → (α → Hp → Prop) → Prop} {a0 : α} {H0 : Hp} (Pv : Nat → α → Hp → Prop) (h0 : Pv 0 a0 H0)
    (hs : ∀ i x c H, z.cps[i]? = some x → Pv i c H → g (.str ⟨#[x]⟩) σ0 H fun σ2 H2 => wipe σ2 vs = σ0 ∧ tt σ2 H2 fun b H3 => if b = true then te σ2 H3 fun y H4 => Yd c y H4 (Pv (i + 1)) else Pv (i + 1) c H3) (hd : ∀ c H, Pv z.cps.size c H → End c H) :
    ∃ W : Nat → Nat → α → Hp → Prop, (∃ m, W 0 m a0 H0) ∧ tGx (Its z) g tt te σ0 vs End Yd W := by
  refine ⟨fun i m c H => m = z.cps.size - i ∧ i ≤ z.cps.size ∧ Pv i c H, ⟨z.cps.size, rfl, Nat.zero_le _, h0⟩, ?_⟩
  rintro i m c H ⟨rfl, hi, p⟩
  by_cases hlt : i < z.cps.size
  · refine .inr ⟨hlt, Pv (i + 1), fun c' H' p' => ⟨z.cps.size - (i + 1), by omega, rfl, hlt, p'⟩, fun x H' y => ?_⟩
    obtain ⟨rfl, ch, hc, rfl⟩ := y
    exact hs i ch c _ hc p
  · have e : i = z.cps.size := by omega
    subst e
    exact .inl ⟨Nat.le_refl _, hd c H p⟩

/-! ### a generator expression over a list -/
theorem gx_list {α : Type} {K : PySem.W.Frag} {a : Addr} {xs : List V} {g : TG} {tt : TT} {te : TE} {vs : List Nat} {σ0 : L2.St} {End : α → Hp → Prop} {Yd : α → V → Hp → (α → Hp → Prop) → Prop} {a0 : α} {H0 : Hp} (Pv : Nat → α → Hp → Prop) (h0 : Pv 0 a0 H0)
    (hl : ∀ i c H, i ≤ xs.length → Pv i c H → SqL K H a xs)
    (hs : ∀ i x c H, xs[i]? = some x → Pv i c H → g x σ0 H fun σ2 H2 => wipe σ2 vs = σ0 ∧ tt σ2 H2 fun b H3 => if b = true then te σ2 H3 fun y H4 => Yd c y H4 (Pv (i + 1)) else Pv (i + 1) c H3) (hd : ∀ c H, Pv xs.length c H → End c H) :
    ∃ W : Nat → Nat → α → Hp → Prop, (∃ m, W 0 m a0 H0) ∧ tGx (Itl K a) g tt te σ0 vs End Yd W := by
  refine ⟨fun i m c H => m = xs.length - i ∧ i ≤ xs.length ∧ Pv i c H, ⟨xs.length, rfl, Nat.zero_le _, h0⟩, ?_⟩
  rintro i m c H ⟨rfl, hi, p⟩
  by_cases hlt : i < xs.length
  · have hx : xs[i]? = some xs[i] := List.getElem?_eq_getElem hlt
    refine .inr ⟨⟨xs, xs[i], hl i c H hi p, hx⟩, Pv (i + 1), fun c' H' p' => ⟨xs.length - (i + 1), by omega, rfl, hlt, p'⟩, fun x H' y => ?_⟩
    obtain ⟨rfl, y⟩ := y
    exact hs i x c _ (y xs (hl i c _ hi p)) p
  · have e : i = xs.length := by omega
    subst e
    exact .inl ⟨⟨xs, hl _ c H hi p, Nat.le_refl _⟩, hd c H p⟩

/-! ### what is allowed, and why not: the program's own -/
def tTru (K : PySem.W.Frag) (ta : TE) : TT := fun σ H Q => ta σ H fun x H' => ∃ k, TruV K x H' k ∧ Q k H'
theorem pt_tru {X : Cx} {a : Expr} {ta : TE} (ha : PE X a ta) (he : ∀ whole, isTrue a X.env whole = (do let v ← whole; standAt a.pos; holding [v] (truthy v))) : PT X a (tTru X.K ta) := pt_truth ha he
def oneB (bs : List Bool) (r : List Int) : Bool := decide (gateM bs r = 1)
def atM (bs : List Bool) (p : List Nat) (a b : List Int) : Bool := (oneB bs a && oneB bs b) || (oneB bs a && hrow p a) || (oneB bs b && hrow p b) || !meetM p (cubeM a b)
abbrev Why := Option (List Int ⊕ Nat)
def whyM (m : Nat) (bs : List Bool) (cs : List Ch) (p : List Nat) : Why :=
  match ((rowsI m).zip bs).find? (fun z => !z.2 && hrow p z.1) with
  | some z => some (.inl z.1)
  | none => (cs.findIdx? fun c => !atM bs p c.1 c.2).map .inr
def WhyV (H : Hp) : Why → V → Prop
  | none, v => v = .non
  | some (.inl r), v => Tk H v (.tuple [.str (Str.ofString "row"), rowD r])
  | some (.inr k), v => Tk H v (.tuple [.str (Str.ofString "change"), .int k])
theorem s0_one : Str.ofString "0" = one 48 := by decide +kernel
theorem s1_one : Str.ofString "1" = one 49 := by decide +kernel
def bitS (b : Bool) : Nat := if b = true then 49 else 48
theorem tab_S (bs : List Bool) : tabOf bs = SX.S (bs.map bitS) := rfl
def sp_ones_of (K : PySem.W.Frag) : Sp := fun vs H Q _ => ∃ (wa ra : Addr) (m : Nat) (bs : List Bool) (x : V) (xs : List V) (rs : List (List Int)), vs = [.ref wa, .ref ra] ∧ H wa = some (.tup [.int m, .str (tabOf bs), x]) ∧ H ra = some (.tup xs) ∧ TkAll H xs (rs.map rowD) ∧ (∀ r ∈ rs, r.length = m ∧ Row01' r) ∧ m ≤ 6 ∧ bs.length = 2 ^ m ∧ rs.length ≤ 64 ∧ ∀ l ys H', H l = none → Same H H' → H' l = some (.lst ys) → TkAll H' ys ((rs.filter (oneB bs)).map rowD) → Q (.ref l) H'
theorem ok_ones_of (T : Tx K mg) : FnOk P w K mg base CX0 2 T.f_ones_of T.fd_ones_of ["wish", "rows"] (sp_ones_of K) := by
  refine T.F_ones_of.ok sc_ones_of (fun vs H Q E h => ?_) (fun cdv A outer s H vs Q E hr h => ?_)
  · obtain ⟨wa, ra, m, bs, x, xs, rs, rfl, _⟩ := h
    rfl
  · obtain ⟨wa, ra, m, bs, x, xs, rs, rfl, hw, hra, tx, okr, m6, lb, l64, q⟩ := h
    refine ⟨_, (pss_one (ps_ret (pe_lc (own := [("row", 2)]) (by rfl) sc_ones_of.nd (pi_tup (pv 1)) (blkOk_by (own := [("row", 2)]) (N := ["wish", "rows", "row"]) (sc := defScope s_ones_of) (by decide +kernel)) (fun _ _ _ _ _ => (pg_name (i := 2) sc_ones_of.nd rfl (by first | exact .inl rfl | exact .inr rfl))) (fun _ _ _ _ _ => (pts_one (show PT _ _ (tTru K _) from pt_tru (pe_call (ok_table_worth T) (hr.mono (by decide)) (by rfl) T.g_table_worth T.F_table_worth.kp T.b_table_worth .nil pass0 (pa_cons (pe_ix (show IxR _ (rIxT K) from ix_tup) (pv 0) pe_int (fun _ _ => rfl)) (pa_cons (pv 2) pa_nil))) (by intro _; rfl)))) (fun _ _ _ _ _ => (pv 2))))), ?_⟩
    refine ⟨.ref ra, rfl, ra, rfl, ⟨_, SqT.of hra⟩, fun L nL => ?_⟩
    refine lc_tup (K := K) (a := ra) (xs := xs) (fun j H' => Same H (hd1 L H') ∧ ∃ ys, H' L = some (.lst ys) ∧ TkAll (hd1 L H') ys (((rs.take j).filter (oneB bs)).map rowD)) ⟨hd1_of (same_upd nL) nL, [], upd_same, .nil⟩ (fun j H' _ z => SqT.of (hd1_le _ _ (z.1 _ _ hra))) ?_ ?_
    · rintro j v H1 hv ⟨s1, ys, hL, ty⟩
      obtain ⟨r, hr', tr⟩ := tx.at hv
      obtain ⟨p, rfl, hp⟩ := tr.row_inv
      obtain ⟨lr, or⟩ := okr r (List.mem_of_getElem? hr')
      refine ⟨rfl, .ref wa, rfl, wa, _, _, .str (tabOf bs), rfl, rfl, SqT.of (hd1_le _ _ (s1 _ _ hw)), rfl, .ref p, rfl, bs, p, r, rfl, hd1_le _ _ (s1 _ _ hp), or, by rw [lr]; exact lb, by omega, ?_⟩
      have et : (rs.take (j + 1)).filter (oneB bs) = (rs.take j).filter (oneB bs) ++ (if oneB bs r = true then [r] else []) := by
        rw [List.take_add_one, hr', List.filter_append]
        congr 1
        show List.filter _ [r] = _
        rw [List.filter_cons, List.filter_nil]
      have ly := ty.length
      rw [List.length_map] at ly
      have l2 := List.length_filter_le (oneB bs) (rs.take j)
      rw [List.length_take] at l2
      rcases gate01 bs r with e | e
      · rw [e]
        refine ⟨false, rfl, iteF ⟨s1, ys, hL, ?_⟩⟩
        have e1 : oneB bs r = false := decide_eq_false (by rw [e]; decide)
        rw [et, e1]
        simpa using ty
      · rw [e]
        refine ⟨true, rfl, iteT ?_⟩
        have e1 : oneB bs r = true := decide_eq_true e
        refine ⟨.ref p, rfl, ys, hL, Nat.lt_of_lt_of_le (show _ < 128 by omega) (by decide), s1.trans hd1_upd, ys ++ [V.ref p], upd_same, ?_⟩
        rw [et, e1, List.map_append]
        exact (ty.same hd1_upd).append (.cons ((tr.same s1).same hd1_upd) .nil)
    · rintro H1 ⟨s1, ys, hL, ty⟩
      have lx := tx.length
      rw [List.length_map] at lx
      rw [lx, List.take_length] at ty
      exact q L ys H1 nL (fun b o e => hd1_le _ _ (s1 _ _ e)) hL (ty.same hd1_le)
theorem ch_rows {m : Nat} {a b : List Int} (ok : ChOk m a b) : ∀ r ∈ [a, b], r.length = m ∧ Row01' r := fun r hr => by
  simp only [List.mem_cons, List.not_mem_nil, or_false] at hr
  rcases hr with rfl | rfl
  · exact ⟨ok.la, ok.oa⟩
  · exact ⟨ok.lb, ok.ob⟩
theorem ones_two (bs : List Bool) (a b : List Int) : decide (([a, b].filter (oneB bs)).length = 2) = (oneB bs a && oneB bs b) := by
  cases h1 : oneB bs a <;> cases h2 : oneB bs b <;> simp [List.filter, h1, h2]
theorem ones_any (bs : List Bool) (p : List Nat) (a b : List Int) : ([a, b].filter (oneB bs)).any (fun r => hrow p r) = ((oneB bs a && hrow p a) || (oneB bs b && hrow p b)) := by
  cases h1 : oneB bs a <;> cases h2 : oneB bs b <;> simp [List.filter, h1, h2]
theorem Tk.row_at {H : Hp} {xs : List V} {rs : List (List Int)} (t : TkAll H xs (rs.map rowD)) {j : Nat} {v : V} (h : xs[j]? = some v) : ∃ p r, v = .ref p ∧ rs[j]? = some r ∧ H p = some (.tup (r.map V.int)) := by
  obtain ⟨r, hr, tr⟩ := t.at h
  obtain ⟨p, rfl, hp⟩ := tr.row_inv
  exact ⟨p, r, rfl, hr, hp⟩
def sp_is_allowed_at (T : Tx K mg) : Sp := fun vs H Q _ => ∃ (wa c : Addr) (m : Nat) (bs : List Bool) (x : V) (p : List Nat) (a b : List Int), vs = [.ref wa, .str (SX.S p), .ref c] ∧ H wa = some (.tup [.int m, .str (tabOf bs), x]) ∧ bs.length = 2 ^ m ∧ ProdOk m p ∧ ChAt H c a b ∧ ChOk m a b ∧ Tabs H T.tabs ∧ ∀ H', Gr H H' → Q (.bl (atM bs p a b)) H'
theorem ok_is_allowed_at (T : Tx K mg) (B : Tb base T) : FnOk P w K mg base CX0 5 T.f_is_allowed_at T.fd_is_allowed_at ["wish", "product", "change"] (sp_is_allowed_at T) := by
  refine okC T.F_is_allowed_at sc_is_allowed_at (fun vs H Q E h => ?_) (fun A outer s H vs Q E hr h => ?_)
  · obtain ⟨wa, c, m, bs, x, p, a, b, rfl, _⟩ := h
    rfl
  · obtain ⟨wa, c, m, bs, x, p, a, b, rfl, hw, lb, okp, ca, ok, tabs, q⟩ := h
    obtain ⟨ra, rb, hc, ha, hb⟩ := id ca
    refine ⟨_, (pss_cons (ps_set (i := 3) sc_is_allowed_at.nd rfl (by first | exact .inl rfl | exact .inr rfl) (pe_call (ok_ones_of T) (hr.mono (by decide)) (by rfl) T.g_ones_of T.F_ones_of.kp T.b_ones_of .nil pass0 (pa_cons (pv 0) (pa_cons (pv 2) pa_nil)))) (pss_cons (ps_if (pw_or (pt_cmpR op_eq (pe_callB call_len_seq (by rfl) T.m_len PySem.boot_len (pa_cons (pv 3) pa_nil)) pe_int (nomark _)) (pw_or1 (pt_val (pe_anyX (own := [("row", 4)]) (k := 3) (hr.mono (by decide)) rfl sc_is_allowed_at.nd (by rfl) T.m_any (by decide +kernel) B.TB_is_allowed_at T.cd_is_allowed_at rfl rfl (by decide +kernel) (blkOk_by (own := [("row", 4)]) (N := ["wish", "product", "change", "ones", "row"]) (sc := defScope s_is_allowed_at) (by decide +kernel)) (pi_list (pv 3)) (fun _ _ _ _ _ _ _ hr gd => (pg_name (i := 4) sc_is_allowed_at.nd rfl (by first | exact .inl rfl | exact .inr rfl))) (fun _ _ _ _ _ _ _ hr gd => pts_nil) (fun _ _ _ _ _ _ _ hr gd => (pe_call (ok_holds_row T B) (hr.mono (by decide)) (by rfl) T.g_holds_row T.F_holds_row.kp T.b_holds_row .nil pass0 (pa_cons (pv 1) (pa_cons (pv 4) pa_nil)))) (fun _ => rfl))))).pt (pss_one (ps_ret pe_bl)) pss_nil) (pss_one (ps_ret (pe_not (pe_call (ok_meet T B) (hr.mono (by decide)) (by rfl) T.g_meet T.F_meet.kp T.b_meet .nil pass0 (pa_cons (pv 1) (pa_cons (pe_call (ok_cube_of T B) (hr.mono (by decide)) (by rfl) T.g_cube_of T.F_cube_of.kp T.b_cube_of .nil pass0 (pa_cons (pv 2) pa_nil)) pa_nil)))))))), ?_⟩
    have tab : GxR.TabG H T.P_is_allowed_at := tabs _ (by simp [Tx.tabs])
    refine ⟨.ref wa, rfl, .ref c, rfl, wa, c, m, bs, x, _, [a, b], rfl, hw, hc, .cons (.tup ha (TkAll.ints a)) (.cons (.tup hb (TkAll.ints b)) .nil), ch_rows ok, ok.m6, lb, (by show 2 ≤ 64; decide), fun l ys H1 nl s1 hl ty => ?_⟩
    have lx := ty.length
    rw [List.length_map] at lx
    have g1 : Gr H H1 := Gr.of s1
    have okf : ∀ r ∈ [a, b].filter (oneB bs), r.length = m ∧ Row01' r := fun r hr => ch_rows ok r (List.mem_filter.mp hr).1
    have e2 := ones_two bs a b
    have ea := ones_any bs p a b
    revert lx ty okf e2 ea
    generalize [a, b].filter (oneB bs) = fs
    intro ty lx okf e2 ea
    refine ⟨.ref l, rfl, l, ys, rfl, .inl (SqL.of hl), rfl, _, rfl, ite2 (fun e => ?_) (fun e => ?_)⟩
    · have e' : (oneB bs a && oneB bs b) = true := by
        rw [← e2, ← lx]
        have := of_decide_eq_true e
        have z : (ys.length : Int) = 2 := V.int.inj this
        exact decide_eq_true (by omega)
      have z := q H1 g1
      unfold atM at z
      rw [e', Bool.true_or, Bool.true_or, Bool.true_or] at z
      exact iteT z
    · have e' : (oneB bs a && oneB bs b) = false := by
        rw [← e2, ← lx]
        refine decide_eq_false fun z => e (decide_eq_true ?_)
        show V.int (ys.length : Int) = V.int 2
        rw [z]
        rfl
      have m6 := ok.m6
      refine ⟨.ref l, rfl, l, rfl, ⟨_, SqL.of hl⟩, g1.2 _ tab, fun H2 tb2 => ?_⟩
      have g2 := Gr.tab (g1.2 _ tab) tb2
      refine gx_list (K := K) (a := l) (xs := ys) (fun j _ H' => Gr H1 H' ∧ (fs.take j).any (fun r => hrow p r) = false) ⟨g2, rfl⟩ (fun j _ H' _ z => SqL.of (z.1.lst hl)) ?_ ?_
      · rintro j v _ H' hv ⟨g, ih⟩
        obtain ⟨t, r, rfl, hr', ht⟩ := Tk.row_at ty hv
        obtain ⟨lr, or⟩ := okf r (List.mem_of_getElem? hr')
        refine ⟨rfl, .str (SX.S p), rfl, .ref t, rfl, p, t, r, rfl, g.tup ht, or, by rw [okp.1, lr], by omega, (g1.trans g).tabs tabs, fun H3 g3 => ?_⟩
        refine ⟨_, rfl, ite2 (fun e => ?_) (fun e => ⟨g.trans g3, ?_⟩)⟩
        · have z := q H3 (g1.trans (g.trans g3))
          have e3 : fs.any (fun r => hrow p r) = true := List.any_eq_true.mpr ⟨r, List.mem_of_getElem? hr', e⟩
          have ez : atM bs p a b = true := by
            unfold atM
            rw [ea] at e3
            rw [Bool.or_assoc (oneB bs a && oneB bs b), e3, Bool.or_true, Bool.true_or]
          rw [ez] at z
          exact ⟨true, rfl, iteT z⟩
        · rw [List.take_add_one, hr', List.any_append, ih]
          simpa using e
      · rintro _ H' ⟨g, ih⟩
        rw [lx, List.take_length] at ih
        refine ⟨false, rfl, iteF ?_⟩
        have g' := g1.trans g
        refine ⟨.str (SX.S p), rfl, .ref c, rfl, c, m, a, b, rfl, ca.gr g', ok, g'.tabs tabs, fun H3 g3 => ?_⟩
        refine ⟨p, cubeM a b, rfl, by rw [okp.1, cube_len ok], (g'.trans g3).tabs tabs, fun H4 g4 => ⟨_, rfl, ?_⟩⟩
        have z := q H4 (g'.trans (g3.trans g4))
        unfold atM at z
        rw [e', Bool.false_or, ← ea, ih, Bool.false_or] at z
        exact z

end
end Gk

set_option Elab.async false
set_option linter.all false
set_option maxRecDepth 100000
set_option maxHeartbeats 1000000
set_option pp.maxSteps 1500
set_option pp.deepTerms false
namespace Gk
open PySem PySem.Spec PyProof.Rows L2
section
variable {P : Program} {w : World} {K : PySem.W.Frag} {mg : Str → Option Value} {base : Heap}
theorem chs_mem {α : Type} : ∀ (n : Nat) (ls : List (List α)), ls.length = n → ∀ q ∈ chs ls, ∀ c ∈ q, ∃ l ∈ ls, c ∈ l := by
  intro n
  induction n with
  | zero =>
    intro ls h q hq c hc
    cases List.eq_nil_of_length_eq_zero h
    rw [List.mem_singleton.mp hq] at hc
    cases hc
  | succ n ih =>
    intro ls h q hq c hc
    have hne : ls ≠ [] := fun z => by rw [z] at h; cases h
    obtain ⟨r, x, rfl⟩ : ∃ r x, ls = r ++ [x] := ⟨ls.dropLast, ls.getLast hne, (List.dropLast_concat_getLast hne).symm⟩
    rw [chs_snoc] at hq
    obtain ⟨c0, h0, hq⟩ := List.mem_flatMap.mp hq
    obtain ⟨o, ho, rfl⟩ := List.mem_map.mp hq
    rcases List.mem_append.mp hc with z | z
    · obtain ⟨l, hl, hc⟩ := ih r (by rw [List.length_append] at h; simpa using h) c0 h0 c z
      exact ⟨l, List.mem_append_left _ hl, hc⟩
    · rw [List.mem_singleton.mp z]
      exact ⟨x, by simp, ho⟩

theorem find_hit {α : Type} {l : List α} {f : α → Bool} {i : Nat} {a : α} (h : l[i]? = some a) (n : ∀ j, j < i → ∀ x, l[j]? = some x → f x = false) (e : f a = true) : l.findIdx? f = some i := by
  rw [List.findIdx?_eq_some_iff_getElem]
  obtain ⟨hl, rfl⟩ := List.getElem?_eq_some_iff.mp h
  exact ⟨hl, e, fun j hj => by simpa using n j hj _ (List.getElem?_eq_getElem _)⟩
theorem find_miss {α : Type} {l : List α} {f : α → Bool} (n : ∀ j, j < l.length → ∀ x, l[j]? = some x → f x = false) : l.findIdx? f = none := by
  rw [List.findIdx?_eq_none_iff]
  intro x hx
  obtain ⟨i, hi, rfl⟩ := List.getElem_of_mem hx
  exact n i hi _ (List.getElem?_eq_getElem _)

theorem for_enumT {K : PySem.W.Frag} {a : Addr} {xs : List V} {g : TG} {tb : TS} {D : Ends} {σ : L2.St} {H : Hp} (Pv : Nat → L2.St → Hp → Prop) (h0 : Pv 0 σ H) (hl : ∀ i σ H, i ≤ xs.length → Pv i σ H → SqT K H a xs)
    (hs : ∀ (i : Nat) (x : V) (T : Addr) (σ : L2.St) (H : Hp), xs[i]? = some x → H T = none → Pv i σ H → g (.ref T) σ (upd H T (.tup [.int (i : Nat), x])) fun σ2 H2 => tb { D with nx := Pv (i + 1), ct := Pv (i + 1), bk := D.nx } σ2 H2) (hd : ∀ σ H, Pv xs.length σ H → D.nx σ H) :
    ∃ W : Nat → Nat → L2.St → Hp → Prop, (∃ m, W 0 m σ H) ∧ ∀ i m σ H, W i m σ H →
      ((IteT K a).stop i H ∧ D.nx σ H) ∨ ((IteT K a).go i H ∧ ∃ N : L2.St → Hp → Prop, (∀ σ' H', N σ' H' → ∃ m', m' < m ∧ W (i + 1) m' σ' H') ∧ ∀ x H', (IteT K a).yld i H x H' → g x σ H' fun σ2 H2 => tb { D with nx := N, ct := N, bk := D.nx } σ2 H2) := by
  refine ⟨fun i m σ H => m = xs.length - i ∧ i ≤ xs.length ∧ Pv i σ H, ⟨xs.length, rfl, Nat.zero_le _, h0⟩, ?_⟩
  rintro i m σ H ⟨rfl, hi, p⟩
  have q := hl i σ H hi p
  by_cases hlt : i < xs.length
  · have hx : xs[i]? = some xs[i] := List.getElem?_eq_getElem hlt
    refine .inr ⟨⟨xs, xs[i], q, hx⟩, Pv (i + 1), fun σ' H' p' => ⟨xs.length - (i + 1), by omega, rfl, hlt, p'⟩, fun x H' y => ?_⟩
    obtain ⟨T, x1, rfl, nT, rfl, e1⟩ := y
    exact hs i x1 T σ H (e1 xs q) nT p
  · have e : i = xs.length := by omega
    subst e
    exact .inl ⟨⟨xs, q, rfl⟩, hd σ H p⟩

theorem find_stop {α : Type} {l : List α} {f : α → Bool} {i : Nat} {a : α} (h : l.take (i + 1) = l.take i ++ [a]) (n : (l.take i).find? f = none) (e : f a = true) : l.find? f = some a := by
  rw [← List.take_append_drop (i + 1) l, h, List.find?_append, List.find?_append, n]
  simp [List.find?, e]
theorem find_more {α : Type} {l : List α} {f : α → Bool} {i : Nat} {a : α} (h : l.take (i + 1) = l.take i ++ [a]) (n : (l.take i).find? f = none) (e : f a = false) : (l.take (i + 1)).find? f = none := by
  rw [h, List.find?_append, n]
  simp [List.find?, e]
theorem rowsI_len {m : Nat} (h : m ≤ 6) : (rowsI m).length = 2 ^ m := by
  have := List.all_eq_true.mp rows_ends m (List.mem_range.mpr (by omega))
  rw [Bool.and_eq_true] at this
  exact of_decide_eq_true this.1
theorem rowsI_ok {m : Nat} (hm : m ≤ 6) : ∀ r ∈ rowsI m, r.length = m ∧ Row01' r := fun r hr => by
  obtain ⟨i, hi, rfl⟩ := List.getElem_of_mem hr
  refine ⟨rows_len (List.getElem?_eq_getElem hi), fun x hx => ?_⟩
  obtain ⟨l, hl, hx'⟩ := chs_mem _ _ rfl _ hr x hx
  rw [(List.mem_replicate.mp hl).2] at hx'
  simpa using hx'
def hit (p : List Nat) (z : List Int × Bool) : Bool := !z.2 && hrow p z.1
theorem bit48 (b : Bool) : decide (V.str (one (bitS b)) = V.str (Str.ofString "0")) = !b := by
  rw [s0_one, str_dec, one_inj]
  cases b <;> rfl
def sp_why_not (T : Tx K mg) : Sp := fun vs H Q _ => ∃ (wa : Addr) (m : Nat) (bs : List Bool) (cs : List Ch) (p : List Nat), vs = [.ref wa, .str (SX.S p)] ∧ Tk H (.ref wa) (wishD m bs cs) ∧ WishOk m bs cs ∧ ProdOk m p ∧ Tabs H T.tabs ∧ ∀ v H', Gr H H' → WhyV H' (whyM m bs cs p) v → Q v H'
theorem ok_why_not (T : Tx K mg) (B : Tb base T) : FnOk P w K mg base CX0 6 T.f_why_not T.fd_why_not ["wish", "product"] (sp_why_not T) := by
  refine T.F_why_not.ok sc_why_not (fun vs H Q E h => ?_) (fun cdv A outer s H vs Q E hr h => ?_)
  · obtain ⟨wa, m, bs, cs, p, rfl, _⟩ := h
    rfl
  · obtain ⟨wa, m, bs, cs, p, rfl, tw, ok, okp, tabs, q⟩ := h
    obtain ⟨_, t, xs, e, hw, ht, tx⟩ := tw.wish_inv
    cases e
    have m1 := ok.m1
    have m4 := ok.m4
    have lb := ok.lb
    refine ⟨_, (pss_cons (ps_asg (pv 0) (pg_tup rfl (pgs_cons (pg_name (i := 2) sc_why_not.nd rfl (by first | exact .inl rfl | exact .inr rfl)) (pgs_cons (pg_name (i := 3) sc_why_not.nd rfl (by first | exact .inl rfl | exact .inr rfl)) (pgs_cons (pg_name (i := 4) sc_why_not.nd rfl (by first | exact .inl rfl | exact .inr rfl)) pgs_nil))))) (pss_cons (ps_for PassesOwn.never rfl (ZpG.pi_zip2 (by rfl) T.m_zip (pa_cons (pe_call (ok_rows_of T) (hr.mono (by decide)) (by rfl) T.g_rows_of T.F_rows_of.kp T.b_rows_of .nil pass0 (pa_cons (pv 2) pa_nil)) (pa_cons (pv 3) pa_nil))) (pg_tup rfl (pgs_cons (pg_name (i := 5) sc_why_not.nd rfl (by first | exact .inl rfl | exact .inr rfl)) (pgs_cons (pg_name (i := 6) sc_why_not.nd rfl (by first | exact .inl rfl | exact .inr rfl)) pgs_nil))) (pss_one (ps_if (pw_and (pt_cmpR op_eq (pv 6) pe_str (nomark _)) (pw_and1 (pt_val (pe_call (ok_holds_row T B) (hr.mono (by decide)) (by rfl) T.g_holds_row T.F_holds_row.kp T.b_holds_row .nil pass0 (pa_cons (pv 1) (pa_cons (pv 5) pa_nil)))))).pt (pss_one (ps_ret (pe_tup (pa_cons pe_str (pa_cons (pv 5) pa_nil))))) pss_nil))) (pss_cons (ps_for PassesOwn.never rfl (pi_enumT (by rfl) T.m_enumerate (pa_cons (pv 4) pa_nil)) (pg_tup rfl (pgs_cons (pg_name (i := 7) sc_why_not.nd rfl (by first | exact .inl rfl | exact .inr rfl)) (pgs_cons (pg_name (i := 8) sc_why_not.nd rfl (by first | exact .inl rfl | exact .inr rfl)) pgs_nil))) (pss_one (ps_if (pt_not (pt_val (pe_call (ok_is_allowed_at T B) (hr.mono (by decide)) (by rfl) T.g_is_allowed_at T.F_is_allowed_at.kp T.b_is_allowed_at .nil pass0 (pa_cons (pv 0) (pa_cons (pv 1) (pa_cons (pv 8) pa_nil)))))) (pss_one (ps_ret (pe_tup (pa_cons pe_str (pa_cons (pv 7) pa_nil))))) pss_nil))) (pss_one (ps_ret pe_non))))), ?_⟩
    refine ⟨.ref wa, rfl, wa, _, rfl, SqT.of hw, rfl, _, _, rfl, _, _, rfl, _, _, rfl, rfl, ?_⟩
    first | (show (_ : L2.St → Hp → Prop) [some (.ref wa), some (.str (SX.S p)), some (.int m), some (.str (tabOf bs)), some (.ref t), none, none, none, none] H) | (unfold gName; show (_ : L2.St → Hp → Prop) [some (.ref wa), some (.str (SX.S p)), some (.int m), some (.str (tabOf bs)), some (.ref t), none, none, none, none] H) | (dsimp only; show (_ : L2.St → Hp → Prop) [some (.ref wa), some (.str (SX.S p)), some (.int m), some (.str (tabOf bs)), some (.ref t), none, none, none, none] H) | (dsimp only [gName]; show (_ : L2.St → Hp → Prop) [some (.ref wa), some (.str (SX.S p)), some (.int m), some (.str (tabOf bs)), some (.ref t), none, none, none, none] H)
    refine ⟨.int m, rfl, m, rfl, m1, by omega, fun r H1 s1 tr => ?_⟩
    obtain ⟨_, rs, e, hr1, trs⟩ := tr.tup_inv
    cases e
    have lrs : rs.length = 2 ^ m := by
      have := trs.length
      rw [List.length_map] at this
      rw [this, rowsI_len (by omega)]
    have g1 : Gr H H1 := Gr.of s1
    refine ⟨.str (tabOf bs), rfl, .tu r, .tx (tabOf bs), rs, _, rfl, SqT.of hr1, at_tx (bs.map bitS), ?_⟩
    refine ZpG.for_zip2 (K := K) (n := 2 ^ m) lrs (by rw [List.length_map, List.length_map, lb]) (fun j σ H' => ∃ y5 y6, σ = [some (.ref wa), some (.str (SX.S p)), some (.int m), some (.str (tabOf bs)), some (.ref t), y5, y6, none, none] ∧ Gr H1 H' ∧ (((rowsI m).zip bs).take j).find? (hit p) = none) ⟨_, _, rfl, Gr.refl, rfl⟩ (fun j σ H' _ ⟨_, _, _, g, _⟩ => ⟨SqT.of (g.tup hr1), at_tx (bs.map bitS)⟩) ?_ ?_
    · rintro j x1 x2 Tq σ H2 h1 h2 nT ⟨y5, y6, rfl, g, ih⟩
      obtain ⟨ra, rw', rfl, hrw, hra⟩ := Tk.row_at trs h1
      obtain ⟨c, hc, rfl⟩ := one_at h2
      rw [List.getElem?_map] at hc
      obtain ⟨b, hb, rfl⟩ := Option.map_eq_some_iff.mp hc
      obtain ⟨lr, or⟩ := rowsI_ok (by omega) rw' (List.mem_of_getElem? hrw)
      have ez := zip_take_succ hrw hb
      have gT := g.trans (Gr.none (o := .tup [V.ref ra, .str (one (bitS b))]) nT)
      refine ⟨Tq, _, rfl, SqT.of upd_same, rfl, _, _, rfl, _, _, rfl, rfl, ?_⟩
      refine ⟨.str (one (bitS b)), rfl, rfl, _, rfl, ite2 (fun e => ?_) (fun e => ?_)⟩
      · have e1 := (bit48 b).symm.trans e
        refine ⟨.str (SX.S p), rfl, .ref ra, rfl, p, ra, rw', rfl, gT.tup hra, or, by rw [okp.1, lr], by omega, (g1.trans gT).tabs tabs, fun H3 g3 => ⟨_, rfl, ite2 (fun e2 => ?_) (fun e2 => ?_)⟩⟩
        · refine ⟨.ref ra, rfl, sl2, fun p' np => ?_⟩
          have g4 := (g1.trans gT).trans (g3.trans (Gr.none (o := .tup [V.str (Str.ofString "row"), .ref ra]) np))
          have ew : whyM m bs cs p = some (.inl rw') := by
            unfold whyM
            have := find_stop (f := hit p) ez ih (show hit p (rw', b) = true by show (!b && hrow p rw') = true; rw [e1, e2]; rfl)
            unfold hit at this
            rw [this]
          have z := q (.ref p') _ g4
          rw [ew] at z
          refine z (.tup upd_same (.cons (.str _) (.cons (.tup ?_ (TkAll.ints rw')) .nil)))
          exact (gT.trans (g3.trans (Gr.none np))).tup hra
        · refine ⟨_, _, rfl, gT.trans g3, find_more ez ih ?_⟩
          show (!b && hrow p rw') = false
          rw [Bool.eq_false_iff.mpr e2, Bool.and_false]
      · refine iteF ⟨_, _, rfl, gT, find_more ez ih ?_⟩
        show (!b && hrow p rw') = false
        have : (!b) = false := Bool.eq_false_iff.mpr fun z => e ((bit48 b).trans z)
        rw [this, Bool.false_and]
    · rintro σ H2 ⟨y5, y6, rfl, g, ih⟩
      have ez : ((rowsI m).zip bs).length ≤ 2 ^ m := by rw [List.length_zip]; omega
      rw [List.take_of_length_le ez] at ih
      have ew : whyM m bs cs p = (cs.findIdx? fun c => !atM bs p c.1 c.2).map .inr := by
        unfold whyM
        unfold hit at ih
        rw [ih]
      have gg := g1.trans g
      have lx := tx.length
      rw [List.length_map] at lx
      refine ⟨.ref t, rfl, t, xs, rfl, SqT.of (gg.tup ht), ?_⟩
      refine for_enumT (K := K) (a := t) (xs := xs) (fun j σ H' => ∃ y5 y6 y7 y8, σ = [some (.ref wa), some (.str (SX.S p)), some (.int m), some (.str (tabOf bs)), some (.ref t), y5, y6, y7, y8] ∧ Gr H H' ∧ ∀ i, i < j → ∀ c, cs[i]? = some c → (!atM bs p c.1 c.2) = false) ⟨_, _, _, _, rfl, gg, fun i hi => by omega⟩ (fun j σ H' _ ⟨_, _, _, _, _, g, _⟩ => SqT.of (g.tup ht)) ?_ ?_
      · rintro j x Tq σ H3 hx nT ⟨y5, y6, y7, y8, rfl, g3, ih3⟩
        obtain ⟨c, hc, tc⟩ := tx.at hx
        have gT := g3.trans (Gr.none (o := .tup [.int (j : Nat), x]) nT)
        obtain ⟨ca, rfl, hca⟩ := ChAt.of_tk (tc.gr gT)
        have okc := ok.oc c (List.mem_of_getElem? hc)
        refine ⟨Tq, _, rfl, SqT.of upd_same, rfl, _, _, rfl, _, _, rfl, rfl, ?_⟩
        refine ⟨.ref wa, rfl, .str (SX.S p), rfl, .ref ca, rfl, wa, ca, m, bs, _, p, c.1, c.2, rfl, gT.tup hw, lb, okp, hca, okc, gT.tabs tabs, fun H4 g4 => ⟨_, rfl, ite2 (fun e => ?_) (fun e => ?_)⟩⟩
        · refine ⟨.int (j : Nat), rfl, sl2, fun p' np => ?_⟩
          have z := q (.ref p') _ ((gT.trans g4).trans (Gr.none (o := .tup [V.str (Str.ofString "change"), .int (j : Nat)]) np))
          rw [ew, find_hit hc ih3 e] at z
          exact z (.tup upd_same (.cons (.str _) (.cons (.int _) .nil)))
        · refine ⟨_, _, _, _, rfl, gT.trans g4, fun i hi c' hc' => ?_⟩
          by_cases h : i = j
          · subst h
            rw [hc] at hc'
            cases hc'
            exact Bool.eq_false_iff.mpr e
          · exact ih3 i (by omega) c' hc'
      · rintro σ H3 ⟨y5, y6, y7, y8, rfl, g3, ih3⟩
        have z := q .non H3 g3
        rw [ew, find_miss (fun i hi c hc => ih3 i (by omega) c hc)] at z
        exact z rfl

end
end Gk

set_option Elab.async false
set_option linter.all false
set_option maxRecDepth 100000
set_option maxHeartbeats 1000000
set_option pp.maxSteps 1500
set_option pp.deepTerms false
namespace Gk
open PySem PySem.Spec PyProof.Rows L2
section
variable {P : Program} {w : World} {K : PySem.W.Frag} {mg : Str → Option Value} {base : Heap}
/-! ### things that may be products -/
inductive Od (H : Hp) : V → Option (List Nat) → Prop
  | str (p : List Nat) : p.length ≤ 64 → Od H (.str (SX.S p)) (some p)
  | non : Od H .non none
  | bl (b : Bool) : Od H (.bl b) none
  | int (i : Int) : Od H (.int i) none
  | lst {a : Addr} {xs : List V} : H a = some (.lst xs) → Od H (.ref a) none
  | tup {a : Addr} {xs : List V} : H a = some (.tup xs) → Od H (.ref a) none
  | dic {a : Addr} {kvs : List (Key × V)} : H a = some (.dK kvs) → Od H (.ref a) none
theorem Od.gr {H H' : Hp} (g : Gr H H') {v : V} {z : Option (List Nat)} (h : Od H v z) : Od H' v z := by
  cases h with
  | str p l => exact .str p l
  | non => exact .non
  | bl b => exact .bl b
  | int i => exact .int i
  | lst h => exact .lst (g.lst h)
  | tup h => exact .tup (g.tup h)
  | dic h => exact .dic (g.1 _ _ (fun _ z => by cases z) h)
def odTy : Option (List Nat) → Bool
  | some _ => true
  | none => false
theorem Od.ty {H : Hp} {v : V} {z : Option (List Nat)} (h : Od H v z) : ∃ t, TyX K H v (.type t) ∧ kitB t "str" = some (odTy z) := by
  cases h with
  | str p => exact ⟨_, .base (.str _), (by decide +kernel : kitB "str" "str" = some true)⟩
  | non => exact ⟨_, .base .non, (by decide +kernel : kitB "NoneType" "str" = some false)⟩
  | bl b => exact ⟨_, .base (.bl b), (by decide +kernel : kitB "bool" "str" = some false)⟩
  | int i => exact ⟨_, .base (.int i), (by decide +kernel : kitB "int" "str" = some false)⟩
  | lst h => exact ⟨_, .base (.lst h), (by decide +kernel : kitB "list" "str" = some false)⟩
  | tup h => exact ⟨_, .base (.tup h), (by decide +kernel : kitB "tuple" "str" = some false)⟩
  | dic h => exact ⟨_, .base (.dK h), (by decide +kernel : kitB "dict" "str" = some false)⟩
def sgB (c : Nat) : Bool := decide (c ∈ (Str.ofString "01-").cps.toList)
theorem sgB_iff {c : Nat} : sgB c = true ↔ SgOk c := by
  have e : (Str.ofString "01-").cps.toList = [48, 49, 45] := by decide +kernel
  unfold sgB
  rw [e, decide_eq_true_eq]
  unfold SgOk
  simp only [List.mem_cons, List.not_mem_nil, or_false]
  omega
def isPr (m : Nat) (p : List Nat) : Bool := decide (p.length = m) && p.all sgB
theorem isPr_iff {m : Nat} {p : List Nat} : isPr m p = true ↔ ProdOk m p := by
  unfold isPr ProdOk
  rw [Bool.and_eq_true, decide_eq_true_eq, List.all_eq_true]
  exact ⟨fun h => ⟨h.1, fun c hc => sgB_iff.mp (h.2 c hc)⟩, fun h => ⟨h.1, fun c hc => sgB_iff.mpr (h.2 c hc)⟩⟩
def isOd (m : Nat) : Option (List Nat) → Bool
  | some p => isPr m p
  | none => false
theorem all_stop' {α : Type} {f : α → Bool} {l : List α} {j : Nat} {x : α} (h : l[j]? = some x) (n : ¬ f x = true) : l.all f = false := by
  cases e : l.all f with
  | false => rfl
  | true => exact absurd (List.all_eq_true.mp e x (List.mem_of_getElem? h)) n
theorem all_take {α : Type} {f : α → Bool} {l : List α} {j : Nat} {x : α} (h : l[j]? = some x) (p : (l.take j).all f = true) (hx : f x = true) : (l.take (j + 1)).all f = true := by
  rw [List.take_add_one, h, List.all_append, p, Bool.true_and]
  show (f x && true) = true
  rw [hx]
  rfl
def sp_is_product (T : Tx K mg) : Sp := fun vs H Q _ => ∃ (m : Nat) (v : V) (z : Option (List Nat)), vs = [.int m, v] ∧ Od H v z ∧ GxR.TabG H T.P_is_product ∧ ∀ H', Gr H H' → Q (.bl (isOd m z)) H'
theorem ok_is_product (T : Tx K mg) (B : Tb base T) : FnOk P w K mg base CX0 2 T.f_is_product T.fd_is_product ["many", "thing"] (sp_is_product T) := by
  refine okC T.F_is_product sc_is_product (fun vs H Q E h => ?_) (fun A outer s H vs Q E hr h => ?_)
  · obtain ⟨m, v, z, rfl, _⟩ := h
    rfl
  · obtain ⟨m, v, z, rfl, sh, tab, q⟩ := h
    refine ⟨_, (pss_one (ps_ret (pe_and (pe_callB call_isi (by rfl) T.m_isinstance (by decide +kernel) (pa_cons (pv 1) (pa_cons (pe_bltn (v := .ty "str") (u := .type "str") (by rfl) T.m_str (by decide +kernel) rfl) pa_nil))) (pe_and (pe_cmpR op_eq (pe_callB call_len_str (by rfl) T.m_len PySem.boot_len (pa_cons (pv 1) pa_nil)) (pv 0) (nomark _)) (pe_one (pe_allX (own := [("sign", 2)]) (k := 0) (hr.mono (by decide)) rfl sc_is_product.nd (by rfl) T.m_all (by decide +kernel) B.TB_is_product T.cd_is_product rfl rfl (by decide +kernel) (blkOk_by (own := [("sign", 2)]) (N := ["many", "thing", "sign"]) (sc := defScope s_is_product) (by decide +kernel)) (pi_str (pv 1)) (fun _ _ _ _ _ _ _ hr gd => (pg_name (i := 2) sc_is_product.nd rfl (by first | exact .inl rfl | exact .inr rfl))) (fun _ _ _ _ _ _ _ hr gd => pts_nil) (fun _ _ _ _ _ _ _ hr gd => (pe_cmpR op_in_sign (pv 2) pe_str rfl)) (fun _ => rfl))))))), ?_⟩
    obtain ⟨t, ty, kit⟩ := Od.ty (K := K) sh
    refine ⟨v, rfl, _, _, _, _, _, rfl, .ty _, ty, kit_ty kit, _, rfl, ?_⟩
    cases sh with
    | str p l64 =>
      refine iteT ?_
      refine ⟨.str (SX.S p), rfl, _, rfl, ?_, .int m, rfl, rfl, _, rfl, ?_⟩
      · rw [SX.S_len]
        exact Nat.le_trans l64 (by decide)
      rw [SX.S_len]
      refine ite2 (fun e1 => ?_) (fun e1 => ?_)
      · have e2 : p.length = m := by have := V.int.inj (of_decide_eq_true e1); omega
        refine ⟨.str (SX.S p), rfl, SX.S p, rfl, tab, fun H2 tb => ?_⟩
        have g2 := Gr.tab tab tb
        refine gx_str (z := SX.S p) (fun j _ H' => H' = H2 ∧ (p.take j).all sgB = true) ⟨rfl, rfl⟩ ?_ ?_
        · rintro j c _ H' hx ⟨rfl, ih⟩
          have hc := S_at hx
          refine ⟨rfl, .str ⟨#[c]⟩, rfl, c, _, rfl, rfl, _, rfl, ite2 (fun z => ⟨rfl, all_take hc ih z⟩) (fun z => ?_)⟩
          have q' := q H' g2
          have : isOd m (some p) = false := by
            show (decide (p.length = m) && p.all sgB) = false
            rw [all_stop' hc z, Bool.and_false]
          rw [this] at q'
          exact q'
        · rintro _ H' ⟨rfl, ih⟩
          rw [S_size, List.take_length] at ih
          have q' := q H' g2
          have : isOd m (some p) = true := by
            show (decide (p.length = m) && p.all sgB) = true
            rw [ih, decide_eq_true e2]
            rfl
          rw [this] at q'
          exact q'
      · have q' := q H Gr.refl
        have : isOd m (some p) = false := by
          show (decide (p.length = m) && p.all sgB) = false
          rw [decide_eq_false (fun z => e1 (decide_eq_true (by rw [z]))), Bool.false_and]
        rw [this] at q'
        exact q'
    | non => exact iteF (q H Gr.refl)
    | bl b => exact iteF (q H Gr.refl)
    | int i => exact iteF (q H Gr.refl)
    | lst h => exact iteF (q H Gr.refl)
    | tup h => exact iteF (q H Gr.refl)
    | dic h => exact iteF (q H Gr.refl)
def alM (m : Nat) (bs : List Bool) (cs : List Ch) : Option (List Nat) → Bool
  | some p => isPr m p && (whyM m bs cs p).isNone
  | none => false
theorem why_none {H : Hp} {z : Why} {v : V} (h : WhyV H z v) : decide (v = .non) = z.isNone := by
  match z, h with
  | none, h => exact decide_eq_true h
  | some (.inl r), h =>
    cases h
    rfl
  | some (.inr k), h =>
    cases h
    rfl
def sp_is_allowed (T : Tx K mg) : Sp := fun vs H Q _ => ∃ (wa : Addr) (m : Nat) (bs : List Bool) (cs : List Ch) (v : V) (z : Option (List Nat)), vs = [.ref wa, v] ∧ Tk H (.ref wa) (wishD m bs cs) ∧ WishOk m bs cs ∧ Od H v z ∧ Tabs H T.tabs ∧ ∀ H', Gr H H' → Q (.bl (alM m bs cs z)) H'
theorem ok_is_allowed (T : Tx K mg) (B : Tb base T) : FnOk P w K mg base CX0 7 T.f_is_allowed T.fd_is_allowed ["wish", "product"] (sp_is_allowed T) := by
  refine T.F_is_allowed.ok sc_is_allowed (fun vs H Q E h => ?_) (fun cdv A outer s H vs Q E hr h => ?_)
  · obtain ⟨wa, m, bs, cs, v, z, rfl, _⟩ := h
    rfl
  · obtain ⟨wa, m, bs, cs, v, z, rfl, tw, ok, od, tabs, q⟩ := h
    obtain ⟨_, t, xs, e, hw, ht, tx⟩ := tw.wish_inv
    cases e
    refine ⟨_, (pss_one (ps_ret (pe_and (pe_call (ok_is_product T B) (hr.mono (by decide)) (by rfl) T.g_is_product T.F_is_product.kp T.b_is_product .nil pass0 (pa_cons (pe_ix ix_tup (pv 0) pe_int (fun _ _ => rfl)) (pa_cons (pv 1) pa_nil))) (pe_one (pe_cmpR op_isN (pe_call (ok_why_not T B) (hr.mono (by decide)) (by rfl) T.g_why_not T.F_why_not.kp T.b_why_not .nil pass0 (pa_cons (pv 0) (pa_cons (pv 1) pa_nil))) pe_non (nomark _)))))), ?_⟩
    refine ⟨.ref wa, rfl, wa, _, _, .int m, rfl, rfl, SqT.of hw, rfl, v, rfl, m, v, z, rfl, od, tabs _ (by simp [Tx.tabs]), fun H1 g1 => ⟨_, rfl, ite2 (fun e => ?_) (fun e => ?_)⟩⟩
    · cases z with
      | none => cases e
      | some p =>
        cases od with
        | str _ l64 =>
          refine ⟨.ref wa, rfl, .str (SX.S p), rfl, wa, m, bs, cs, p, rfl, tw.gr g1, ok, isPr_iff.mp e, g1.tabs tabs, fun v' H2 g2 wv => ⟨rfl, ?_⟩⟩
          have z := q H2 (g1.trans g2)
          have ez : alM m bs cs (some p) = (whyM m bs cs p).isNone := by
            show (isPr m p && _) = _
            rw [show isPr m p = true from e, Bool.true_and]
          rw [ez, ← why_none wv] at z
          exact z
    · have y := q H1 g1
      have ez : alM m bs cs z = false := by
        cases z with
        | none => rfl
        | some p =>
          show (isPr m p && _) = false
          rw [show isPr m p = false from Bool.eq_false_iff.mpr e, Bool.false_and]
      rw [ez] at y
      exact y

end
end Gk

set_option Elab.async false
set_option linter.all false
set_option maxRecDepth 100000
set_option maxHeartbeats 1000000
set_option pp.maxSteps 1500
set_option pp.deepTerms false
namespace Gk
open PySem PySem.Spec PyProof.Rows L2
section
variable {P : Program} {w : World} {K : PySem.W.Frag} {mg : Str → Option Value} {base : Heap}
/-! ### all choices, in order -/
theorem lt_app {x y : List Nat} : ∀ {a b : List Nat}, a.length = b.length → a < b → a ++ x < b ++ y
  | [], [], _, h => absurd h (List.lt_irrefl _)
  | [], _ :: _, h, _ => by cases h
  | _ :: _, [], h, _ => by cases h
  | p :: a, q :: b, h, z => by
    rw [List.cons_append, List.cons_append, List.cons_lt_cons_iff]
    rcases List.cons_lt_cons_iff.mp z with z1 | ⟨z1, z2⟩
    · exact .inl z1
    · exact .inr ⟨z1, lt_app (Nat.succ.inj h) z2⟩
theorem lt_snoc {o o' : Nat} (h : o < o') : ∀ a : List Nat, a ++ [o] < a ++ [o']
  | [] => List.cons_lt_cons_iff.mpr (.inl h)
  | p :: a => by
    rw [List.cons_append, List.cons_append, List.cons_lt_cons_iff]
    exact .inr ⟨rfl, lt_snoc h a⟩
theorem stepC_sorted {cs : List (List Nat)} {os : List Nat} {n : Nat} (hl : ∀ c ∈ cs, c.length = n) (h1 : cs.Pairwise (· < ·)) (h2 : os.Pairwise (· < ·)) : (stepC cs os).Pairwise (· < ·) := by
  unfold stepC
  rw [List.pairwise_flatMap]
  refine ⟨fun c _ => List.pairwise_map.mpr (h2.imp fun h => lt_snoc h c), ?_⟩
  refine List.Pairwise.imp_of_mem (fun {a b} ha hb hab => ?_) h1
  intro x hx y hy
  obtain ⟨o, _, rfl⟩ := List.mem_map.mp hx
  obtain ⟨o', _, rfl⟩ := List.mem_map.mp hy
  exact lt_app (by rw [hl a ha, hl b hb]) hab
theorem chs_sorted : ∀ (n : Nat) (ls : List (List Nat)), ls.length = n → (∀ l ∈ ls, l.Pairwise (· < ·)) → (chs ls).Pairwise (· < ·) := by
  intro n
  induction n with
  | zero =>
    intro ls h _
    cases List.eq_nil_of_length_eq_zero h
    exact List.pairwise_singleton _ _
  | succ n ih =>
    intro ls h hs
    have hne : ls ≠ [] := fun z => by rw [z] at h; cases h
    obtain ⟨r, x, rfl⟩ : ∃ r x, ls = r ++ [x] := ⟨ls.dropLast, ls.getLast hne, (List.dropLast_concat_getLast hne).symm⟩
    rw [chs_snoc]
    exact stepC_sorted (n := r.length) (fun c hc => chs_width r c hc) (ih r (by rw [List.length_append] at h; simpa using h) fun l hl => hs l (List.mem_append_left _ hl)) (hs x (by simp))

/-! ### all products -/
def prodL : Nat → List (List Nat)
  | 0 => [[]]
  | k + 1 => ((prodL k).map (· ++ [45]) ++ (prodL k).map (· ++ [48])) ++ (prodL k).map (· ++ [49])
def prodsU (m : Nat) : List (List Nat) := chs (List.replicate m [45, 48, 49])
theorem prodL_len : ∀ k, (prodL k).length = 3 ^ k
  | 0 => rfl
  | k + 1 => by
    unfold prodL
    rw [List.length_append, List.length_append, List.length_map, List.length_map, List.length_map, prodL_len k, Nat.pow_succ]
    omega
theorem prodL_wid : ∀ k, ∀ p ∈ prodL k, p.length = k
  | 0, p, h => by rw [List.mem_singleton.mp h]; rfl
  | k + 1, p, h => by
    unfold prodL at h
    have ih := prodL_wid k
    rcases List.mem_append.mp h with h | h
    · rcases List.mem_append.mp h with h | h
      · obtain ⟨q, hq, rfl⟩ := List.mem_map.mp h
        rw [List.length_append, ih q hq]; rfl
      · obtain ⟨q, hq, rfl⟩ := List.mem_map.mp h
        rw [List.length_append, ih q hq]; rfl
    · obtain ⟨q, hq, rfl⟩ := List.mem_map.mp h
      rw [List.length_append, ih q hq]; rfl
theorem perm_prods : ((List.range 5).all fun m => (prodL m).isPerm (prodsU m)) = true := by decide +kernel
theorem prodsU_sorted (m : Nat) : ((prodsU m).map SX.S).Pairwise (fun x y => SrtS.ltC y x = false) := by
  rw [List.pairwise_map]
  refine (chs_sorted _ (List.replicate m [45, 48, 49]) rfl fun l hl => ?_).imp fun {a b} hab => ?_
  · rw [(List.mem_replicate.mp hl).2]
    decide
  · refine decide_eq_false ?_
    show ¬ (b.toArray.toList < a.toArray.toList)
    exact List.lt_asymm hab
theorem prodsU_ok {m : Nat} : ∀ p ∈ prodsU m, ProdOk m p := fun p hp => by
  have h := chs_width _ _ hp
  rw [List.length_replicate] at h
  refine ⟨h, fun c hc => ?_⟩
  obtain ⟨l, hl, hc'⟩ := chs_mem _ _ rfl _ hp c hc
  rw [(List.mem_replicate.mp hl).2] at hc'
  simpa [SgOk] using hc'
theorem pVs_S (ps : List (List Nat)) : pVs ps = (ps.map SX.S).map V.str := by
  unfold pVs
  rw [List.map_map]
  rfl
theorem sg_add (p : List Nat) {x : Str} {c : Nat} (h : x = one c) (l : p.length ≤ 64) : (SX.S p).length + x.length ≤ sizeLine ∧ SX.S p ++ x = SX.S (p ++ [c]) := by
  subst h
  refine ⟨?_, S_app p [c]⟩
  rw [SX.S_len]
  exact Nat.le_trans (show p.length + 1 ≤ 65 by omega) (by decide)
def sp_all_products (K : PySem.W.Frag) : Sp := fun vs H Q _ => ∃ m : Nat, vs = [.int m] ∧ 1 ≤ m ∧ m ≤ 4 ∧ ∀ r H', H r = none → Same H H' → H' r = some (.lst (pVs (prodsU m))) → Q (.ref r) H'
theorem ok_all_products (T : Tx K mg) : FnOk P w K mg base CX0 1 T.f_all_products T.fd_all_products ["_law_many"] (sp_all_products K) := by
  refine T.F_all_products.ok sc_all_products (fun vs H Q E h => ?_) (fun cdv A outer s H vs Q E hr h => ?_)
  · obtain ⟨m, rfl, _⟩ := h
    rfl
  · obtain ⟨m, rfl, m1, m4, q⟩ := h
    refine ⟨_, (pss_cons (ps_set (i := 1) sc_all_products.nd rfl (by first | exact .inl rfl | exact .inr rfl) (pe_lst (pa_cons pe_str pa_nil))) (pss_cons (ps_for PassesOwn.never rfl (pi_range1 (by rfl) T.m_range (pa_cons (pv 0) pa_nil)) (pg_name (i := 2) sc_all_products.nd rfl (by first | exact .inl rfl | exact .inr rfl)) (pss_one (ps_set (i := 1) sc_all_products.nd rfl (by first | exact .inl rfl | exact .inr rfl) (pe_op op_cat (pe_op op_cat (pe_lc (own := [("_law_one", 3)]) (by rfl) sc_all_products.nd (pi_list (pv 1)) (blkOk_by (own := [("_law_one", 3)]) (N := ["_law_many", "_law_found", "_law_place", "_law_one"]) (sc := defScope s_all_products) (by decide +kernel)) (fun _ _ _ _ _ => (pg_name (i := 3) sc_all_products.nd rfl (by first | exact .inl rfl | exact .inr rfl))) (fun _ _ _ _ _ => pts_nil) (fun _ _ _ _ _ => (pe_op op_add_str (pv 3) pe_str))) (pe_lc (own := [("_law_one", 3)]) (by rfl) sc_all_products.nd (pi_list (pv 1)) (blkOk_by (own := [("_law_one", 3)]) (N := ["_law_many", "_law_found", "_law_place", "_law_one"]) (sc := defScope s_all_products) (by decide +kernel)) (fun _ _ _ _ _ => (pg_name (i := 3) sc_all_products.nd rfl (by first | exact .inl rfl | exact .inr rfl))) (fun _ _ _ _ _ => pts_nil) (fun _ _ _ _ _ => (pe_op op_add_str (pv 3) pe_str)))) (pe_lc (own := [("_law_one", 3)]) (by rfl) sc_all_products.nd (pi_list (pv 1)) (blkOk_by (own := [("_law_one", 3)]) (N := ["_law_many", "_law_found", "_law_place", "_law_one"]) (sc := defScope s_all_products) (by decide +kernel)) (fun _ _ _ _ _ => (pg_name (i := 3) sc_all_products.nd rfl (by first | exact .inl rfl | exact .inr rfl))) (fun _ _ _ _ _ => pts_nil) (fun _ _ _ _ _ => (pe_op op_add_str (pv 3) pe_str))))))) (pss_one (ps_ret (pe_callB cr_sortedTx (by rfl) T.m_sorted (by decide +kernel) (pa_cons (pv 1) pa_nil)))))), ?_⟩
    refine ⟨sl1, fun c0 nc0 => ?_⟩
    refine ⟨.int m, rfl, (m : Int), rfl, by omega, by omega, ?_⟩
    refine for_range (lo := 0) (n := (m : Int).toNat) (fun i σ H' => ∃ ca y2 y3, σ = [some (.int m), some (.ref ca), y2, y3] ∧ Same H H' ∧ H' ca = some (.lst (pVs (prodL i))))
      ⟨c0, _, _, rfl, same_upd nc0, by rw [show Str.ofString "" = SX.S [] from by decide +kernel]; exact upd_same⟩ ?_ ?_
    · rintro i σ H1 hi ⟨ca, y2, y3, rfl, s1, hca⟩
      have hi' : i < m := by simpa using hi
      have big : (prodL i).length ≤ 27 := by
        rw [prodL_len]
        exact Nat.pow_le_pow_right (by decide) (show i ≤ 3 by omega)
      have wid := prodL_wid i
      revert hca big wid
      generalize eps : prodL i = ps
      intro hca big wid
      have lcs : (pVs ps).length = ps.length := by unfold pVs; rw [List.length_map]
      have snoc : ∀ (c : Nat) (k : Nat) (p : List Nat), ps[k]? = some p → pVs ((ps.take k).map (· ++ [c])) ++ [V.str (SX.S (p ++ [c]))] = pVs ((ps.take (k + 1)).map (· ++ [c])) := fun c k p h => by
        rw [List.take_add_one, h]
        unfold pVs
        simp
      have small : ∀ (c k : Nat), (pVs ((ps.take k).map (· ++ [c]))).length < sizeLine := fun c k => by
        unfold pVs
        rw [List.length_map, List.length_map, List.length_take]
        exact Nat.lt_of_lt_of_le (show _ < 64 by omega) (by decide)
      refine ⟨.ref ca, rfl, ca, rfl, ⟨_, SqL.of hca⟩, fun D nD => ?_⟩
      refine lc_list (K := K) (a := ca) (xs := pVs ps) (fun k H' => Same H1 (hd1 D H') ∧ H' D = some (.lst (pVs ((ps.take k).map (· ++ [45]))))) ⟨hd1_of (same_upd nD) nD, upd_same⟩ (fun k H' _ z => SqL.of (hd1_le _ _ (z.1 _ _ hca))) ?_ ?_
      · rintro k x H2 hx ⟨s2, hD⟩
        obtain ⟨p, hp, rfl⟩ := pV_at hx
        obtain ⟨f1, f2⟩ := sg_add p dash_S (by have := wid p (List.mem_of_getElem? hp); omega)
        refine ⟨rfl, .str (SX.S p), rfl, _, _, rfl, rfl, f1, ?_⟩
        rw [f2]
        exact ⟨_, hD, small 45 k, s2.trans hd1_upd, by rw [upd_same, snoc 45 k p hp]⟩
      rintro H2 ⟨s2, hD⟩
      rw [lcs, List.take_length] at hD
      have s12 : Same H1 H2 := fun b o e => hd1_le _ _ (s2 _ _ e)
      refine ⟨.ref ca, rfl, ca, rfl, ⟨_, SqL.of (s12 _ _ hca)⟩, fun D' nD' => ?_⟩
      refine lc_list (K := K) (a := ca) (xs := pVs ps) (fun k H' => Same H2 (hd1 D' H') ∧ H' D' = some (.lst (pVs ((ps.take k).map (· ++ [48]))))) ⟨hd1_of (same_upd nD') nD', upd_same⟩ (fun k H' _ z => SqL.of (hd1_le _ _ (z.1 _ _ (s12 _ _ hca)))) ?_ ?_
      · rintro k x H3 hx ⟨s3, hD3⟩
        obtain ⟨p, hp, rfl⟩ := pV_at hx
        obtain ⟨f1, f2⟩ := sg_add p s0_one (by have := wid p (List.mem_of_getElem? hp); omega)
        refine ⟨rfl, .str (SX.S p), rfl, _, _, rfl, rfl, f1, ?_⟩
        rw [f2]
        exact ⟨_, hD3, small 48 k, s3.trans hd1_upd, by rw [upd_same, snoc 48 k p hp]⟩
      rintro H3 ⟨s3, hD3⟩
      rw [lcs, List.take_length] at hD3
      have s23 : Same H2 H3 := fun b o e => hd1_le _ _ (s3 _ _ e)
      have len3 : ∀ c : Nat, (pVs (ps.map (· ++ [c]))).length = ps.length := fun c => by unfold pVs; rw [List.length_map, List.length_map]
      refine ⟨D, D', _, _, rfl, rfl, s23 _ _ hD, hD3, by rw [len3, len3]; exact Nat.le_trans (show _ ≤ 128 by omega) (by decide), fun F nF => ?_⟩
      have s4 := same_upd (o := (HO.lst (pVs (ps.map (· ++ [45])) ++ pVs (ps.map (· ++ [48]))))) nF
      have h4 : upd H3 F (HO.lst (pVs (ps.map (· ++ [45])) ++ pVs (ps.map (· ++ [48])))) F = some (HO.lst (pVs (ps.map (· ++ [45])) ++ pVs (ps.map (· ++ [48])))) := upd_same
      generalize upd H3 F (HO.lst (pVs (ps.map (· ++ [45])) ++ pVs (ps.map (· ++ [48])))) = H4 at s4 h4 ⊢
      have s14 := (s12.trans s23).trans s4
      refine ⟨.ref ca, rfl, ca, rfl, ⟨_, SqL.of (s14 _ _ hca)⟩, fun D2 nD2 => ?_⟩
      refine lc_list (K := K) (a := ca) (xs := pVs ps) (fun k H' => Same H4 (hd1 D2 H') ∧ H' D2 = some (.lst (pVs ((ps.take k).map (· ++ [49]))))) ⟨hd1_of (same_upd nD2) nD2, upd_same⟩ (fun k H' _ z => SqL.of (hd1_le _ _ (z.1 _ _ (s14 _ _ hca)))) ?_ ?_
      · rintro k x H5 hx ⟨s5, hD5⟩
        obtain ⟨p, hp, rfl⟩ := pV_at hx
        obtain ⟨f1, f2⟩ := sg_add p s1_one (by have := wid p (List.mem_of_getElem? hp); omega)
        refine ⟨rfl, .str (SX.S p), rfl, _, _, rfl, rfl, f1, ?_⟩
        rw [f2]
        exact ⟨_, hD5, small 49 k, s5.trans hd1_upd, by rw [upd_same, snoc 49 k p hp]⟩
      rintro H5 ⟨s5, hD5⟩
      rw [lcs, List.take_length] at hD5
      have s45 : Same H4 H5 := fun b o e => hd1_le _ _ (s5 _ _ e)
      refine ⟨F, D2, _, _, rfl, rfl, s45 _ _ h4, hD5, by rw [List.length_append, len3, len3, len3]; exact Nat.le_trans (show _ ≤ 128 by omega) (by decide), fun G nG => ?_⟩
      refine ⟨G, _, _, rfl, ((s1.trans s14).trans s45).trans (same_upd nG), ?_⟩
      rw [upd_same]
      unfold prodL
      rw [eps]
      unfold pVs
      rw [List.map_append, List.map_append]
    · rintro σ H1 ⟨ca, y2, y3, rfl, s1, hca⟩
      rw [show (m : Int).toNat = m by omega] at hca
      refine ⟨.ref ca, rfl, ca, (prodL m).map SX.S, rfl, SqL.of (by rw [hca, pVs_S]), fun ys p pm st np => ?_⟩
      have hp := List.isPerm_iff.mp (List.all_eq_true.mp perm_prods m (List.mem_range.mpr (by omega)))
      have e := sorted_uniq (pm.trans (hp.map SX.S)) st (prodsU_sorted m)
      subst e
      have np0 : H p = none := by
        cases z : H p with
        | none => rfl
        | some o => rw [s1 _ _ z] at np; cases np
      exact q p _ np0 (s1.trans (same_upd np)) (by rw [upd_same, pVs_S])

end
end Gk

set_option Elab.async false
set_option linter.all false
set_option maxRecDepth 100000
set_option maxHeartbeats 1000000
set_option pp.maxSteps 1500
set_option pp.deepTerms false
namespace Gk
open PySem PySem.Spec PyProof.Rows L2
/-! ### l != [] of any list -/
namespace NeL
section
open PySem.W PySem.Calls HT
variable {X : Cx}
def rNeN (K : PySem.W.Frag) : R2 := fun x y H Q => ∃ a b xs, x = .ref a ∧ y = .ref b ∧ SqL K H a xs ∧ SqL K H b [] ∧ Q (.bl (!xs.isEmpty)) H
theorem op_neN (hu : X.A.units + 64 < cLine) : OpR X (compareOp .NotEq) (rNeN X.K) := by
  intro pins s σ H x y v u Q I rx ry h
  obtain ⟨a, b, xs, rfl, rfl, ha, hb, q⟩ := h
  cases rx
  cases ry
  obtain ⟨us, r1, t1, _⟩ := I.list ha
  obtain ⟨ws, r2, t2, _⟩ := I.list hb
  cases r2
  cases r1 with
  | nil => exact SeqAt.RcNeAt.lists (e := fun _ => true) t1.isList t2.isList rfl (by omega) (fun j h1 _ => absurd h1 (Nat.not_lt_zero _)) _ _ _ _ ⟨.bl false, H, I, rfl, q⟩
  | cons _ _ => exact SeqAt.RcNeAt.lists_lengths t1.isList t2.isList (by simp) (by omega) _ _ _ _ ⟨.bl true, H, I, rfl, q⟩
def rEqN (K : PySem.W.Frag) : R2 := fun x y H Q => ∃ a b xs, x = .ref a ∧ y = .ref b ∧ SqL K H a xs ∧ SqL K H b [] ∧ Q (.bl xs.isEmpty) H
theorem op_eqN (hu : X.A.units + 64 < cLine) : OpR X (compareOp .Eq) (rEqN X.K) := by
  intro pins s σ H x y v u Q I rx ry h
  obtain ⟨a, b, xs, rfl, rfl, ha, hb, q⟩ := h
  cases rx
  cases ry
  obtain ⟨us, r1, t1, _⟩ := I.list ha
  obtain ⟨ws, r2, t2, _⟩ := I.list hb
  cases r2
  cases r1 with
  | nil => exact SeqAt.RcAt.lists (e := fun _ => true) t1.isList t2.isList rfl (by omega) (fun j h1 _ => absurd h1 (Nat.not_lt_zero _)) _ _ _ _ ⟨.bl true, H, I, rfl, q⟩
  | cons _ _ => exact SeqAt.RcAt.lists_lengths t1.isList t2.isList (by simp) (by omega) _ _ _ _ ⟨.bl false, H, I, rfl, q⟩
end
end NeL

section
variable {P : Program} {w : World} {K : PySem.W.Frag} {mg : Str → Option Value} {base : Heap}
/-! ### what is allowed: the law's own -/
theorem wish_row {H : Hp} {p : Addr} {r : List Int} (h : H p = some (.tup (r.map V.int))) : Tk H (.ref p) (rowD r) := .tup h (TkAll.ints r)
def sp_fits (K : PySem.W.Frag) : Sp := fun vs H Q _ => ∃ (wa c : Addr) (m : Nat) (bs : List Bool) (x : V) (p : List Nat) (a b : List Int), vs = [.ref wa, .str (SX.S p), .ref c] ∧ H wa = some (.tup [.int m, .str (tabOf bs), x]) ∧ bs.length = 2 ^ m ∧ ProdOk m p ∧ ChAt H c a b ∧ ChOk m a b ∧ ∀ H', Same H H' → Q (.bl (atM bs p a b)) H'
theorem ok_fits (T : Tx K mg) : FnOk P w K mg base CX0 2 T.f_fits T.fd_fits ["_law_wish_here", "_law_product_here", "_law_change_here"] (sp_fits K) := by
  refine T.F_fits.ok sc_fits (fun vs H Q E h => ?_) (fun cdv A outer s H vs Q E hr h => ?_)
  · obtain ⟨wa, c, m, bs, x, p, a, b, rfl, _⟩ := h
    rfl
  · obtain ⟨wa, c, m, bs, x, p, a, b, rfl, hw, lb, okp, ⟨ra, rb, hc, ha, hb⟩, ok, q⟩ := h
    refine ⟨_, (pss_cons (ps_if (pt_not (pt_val (pe_call (ok_meets T) (hr.mono (by decide)) (by rfl) T.g_meets T.F_meets.kp T.b_meets .nil pass0 (pa_cons (pv 1) (pa_cons (pe_call (ok_cube T) (hr.mono (by decide)) (by rfl) T.g_cube T.F_cube.kp T.b_cube .nil pass0 (pa_cons (pe_ix ix_tup (pv 2) pe_int (fun _ _ => rfl)) (pa_cons (pe_ix ix_tup (pv 2) pe_int (fun _ _ => rfl)) pa_nil))) pa_nil))))) (pss_one (ps_ret pe_bl)) pss_nil) (pss_cons (ps_setLc (i := 3) (own := [("_law_row", 4)]) (by rfl) sc_fits.nd rfl rfl (sw_true rfl rfl rfl (by decide +kernel)) (pi_tup (pv 2)) (blkOk_by (own := [("_law_row", 4)]) (N := ["_law_wish_here", "_law_product_here", "_law_change_here", "_law_bright", "_law_row"]) (sc := defScope s_fits) (by decide +kernel)) (fun _ _ _ _ _ => (pg_name (i := 4) sc_fits.nd rfl (by first | exact .inl rfl | exact .inr rfl))) (fun _ _ _ _ _ => (pts_one (pt_cmpR op_eq (pe_call (ok_worth T) (hr.mono (by decide)) (by rfl) T.g_worth T.F_worth.kp T.b_worth .nil pass0 (pa_cons (pv 0) (pa_cons (pv 4) pa_nil))) pe_int (nomark _)))) (fun _ _ _ _ _ => (pv 4))) (pss_cons (ps_if (pt_cmpR op_eq (pe_callB call_len_seq (by rfl) T.m_len PySem.boot_len (pa_cons (pv 3) pa_nil)) pe_int (nomark _)) (pss_one (ps_ret pe_bl)) pss_nil) (pss_one (ps_ret (pe_and (pe_cmpR (NeL.op_neN hr.units) (pv 3) (pe_lst pa_nil) (nomark _)) (pe_one (pe_call (ok_holds T) (hr.mono (by decide)) (by rfl) T.g_holds T.F_holds.kp T.b_holds .nil pass0 (pa_cons (pv 1) (pa_cons (pe_ix ix_list (pv 3) pe_int (fun _ _ => rfl)) pa_nil)))))))))), ?_⟩
    have m6 := ok.m6
    refine ⟨.str (SX.S p), rfl, .ref c, rfl, c, _, _, .ref ra, rfl, rfl, SqT.of hc, rfl, .ref c, rfl, c, _, _, .ref rb, rfl, rfl, SqT.of hc, rfl, m, ra, rb, a, b, rfl, ha, hb, ok.oa, ok.la, ok.lb, m6, fun H1 s1 => ?_⟩
    refine ⟨m, p, cubeM a b, rfl, okp.1, cube_len ok, m6, fun H2 s2 => ⟨_, rfl, ite2 (fun e => ?_) (fun e => ?_)⟩⟩
    · have z := q H2 (s1.trans s2)
      unfold atM at z
      rw [show (!meetM p (cubeM a b)) = true from e, Bool.or_true] at z
      exact z
    have em : (!meetM p (cubeM a b)) = false := Bool.eq_false_iff.mpr e
    have s12 := s1.trans s2
    have hc2 := s12 _ _ hc
    refine ⟨.ref c, rfl, c, rfl, ⟨_, SqT.of hc2⟩, fun L nL => ?_⟩
    have tx : TkAll H2 [V.ref ra, .ref rb] (([a, b]).map rowD) := .cons (wish_row (s12 _ _ ha)) (.cons (wish_row (s12 _ _ hb)) .nil)
    refine lc_tup (K := K) (a := c) (xs := [V.ref ra, .ref rb]) (fun j H' => Same H2 (hd1 L H') ∧ ∃ ys, H' L = some (.lst ys) ∧ TkAll (hd1 L H') ys ((([a, b].take j).filter (oneB bs)).map rowD)) ⟨hd1_of (same_upd nL) nL, [], upd_same, .nil⟩ (fun j H' _ z => SqT.of (hd1_le _ _ (z.1 _ _ hc2))) ?_ ?_
    · rintro j v H3 hv ⟨s3, ys, hL, ty⟩
      obtain ⟨r, hr', tr⟩ := tx.at hv
      obtain ⟨t, rfl, ht⟩ := tr.row_inv
      obtain ⟨lr, or⟩ := ch_rows ok r (List.mem_of_getElem? hr')
      refine ⟨rfl, .ref wa, rfl, .ref t, rfl, wa, t, m, bs, x, r, rfl, hd1_le _ _ (s3 _ _ (s12 _ _ hw)), hd1_le _ _ (s3 _ _ ht), or, lr, m6, lb, rfl, _, rfl, ?_⟩
      have et : ([a, b].take (j + 1)).filter (oneB bs) = ([a, b].take j).filter (oneB bs) ++ (if oneB bs r = true then [r] else []) := by
        rw [List.take_add_one, hr', List.filter_append]
        congr 1
        show List.filter _ [r] = _
        rw [List.filter_cons, List.filter_nil]
      have ly := ty.length
      rw [List.length_map] at ly
      have l2 := List.length_filter_le (oneB bs) ([a, b].take j)
      have l3 : ([a, b].take j).length ≤ 2 := by rw [List.length_take]; exact Nat.min_le_right _ _
      have eo : decide (V.int (gateM bs r) = V.int 1) = oneB bs r := int_dec _ _
      refine ite2 (fun e => ?_) (fun e => ?_)
      · have e1 := eo.symm.trans e
        refine ⟨.ref t, rfl, ys, hL, Nat.lt_of_lt_of_le (show _ < 128 by omega) (by decide), s3.trans hd1_upd, ys ++ [V.ref t], upd_same, ?_⟩
        rw [et, if_pos e1, List.map_append]
        exact (ty.same hd1_upd).append (.cons ((tr.same s3).same hd1_upd) .nil)
      · have e1 : ¬ oneB bs r = true := fun z => e (eo.trans z)
        refine ⟨s3, ys, hL, ?_⟩
        rw [et, if_neg e1, List.append_nil]
        exact ty
    rintro H3 ⟨s3, ys, hL, ty⟩
    have s13 : Same H H3 := s12.trans fun b o e => hd1_le _ _ (s3 _ _ e)
    replace ty : TkAll H3 ys (([a, b].filter (oneB bs)).map rowD) := ty.same hd1_le
    have lx := ty.length
    rw [List.length_map] at lx
    have okf : ∀ r ∈ [a, b].filter (oneB bs), r.length = m ∧ Row01' r := fun r hr => ch_rows ok r (List.mem_filter.mp hr).1
    have e2 := ones_two bs a b
    have ea := ones_any bs p a b
    have el : ([a, b].filter (oneB bs)).length ≤ 2 := List.length_filter_le _ _
    revert lx ty okf e2 ea el
    generalize [a, b].filter (oneB bs) = fs
    intro ty lx okf e2 ea el
    refine ⟨.ref L, rfl, L, ys, rfl, .inl (SqL.of hL), rfl, _, rfl, ite2 (fun e => ?_) (fun e => ?_)⟩
    · have e' : (oneB bs a && oneB bs b) = true := by
        rw [← e2, ← lx]
        have z : (ys.length : Int) = 2 := V.int.inj (of_decide_eq_true e)
        exact decide_eq_true (by omega)
      have z := q H3 s13
      unfold atM at z
      rw [e', Bool.true_or, Bool.true_or, Bool.true_or] at z
      exact z
    have e' : (oneB bs a && oneB bs b) = false := by
      rw [← e2, ← lx]
      refine decide_eq_false fun z => e (decide_eq_true ?_)
      show V.int (ys.length : Int) = V.int 2
      rw [z]
      rfl
    have ez : atM bs p a b = fs.any (fun r => hrow p r) := by
      unfold atM
      rw [e', Bool.false_or, em, Bool.or_false, ea]
    have n2 : fs.length ≠ 2 := fun z => by rw [decide_eq_true z] at e2; rw [e'] at e2; cases e2
    refine ⟨.ref L, rfl, Nat.zero_le _, fun e0 ne0 => ?_⟩
    have s4 := same_upd (o := HO.lst []) ne0
    refine ⟨L, e0, ys, rfl, rfl, SqL.of (s4 _ _ hL), SqL.of upd_same, ?_⟩
    cases ys with
    | nil =>
      refine ⟨_, rfl, iteF ?_⟩
      have z := q _ (s13.trans s4)
      rw [ez] at z
      cases fs with
      | nil => exact z
      | cons _ _ => cases lx
    | cons v rest =>
      refine ⟨_, rfl, iteT ?_⟩
      match fs, lx, n2, el with
      | [r], lx, _, _ =>
        obtain ⟨t, r', rfl, hr', ht⟩ := Tk.row_at (ty.same s4) (j := 0) (v := v) rfl
        cases Option.some.inj hr'
        obtain ⟨lr, or⟩ := okf r (List.mem_singleton.mpr rfl)
        have hL4 := s4 _ _ hL
        refine ⟨.str (SX.S p), rfl, .ref L, rfl, L, _, 0, .ref t, rfl, rfl, SqL.of hL4, atI_nat (j := 0) rfl, m, p, t, r, rfl, okp.1, ht, or, lr, m6, fun H5 s5 => ?_⟩
        have z := q H5 ((s13.trans s4).trans s5)
        rw [ez] at z
        simpa using z
      | _ :: _ :: _, _, n2, el =>
        exfalso
        simp only [List.length_cons] at n2 el
        omega
theorem rows_UI : ((List.range 7).all fun m => decide (rowsU m = rowsI m)) = true := by decide +kernel
theorem rowsUI {m : Nat} (h : m ≤ 6) : rowsU m = rowsI m := of_decide_eq_true (List.all_eq_true.mp rows_UI m (List.mem_range.mpr (by omega)))
theorem idx_none {α : Type} {l : List α} {f : α → Bool} : (l.findIdx? fun c => !f c).isNone = l.all f := by
  cases h : l.findIdx? fun c => !f c with
  | none =>
    have := List.findIdx?_eq_none_iff.mp h
    refine (List.all_eq_true.mpr fun x hx => ?_).symm
    simpa using this x hx
  | some i =>
    obtain ⟨hi, e, _⟩ := List.findIdx?_eq_some_iff_getElem.mp h
    refine (Bool.eq_false_iff.mpr fun z => ?_).symm
    have := List.all_eq_true.mp z _ (List.getElem_mem hi)
    rw [this] at e
    cases e
theorem why_isNone (m : Nat) (bs : List Bool) (cs : List Ch) (p : List Nat) : (whyM m bs cs p).isNone = ((((rowsI m).zip bs).find? (hit p)).isNone && cs.all fun c => atM bs p c.1 c.2) := by
  rw [← idx_none]
  unfold whyM hit
  cases ((rowsI m).zip bs).find? fun z => !z.2 && hrow p z.1 with
  | some z => rfl
  | none =>
    rw [Option.isNone_map]
    rfl
def sp_allowed (K : PySem.W.Frag) : Sp := fun vs H Q _ => ∃ (wa : Addr) (m : Nat) (bs : List Bool) (cs : List Ch) (p : List Nat), vs = [.ref wa, .str (SX.S p)] ∧ Tk H (.ref wa) (wishD m bs cs) ∧ WishOk m bs cs ∧ ProdOk m p ∧ ∀ H', Same H H' → Q (.bl (whyM m bs cs p).isNone) H'
theorem ok_allowed (T : Tx K mg) : FnOk P w K mg base CX0 3 T.f_allowed T.fd_allowed ["_law_wish_here", "_law_product_here"] (sp_allowed K) := by
  refine T.F_allowed.ok sc_allowed (fun vs H Q E h => ?_) (fun cdv A outer s H vs Q E hr h => ?_)
  · obtain ⟨wa, m, bs, cs, p, rfl, _⟩ := h
    rfl
  · obtain ⟨wa, m, bs, cs, p, rfl, tw, ok, okp, q⟩ := h
    obtain ⟨_, t, xs, e, hw, ht, tx⟩ := tw.wish_inv
    cases e
    have m1 := ok.m1
    have m4 := ok.m4
    have lb := ok.lb
    rw [why_isNone] at q
    refine ⟨_, (pss_cons (ps_for PassesOwn.never rfl (pi_enum (by rfl) T.m_enumerate (pa_cons (pe_call (ok_rows T) (hr.mono (by decide)) (by rfl) T.g_rows T.F_rows.kp T.b_rows .nil pass0 (pa_cons (pe_ix ix_tup (pv 0) pe_int (fun _ _ => rfl)) pa_nil)) pa_nil)) (pg_tup rfl (pgs_cons (pg_name (i := 2) sc_allowed.nd rfl (by first | exact .inl rfl | exact .inr rfl)) (pgs_cons (pg_name (i := 3) sc_allowed.nd rfl (by first | exact .inl rfl | exact .inr rfl)) pgs_nil))) (pss_one (ps_if (pw_and (pt_cmpR op_eq (pe_item_str (pe_ix ix_tup (pv 0) pe_int (fun _ _ => rfl)) (pv 2) (fun _ _ => rfl)) pe_str (nomark _)) (pw_and1 (pt_val (pe_call (ok_holds T) (hr.mono (by decide)) (by rfl) T.g_holds T.F_holds.kp T.b_holds .nil pass0 (pa_cons (pv 1) (pa_cons (pv 3) pa_nil)))))).pt (pss_one (ps_ret pe_bl)) pss_nil))) (pss_one (ps_ret (pe_cmpR (NeL.op_eqN hr.units) (pe_lc (own := [("_law_change_here", 4)]) (by rfl) sc_allowed.nd (pi_tup (pe_ix ix_tup (pv 0) pe_int (fun _ _ => rfl))) (blkOk_by (own := [("_law_change_here", 4)]) (N := ["_law_wish_here", "_law_product_here", "_law_k", "_law_row", "_law_change_here"]) (sc := defScope s_allowed) (by decide +kernel)) (fun _ _ _ _ _ => (pg_name (i := 4) sc_allowed.nd rfl (by first | exact .inl rfl | exact .inr rfl))) (fun _ _ _ _ _ => (pts_one (pt_not (pt_val (pe_call (ok_fits T) (hr.mono (by decide)) (by rfl) T.g_fits T.F_fits.kp T.b_fits .nil pass0 (pa_cons (pv 0) (pa_cons (pv 1) (pa_cons (pv 4) pa_nil)))))))) (fun _ _ _ _ _ => (pv 4))) (pe_lst pa_nil) (nomark _))))), ?_⟩
    refine ⟨.ref wa, rfl, wa, _, _, .int m, rfl, rfl, SqT.of hw, rfl, m, rfl, m1, by omega, fun r H1 nr s1 tr => ?_⟩
    obtain ⟨_, rs, e, hr1, trs⟩ := tr.lst_inv
    cases e
    rw [rowsUI (by omega)] at trs
    have lrs : rs.length = 2 ^ m := by
      have := trs.length
      rw [List.length_map] at this
      rw [this, rowsI_len (by omega)]
    refine ⟨r, rs, rfl, SqL.of hr1, ?_⟩
    refine for_enumL (K := K) (a := r) (xs := rs) (fun j σ H' => ∃ y2 y3, σ = [some (.ref wa), some (.str (SX.S p)), y2, y3, none] ∧ Same H1 H' ∧ (((rowsI m).zip bs).take j).find? (hit p) = none) ⟨_, _, rfl, Same.refl _, rfl⟩ (fun j σ H' _ ⟨_, _, _, g, _⟩ => SqL.of (g _ _ hr1)) ?_ ?_
    · rintro j x Tq σ H2 hx nT ⟨y2, y3, rfl, g, ih⟩
      obtain ⟨ra, rw', rfl, hrw, hra⟩ := Tk.row_at trs hx
      have hj := (List.getElem?_eq_some_iff.mp hx).1
      have l64 : 2 ^ m ≤ 64 := Nat.pow_le_pow_right (by decide) (show m ≤ 6 by omega)
      have hb : bs[j]? = some (bs[j]'(by omega)) := List.getElem?_eq_getElem _
      obtain ⟨lr, or⟩ := rowsI_ok (by omega) rw' (List.mem_of_getElem? hrw)
      have ez := zip_take_succ hrw hb
      have sT := same_upd (o := HO.tup [.int (j : Nat), .ref ra]) nT
      have gT := g.trans sT
      have hw2 := gT _ _ (s1 _ _ hw)
      refine ⟨Tq, _, rfl, SqT.of upd_same, rfl, _, _, rfl, _, _, rfl, rfl, ?_⟩
      have tc : (tabOf bs).cps[(((j : Nat) : Int)).toNat]? = some (bitS bs[j]) := tab_cps (by omega)
      refine ⟨.ref wa, rfl, wa, _, _, .str (tabOf bs), rfl, rfl, SqT.of hw2, rfl, .int (j : Nat), rfl, tabOf bs, ((j : Nat) : Int), _, rfl, rfl, by omega, by omega, by rw [tab_len]; omega, tc, rfl, _, rfl, ite2 (fun e => ?_) (fun e => ?_)⟩
      · have e1 := (bit48 bs[j]).symm.trans e
        refine ⟨.str (SX.S p), rfl, .ref ra, rfl, m, p, ra, rw', rfl, okp.1, gT _ _ hra, or, lr, by omega, fun H3 s3 => ⟨_, rfl, ite2 (fun e2 => ?_) (fun e2 => ?_)⟩⟩
        · have z := q H3 ((s1.trans gT).trans s3)
          rw [find_stop (f := hit p) ez ih (show (!bs[j] && hrow p rw') = true by rw [e1, e2]; rfl)] at z
          exact z
        · refine ⟨_, _, rfl, gT.trans s3, find_more ez ih ?_⟩
          show (!bs[j] && hrow p rw') = false
          rw [Bool.eq_false_iff.mpr e2, Bool.and_false]
      · refine iteF ⟨_, _, rfl, gT, find_more ez ih ?_⟩
        show (!bs[j] && hrow p rw') = false
        have : (!bs[j]) = false := Bool.eq_false_iff.mpr fun z => e ((bit48 _).trans z)
        rw [this, Bool.false_and]
    · rintro σ H2 ⟨y2, y3, rfl, g, ih⟩
      have ez : ((rowsI m).zip bs).length ≤ rs.length := by rw [List.length_zip]; omega
      rw [List.take_of_length_le ez] at ih
      rw [ih] at q
      have gg := s1.trans g
      have ht2 := gg _ _ ht
      have lx := tx.length
      rw [List.length_map] at lx
      have lc := ok.lc
      refine ⟨.ref wa, rfl, wa, _, _, .ref t, rfl, rfl, SqT.of (gg _ _ hw), rfl, t, rfl, ⟨_, SqT.of ht2⟩, fun L nL => ?_⟩
      refine lc_tup (K := K) (a := t) (xs := xs) (fun j H' => Same H2 (hd1 L H') ∧ ∃ ys, H' L = some (.lst ys) ∧ ys.length ≤ j ∧ ys.isEmpty = (cs.take j).all fun c => atM bs p c.1 c.2) ⟨hd1_of (same_upd nL) nL, [], upd_same, Nat.zero_le _, rfl⟩ (fun j H' _ z => SqT.of (hd1_le _ _ (z.1 _ _ ht2))) ?_ ?_
      · rintro j x H3 hx ⟨s3, ys, hL, ly, ey⟩
        obtain ⟨c, hc, tc⟩ := tx.at hx
        have hj := (List.getElem?_eq_some_iff.mp hx).1
        have s3' : Same H H3 := gg.trans fun b o e => hd1_le _ _ (s3 _ _ e)
        obtain ⟨ca, rfl, hca⟩ := ChAt.of_tk (tc.same s3')
        have okc := ok.oc c (List.mem_of_getElem? hc)
        have ec : (cs.take (j + 1)).all (fun c => atM bs p c.1 c.2) = (ys.isEmpty && atM bs p c.1 c.2) := by
          rw [List.take_add_one, hc, List.all_append, ey]
          simp
        refine ⟨rfl, .ref wa, rfl, .str (SX.S p), rfl, .ref ca, rfl, wa, ca, m, bs, _, p, c.1, c.2, rfl, s3' _ _ hw, lb, okp, hca, okc, fun H4 s4 => ⟨_, rfl, ite2 (fun e => ?_) (fun e => ?_)⟩⟩
        · have e1 : atM bs p c.1 c.2 = false := by simpa using e
          refine ⟨.ref ca, rfl, ys, s4 _ _ hL, Nat.lt_of_lt_of_le (show _ < 128 by omega) (by decide), (s3.trans (hd1_same s4)).trans hd1_upd, ys ++ [V.ref ca], upd_same, by rw [List.length_append]; exact Nat.succ_le_succ ly, ?_⟩
          rw [ec, e1, Bool.and_false]
          cases ys <;> rfl
        · have e1 : atM bs p c.1 c.2 = true := by simpa using e
          refine ⟨s3.trans (hd1_same s4), ys, s4 _ _ hL, by omega, ?_⟩
          rw [ec, e1, Bool.and_true]
      · rintro H3 ⟨s3, ys, hL, ly, ey⟩
        rw [lx, List.take_length] at ey
        refine ⟨Nat.zero_le _, fun e0 ne0 => ?_⟩
        have s4 := same_upd (o := HO.lst []) ne0
        refine ⟨L, e0, ys, rfl, rfl, SqL.of (s4 _ _ hL), SqL.of upd_same, ?_⟩
        rw [ey]
        exact q _ ((gg.trans fun b o e => hd1_le _ _ (s3 _ _ e)).trans s4)

end
end Gk

set_option Elab.async false
set_option linter.all false
set_option maxRecDepth 100000
set_option maxHeartbeats 1000000
set_option pp.maxSteps 1500
set_option pp.deepTerms false
namespace Gk
open PySem PySem.Spec PyProof.Rows L2
/-! ### tuple(x), list(x) of a text -/
namespace TSt
open PySem PySem.Spec PyProof.Rows L2
section
variable {X : Cx}
def sgs (x : PySem.Str) : List V := x.cps.toList.map fun c => V.str ⟨#[c]⟩
def rTupS : List V → Hp → VK → Prop := fun vs H Q => ∃ x : PySem.Str, vs = [.str x] ∧ x.length ≤ sizeLine ∧ ∀ p, H p = none → Q (.ref p) (upd H p (.tup (sgs x)))
def rLstS : List V → Hp → VK → Prop := fun vs H Q => ∃ x : PySem.Str, vs = [.str x] ∧ x.length ≤ sizeLine ∧ ∀ p, H p = none → p ≠ sysModules → Q (.ref p) (upd H p (.lst (sgs x)))
theorem vals_at : ∀ {xs : List V} {us : List Value}, xs.length = us.length → (∀ (j : Nat) (x : V) (u : Value), xs[j]? = some x → us[j]? = some u → RelV x u) → Vals xs us
  | [], [], _, _ => .nil
  | x :: r, u :: t, hl, h => .cons (h 0 x u rfl rfl) (vals_at (by simpa using hl) fun j a b e1 e2 => h (j + 1) a b e1 e2)
theorem sg_vals {x : PySem.Str} {acc : Array Value} (h : ItemsOf (SignAt x) acc x.cps.size) : Vals (sgs x) acc.toList := by
  obtain ⟨hs, hi⟩ := h
  refine vals_at (by unfold sgs; rw [List.length_map, Array.length_toList, Array.length_toList, hs]) fun j v u e1 e2 => ?_
  obtain ⟨c, t, hc, rfl⟩ := hi j u (by rw [Array.getElem?_toList] at e2; exact e2)
  unfold sgs at e1
  rw [List.getElem?_map, Array.getElem?_toList, hc] at e1
  cases Option.some.inj e1
  exact ⟨t, rfl⟩
theorem call_tupS (hc : X.calm = true) : CallR X (.type "tuple") rTupS := by
  intro pins s σ H vs us Q I r h
  obtain ⟨x, rfl, hz, q⟩ := h
  obtain ⟨u, rfl, ru⟩ := vals1 r
  obtain ⟨t, rfl⟩ := (show ∃ t, u = Value.str x t from ru)
  refine call_tuple_str (I.ok.hd hc) x t (fun h' tk acc kp hi => ?_) hz
  have hv := sg_vals hi
  have J := I.kept (t' := tk) kp
  refine ⟨.ref h'.objs.size, upd H h'.objs.size (.tup (sgs x)), J.laid (t' := tk) (fun b o e => Heap.get?_push_of_some _ e) (Nat.le_refl _) ⟨by unfold sgs; rw [List.length_map, Array.length_toList]; exact hz, acc.toList, hv, ?_⟩, rfl, q _ (J.hok.fresh (Nat.le_refl _))⟩
  exact ⟨_, Heap.get?_push_size _ rfl, rfl, 0, by simp⟩
theorem call_lstS (hc : X.calm = true) : CallR X (.type "list") rLstS := by
  intro pins s σ H vs us Q I r h
  obtain ⟨x, rfl, hz, q⟩ := h
  obtain ⟨u, rfl, ru⟩ := vals1 r
  obtain ⟨t, rfl⟩ := (show ∃ t, u = Value.str x t from ru)
  refine call_list_str (I.ok.hd hc) x t (hn := hz) fun h' tk acc c kp hS hi => ?_
  have hv := sg_vals hi
  refine ⟨.ref s.heap.objs.size, upd H s.heap.objs.size (.lst (sgs x)), I.laid (t' := tk) kp (Nat.le_refl _) ⟨by unfold sgs; rw [List.length_map, Array.length_toList]; exact hz, acc.toList, c, hv, by simpa using hS⟩, rfl, q _ (I.hok.fresh (Nat.le_refl _)) (Nat.ne_of_gt I.big)⟩
end
end TSt

section
variable {P : Program} {w : World} {K : PySem.W.Frag} {mg : Str → Option Value} {base : Heap}
theorem cut_S1 {cs : List Nat} {h : Nat} (hl : h ≤ cs.length) : cutS (SX.S cs) none (some (h : Int)) = SX.S (cs.take h) := by
  unfold cutS
  rw [SX.S_len, HT.sIx_none, HT.sIx_nat, Nat.min_eq_left hl]
  show (⟨(((SX.S cs).cps.toList.drop 0).take (h - 0)).toArray⟩ : Str) = _
  rw [List.drop_zero, Nat.sub_zero]
theorem cut_S2 {cs : List Nat} {h : Nat} (hl : h ≤ cs.length) : cutS (SX.S cs) (some (h : Int)) none = SX.S (cs.drop h) := by
  unfold cutS
  rw [SX.S_len, HT.sIx_none, HT.sIx_nat, Nat.min_eq_left hl]
  show (⟨((cs.drop h).take (cs.length - h)).toArray⟩ : Str) = _
  rw [List.take_of_length_le (by rw [List.length_drop]; exact Nat.le_refl _)]

/-! ### odd things -/
theorem s2_S : Str.ofString "2" = SX.S [50] := by decide +kernel
theorem sp_S : Str.ofString " " = SX.S [32] := by decide +kernel
theorem se_S : Str.ofString "" = SX.S [] := by decide +kernel
theorem Od.same {H H' : Hp} (g : Same H H') {v : V} {z : Option (List Nat)} (h : Od H v z) : Od H' v z := h.gr (Gr.of g)
def Bad (H : Hp) (m : Nat) (v : V) : Prop := ∃ z, Od H v z ∧ isOd m z = false
theorem Bad.gr {H H' : Hp} {m : Nat} {v : V} (h : Bad H m v) (g : Gr H H') : Bad H' m v := by
  obtain ⟨z, o, e⟩ := h
  exact ⟨z, o.gr g, e⟩
theorem bad_len {H : Hp} {m : Nat} {p : List Nat} (l : p.length ≤ 64) (h : p.length ≠ m) : Bad H m (.str (SX.S p)) := ⟨_, .str p l, by
  show (decide (p.length = m) && _) = false
  rw [decide_eq_false h, Bool.false_and]⟩
theorem bad_sign {H : Hp} {m : Nat} {p : List Nat} {c : Nat} (l : p.length ≤ 64) (h : c ∈ p) (n : ¬ SgOk c) : Bad H m (.str (SX.S p)) := ⟨_, .str p l, by
  show (_ && p.all sgB) = false
  have : p.all sgB = false := Bool.eq_false_iff.mpr fun z => n (sgB_iff.mp (List.all_eq_true.mp z c h))
  rw [this, Bool.and_false]⟩
def sp_odd (K : PySem.W.Frag) : Sp := fun vs H Q _ => ∃ (d l wa : Addr) (n : Int) (m : Nat) (bs : List Bool) (cs : List Ch), vs = [.ref d, .ref wa] ∧ DeckG H d l n ∧ n < 900000000 ∧ Tk H (.ref wa) (wishD m bs cs) ∧ WishOk m bs cs ∧ ∀ r xs H', DeckG H' d l (n + 14) → Fr d l H H' → H' r = some (.lst xs) → (∀ x ∈ xs, Bad H' m x) → xs.length ≤ 64 → Q (.ref r) H'
theorem ok_odd (T : Tx K mg) : FnOk P w K mg base CX0 3 T.f_odd T.fd_odd ["_law_deck_here", "_law_wish_here"] (sp_odd K) := by
  refine T.F_odd.ok sc_odd (fun vs H Q E h => ?_) (fun cdv A outer s H vs Q E hr h => ?_)
  · obtain ⟨d, l, wa, n, m, bs, cs, rfl, _⟩ := h
    rfl
  · obtain ⟨d, l, wa, n, m, bs, cs, rfl, D, hn, tw, ok, q⟩ := h
    obtain ⟨_, tt, xs, e, hw, ht, tx⟩ := tw.wish_inv
    cases e
    have m1 := ok.m1
    have m4 := ok.m4
    refine ⟨_, (pss_cons (ps_set (i := 2) sc_odd.nd rfl (by first | exact .inl rfl | exact .inr rfl) (pe_call (ok_product T) (hr.mono (by decide)) (by rfl) T.g_product T.F_product.kp T.b_product .nil pass0 (pa_cons (pv 0) (pa_cons (pe_ix ix_tup (pv 1) pe_int (fun _ _ => rfl)) pa_nil)))) (pss_cons (ps_set (i := 3) sc_odd.nd rfl (by first | exact .inl rfl | exact .inr rfl) (pe_call (ok_next T) (hr.mono (by decide)) (by rfl) T.g_next T.F_next.kp T.b_next .nil pass0 (pa_cons (pv 0) (pa_cons (pe_ix ix_tup (pv 1) pe_int (fun _ _ => rfl)) pa_nil)))) (pss_cons (ps_set (i := 4) sc_odd.nd rfl (by first | exact .inl rfl | exact .inr rfl) (pe_lst (pa_cons pe_non (pa_cons pe_int (pa_cons pe_bl (pa_cons pe_str (pa_cons (pe_op op_add_str (pv 2) pe_str) (pa_cons (pe_slice sl_str (pv 2) (po_some pe_int) po_none) (pa_cons (pe_op op_add_str (pe_op op_add_str (pe_slice sl_str (pv 2) po_none (po_some (pv 3))) pe_str) (pe_slice sl_str (pv 2) (po_some (pe_op op_add (pv 3) pe_int)) po_none)) (pa_cons (pe_op op_add_str (pe_op op_add_str (pe_slice sl_str (pv 2) po_none (po_some (pv 3))) pe_str) (pe_slice sl_str (pv 2) (po_some (pe_op op_add (pv 3) pe_int)) po_none)) (pa_cons (pe_lst pa_nil) (pa_cons pe_dnewK pa_nil)))))))))))) (pss_one (ps_ret (pe_op op_cat (pv 4) (pe_lst (pa_cons (pe_callTy (TSt.call_tupS rfl) (by rfl) T.m_tuple (by decide +kernel) (pa_cons (pv 2) pa_nil)) (pa_cons (pe_callTy (TSt.call_lstS rfl) (by rfl) T.m_list (by decide +kernel) (pa_cons (pv 2) pa_nil)) (pa_cons (pe_tup (pa_cons (pv 2) pa_nil)) (pa_cons (pe_lst (pa_cons (pv 2) pa_nil)) (pa_cons (pe_op op_add_str (pv 2) (pv 2)) (pa_cons (pe_op op_repS pe_str (pe_op op_add (pe_ix ix_tup (pv 1) pe_int (fun _ _ => rfl)) pe_int)) (pa_cons (pe_op op_pow pe_int pe_int) pa_nil)))))))))))))), ?_⟩
    refine ⟨.ref d, rfl, .ref wa, rfl, wa, _, _, .int m, rfl, rfl, SqT.of hw, rfl, d, l, n, m, rfl, D, by omega, by omega, fun p H1 D1 fr1 okp => ?_⟩
    have ts1 := Ts.frG D fr1
    have hw1 := ts1 _ _ hw
    refine ⟨.ref d, rfl, .ref wa, rfl, wa, _, _, .int m, rfl, rfl, SqT.of hw1, rfl, d, l, m, _, rfl, D1, by omega, by omega, by omega, fun H2 at_ D2 fr2 a0 a1 => ?_⟩
    have hw2 := (Ts.frG D1 fr2) _ _ hw1
    obtain ⟨k, rfl⟩ := Int.eq_ofNat_of_zero_le a0
    have lp := okp.1
    have hk : k < p.length := by omega
    have pS : (SX.S p).length ≤ sizeLine := by rw [SX.S_len]; exact Nat.le_trans (show p.length ≤ 64 by omega) (by decide)
    have fit : ∀ a b : List Nat, a.length + b.length ≤ 64 → (SX.S a).length + (SX.S b).length ≤ sizeLine := fun a b h => by
      rw [SX.S_len, SX.S_len]
      exact Nat.le_trans h (by decide)
    first | (show (_ : L2.St → Hp → Prop) [some (.ref d), some (.ref wa), some (.str (SX.S p)), some (.int (k : Nat)), none] H2) | (unfold gName; show (_ : L2.St → Hp → Prop) [some (.ref d), some (.ref wa), some (.str (SX.S p)), some (.int (k : Nat)), none] H2) | (dsimp only; show (_ : L2.St → Hp → Prop) [some (.ref d), some (.ref wa), some (.str (SX.S p)), some (.int (k : Nat)), none] H2) | (dsimp only [gName]; show (_ : L2.St → Hp → Prop) [some (.ref d), some (.ref wa), some (.str (SX.S p)), some (.int (k : Nat)), none] H2)
    refine ⟨.str (SX.S p), rfl, _, _, rfl, rfl, by rw [dash_S]; exact fit p [45] (by show p.length + 1 ≤ 64; omega), ?_⟩
    rw [show SX.S p ++ Str.ofString "-" = SX.S (p ++ [45]) by rw [dash_S]; exact S_app p [45]]
    refine ⟨.str (SX.S p), rfl, 1, rfl, SX.S p, rfl, pS, ?_⟩
    rw [show cutS (SX.S p) (some 1) none = SX.S (p.drop 1) from cut_S2 (h := 1) (by omega)]
    refine ⟨.str (SX.S p), rfl, .int (k : Nat), rfl, (k : Int), rfl, SX.S p, rfl, pS, ?_⟩
    rw [cut_S1 (Nat.le_of_lt hk)]
    have l1 : (p.take k ++ [50]).length ≤ 5 := by rw [List.length_append, List.length_take]; show _ + 1 ≤ 5; omega
    have l1' : (p.take k ++ [32]).length ≤ 5 := by rw [List.length_append, List.length_take]; show _ + 1 ≤ 5; omega
    have l2 : (p.drop (k + 1)).length ≤ 5 := by rw [List.length_drop]; omega
    refine ⟨_, _, rfl, rfl, by rw [s2_S]; exact fit _ [50] (by rw [List.length_take]; show _ + 1 ≤ 64; omega), ?_⟩
    rw [show SX.S (p.take k) ++ Str.ofString "2" = SX.S (p.take k ++ [50]) by rw [s2_S]; exact S_app _ _]
    refine ⟨.str (SX.S p), rfl, .int (k : Nat), rfl, _, _, rfl, rfl, ((k + 1 : Nat) : Int), rfl, SX.S p, rfl, pS, ?_⟩
    rw [cut_S2 hk]
    refine ⟨_, _, rfl, rfl, fit _ _ (Nat.le_trans (Nat.add_le_add l1 l2) (by decide)), ?_⟩
    rw [S_app]
    refine ⟨.str (SX.S p), rfl, .int (k : Nat), rfl, (k : Int), rfl, SX.S p, rfl, pS, ?_⟩
    rw [cut_S1 (Nat.le_of_lt hk)]
    refine ⟨_, _, rfl, rfl, by rw [sp_S]; exact fit _ [32] (by rw [List.length_take]; show _ + 1 ≤ 64; omega), ?_⟩
    rw [show SX.S (p.take k) ++ Str.ofString " " = SX.S (p.take k ++ [32]) by rw [sp_S]; exact S_app _ _]
    refine ⟨.str (SX.S p), rfl, .int (k : Nat), rfl, _, _, rfl, rfl, ((k + 1 : Nat) : Int), rfl, SX.S p, rfl, pS, ?_⟩
    rw [cut_S2 hk]
    refine ⟨_, _, rfl, rfl, fit _ _ (Nat.le_trans (Nat.add_le_add l1' l2) (by decide)), ?_⟩
    rw [S_app]
    refine ⟨Nat.zero_le _, fun b1 nb1 => ?_⟩
    have s3 := same_upd (o := (HO.lst [])) nb1
    have h3 : upd H2 b1 (HO.lst []) b1 = some (HO.lst []) := upd_same
    generalize upd H2 b1 (HO.lst []) = H3 at s3 h3 ⊢
    refine fun b2 nb2 => ?_
    have s4 := same_upd (o := (HO.dK [])) nb2
    have h4 : upd H3 b2 (HO.dK []) b2 = some (HO.dK []) := upd_same
    generalize upd H3 b2 (HO.dK []) = H4 at s4 h4 ⊢
    refine ⟨(show 10 ≤ sizeLine by decide), fun L nL => ?_⟩
    have s5 := same_upd (o := (HO.lst [.non, .int 7, .bl true, .str (Str.ofString ""), .str (SX.S (p ++ [45])), .str (SX.S (p.drop 1)), .str (SX.S (p.take k ++ [50] ++ p.drop (k + 1))), .str (SX.S (p.take k ++ [32] ++ p.drop (k + 1))), .ref b1, .ref b2])) nL
    have h5 : upd H4 L (HO.lst [.non, .int 7, .bl true, .str (Str.ofString ""), .str (SX.S (p ++ [45])), .str (SX.S (p.drop 1)), .str (SX.S (p.take k ++ [50] ++ p.drop (k + 1))), .str (SX.S (p.take k ++ [32] ++ p.drop (k + 1))), .ref b1, .ref b2]) L = some (HO.lst [.non, .int 7, .bl true, .str (Str.ofString ""), .str (SX.S (p ++ [45])), .str (SX.S (p.drop 1)), .str (SX.S (p.take k ++ [50] ++ p.drop (k + 1))), .str (SX.S (p.take k ++ [32] ++ p.drop (k + 1))), .ref b1, .ref b2]) := upd_same
    generalize upd H4 L (HO.lst [.non, .int 7, .bl true, .str (Str.ofString ""), .str (SX.S (p ++ [45])), .str (SX.S (p.drop 1)), .str (SX.S (p.take k ++ [50] ++ p.drop (k + 1))), .str (SX.S (p.take k ++ [32] ++ p.drop (k + 1))), .ref b1, .ref b2]) = H5 at s5 h5 ⊢
    first | (show (_ : L2.St → Hp → Prop) [some (.ref d), some (.ref wa), some (.str (SX.S p)), some (.int (k : Nat)), some (.ref L)] H5) | (unfold gName; show (_ : L2.St → Hp → Prop) [some (.ref d), some (.ref wa), some (.str (SX.S p)), some (.int (k : Nat)), some (.ref L)] H5) | (dsimp only; show (_ : L2.St → Hp → Prop) [some (.ref d), some (.ref wa), some (.str (SX.S p)), some (.int (k : Nat)), some (.ref L)] H5) | (dsimp only [gName]; show (_ : L2.St → Hp → Prop) [some (.ref d), some (.ref wa), some (.str (SX.S p)), some (.int (k : Nat)), some (.ref L)] H5)
    refine ⟨.ref L, rfl, .str (SX.S p), rfl, SX.S p, rfl, pS, fun b3 nb3 => ?_⟩
    have s6 := same_upd (o := (HO.tup (TSt.sgs (SX.S p)))) nb3
    have h6 : upd H5 b3 (HO.tup (TSt.sgs (SX.S p))) b3 = some (HO.tup (TSt.sgs (SX.S p))) := upd_same
    generalize upd H5 b3 (HO.tup (TSt.sgs (SX.S p))) = H6 at s6 h6 ⊢
    refine ⟨.str (SX.S p), rfl, SX.S p, rfl, pS, fun b4 nb4 _ => ?_⟩
    have s7 := same_upd (o := (HO.lst (TSt.sgs (SX.S p)))) nb4
    have h7 : upd H6 b4 (HO.lst (TSt.sgs (SX.S p))) b4 = some (HO.lst (TSt.sgs (SX.S p))) := upd_same
    generalize upd H6 b4 (HO.lst (TSt.sgs (SX.S p))) = H7 at s7 h7 ⊢
    refine ⟨.str (SX.S p), rfl, sl1, fun b5 nb5 => ?_⟩
    have s8 := same_upd (o := (HO.tup [.str (SX.S p)])) nb5
    have h8 : upd H7 b5 (HO.tup [.str (SX.S p)]) b5 = some (HO.tup [.str (SX.S p)]) := upd_same
    generalize upd H7 b5 (HO.tup [.str (SX.S p)]) = H8 at s8 h8 ⊢
    refine ⟨.str (SX.S p), rfl, sl1, fun b6 nb6 => ?_⟩
    have s9 := same_upd (o := (HO.lst [.str (SX.S p)])) nb6
    have h9 : upd H8 b6 (HO.lst [.str (SX.S p)]) b6 = some (HO.lst [.str (SX.S p)]) := upd_same
    generalize upd H8 b6 (HO.lst [.str (SX.S p)]) = H9 at s9 h9 ⊢
    refine ⟨.str (SX.S p), rfl, .str (SX.S p), rfl, _, _, rfl, rfl, fit p p (by omega), ?_⟩
    rw [S_app]
    have s29 := ((((((s3.trans s4).trans s5).trans s6).trans s7).trans s8).trans s9)
    refine ⟨.ref wa, rfl, wa, _, _, .int m, rfl, rfl, SqT.of (s29 _ _ hw2), rfl, _, _, rfl, rfl, Str.ofString "-", ((m + 1 : Nat) : Int), rfl, rfl, (by rw [dash_S]; decide), by omega, by omega, ?_⟩
    rw [dash_S, mul_dash (m := m + 1) (by omega) (by omega)]
    refine ⟨_, _, rfl, rfl, ⟨by decide, by decide, by decide⟩, ?_⟩
    dsimp only
    refine ⟨(show 7 ≤ sizeLine by decide), fun M nM => ?_⟩
    have sA := same_upd (o := (HO.lst [.ref b3, .ref b4, .ref b5, .ref b6, .str (SX.S (p ++ p)), .str (SX.S (List.replicate (m + 1) 45)), .int (10 ^ (39 : Int).toNat)])) nM
    have hA : upd H9 M (HO.lst [.ref b3, .ref b4, .ref b5, .ref b6, .str (SX.S (p ++ p)), .str (SX.S (List.replicate (m + 1) 45)), .int (10 ^ (39 : Int).toNat)]) M = some (HO.lst [.ref b3, .ref b4, .ref b5, .ref b6, .str (SX.S (p ++ p)), .str (SX.S (List.replicate (m + 1) 45)), .int (10 ^ (39 : Int).toNat)]) := upd_same
    generalize upd H9 M (HO.lst [.ref b3, .ref b4, .ref b5, .ref b6, .str (SX.S (p ++ p)), .str (SX.S (List.replicate (m + 1) 45)), .int (10 ^ (39 : Int).toNat)]) = HA at sA hA ⊢
    have s5A := (((s6.trans s7).trans s8).trans s9).trans sA
    refine ⟨L, M, _, _, rfl, rfl, s5A _ _ h5, hA, (show 17 ≤ sizeLine by decide), fun R nR => ?_⟩
    have sB := same_upd (o := (HO.lst ([.non, .int 7, .bl true, .str (Str.ofString ""), .str (SX.S (p ++ [45])), .str (SX.S (p.drop 1)), .str (SX.S (p.take k ++ [50] ++ p.drop (k + 1))), .str (SX.S (p.take k ++ [32] ++ p.drop (k + 1))), .ref b1, .ref b2] ++ [.ref b3, .ref b4, .ref b5, .ref b6, .str (SX.S (p ++ p)), .str (SX.S (List.replicate (m + 1) 45)), .int (10 ^ (39 : Int).toNat)]))) nR
    have hB : upd HA R (HO.lst ([.non, .int 7, .bl true, .str (Str.ofString ""), .str (SX.S (p ++ [45])), .str (SX.S (p.drop 1)), .str (SX.S (p.take k ++ [50] ++ p.drop (k + 1))), .str (SX.S (p.take k ++ [32] ++ p.drop (k + 1))), .ref b1, .ref b2] ++ [.ref b3, .ref b4, .ref b5, .ref b6, .str (SX.S (p ++ p)), .str (SX.S (List.replicate (m + 1) 45)), .int (10 ^ (39 : Int).toNat)])) R = some (HO.lst ([.non, .int 7, .bl true, .str (Str.ofString ""), .str (SX.S (p ++ [45])), .str (SX.S (p.drop 1)), .str (SX.S (p.take k ++ [50] ++ p.drop (k + 1))), .str (SX.S (p.take k ++ [32] ++ p.drop (k + 1))), .ref b1, .ref b2] ++ [.ref b3, .ref b4, .ref b5, .ref b6, .str (SX.S (p ++ p)), .str (SX.S (List.replicate (m + 1) 45)), .int (10 ^ (39 : Int).toNat)])) := upd_same
    generalize upd HA R (HO.lst ([.non, .int 7, .bl true, .str (Str.ofString ""), .str (SX.S (p ++ [45])), .str (SX.S (p.drop 1)), .str (SX.S (p.take k ++ [50] ++ p.drop (k + 1))), .str (SX.S (p.take k ++ [32] ++ p.drop (k + 1))), .ref b1, .ref b2] ++ [.ref b3, .ref b4, .ref b5, .ref b6, .str (SX.S (p ++ p)), .str (SX.S (List.replicate (m + 1) 45)), .int (10 ^ (39 : Int).toNat)])) = HB at sB hB ⊢
    have s2B := (s29.trans sA).trans sB
    refine q R _ HB ((D2.same s2B).mono (by omega)) ((fr1.trans fr2).trans (Fr.of s2B)) hB (fun x hx => ?_) (by show 17 ≤ 64; decide)
    have e3 := sB _ _ (sA _ _ (s9 _ _ (s8 _ _ (s7 _ _ (s6 _ _ (s5 _ _ (s4 _ _ h3)))))))
    have e4 := sB _ _ (sA _ _ (s9 _ _ (s8 _ _ (s7 _ _ (s6 _ _ (s5 _ _ h4))))))
    have e6 := sB _ _ (sA _ _ (s9 _ _ (s8 _ _ (s7 _ _ h6))))
    have e7 := sB _ _ (sA _ _ (s9 _ _ (s8 _ _ h7)))
    have e8 := sB _ _ (sA _ _ (s9 _ _ h8))
    have e9 := sB _ _ (sA _ _ h9)
    simp only [List.cons_append, List.nil_append, List.mem_cons, List.not_mem_nil, or_false] at hx
    rcases hx with rfl | rfl | rfl | rfl | rfl | rfl | rfl | rfl | rfl | rfl | rfl | rfl | rfl | rfl | rfl | rfl | rfl
    · exact ⟨_, .non, rfl⟩
    · exact ⟨_, .int _, rfl⟩
    · exact ⟨_, .bl _, rfl⟩
    · rw [se_S]; exact bad_len (by decide) (by show 0 ≠ m; omega)
    · exact bad_len (by rw [List.length_append]; show _ + 1 ≤ 64; omega) (by rw [List.length_append]; show _ + 1 ≠ m; omega)
    · exact bad_len (by rw [List.length_drop]; omega) (by rw [List.length_drop]; omega)
    · exact bad_sign (c := 50) (by rw [List.length_append]; omega) (by simp) (by unfold SgOk; omega)
    · exact bad_sign (c := 32) (by rw [List.length_append]; omega) (by simp) (by unfold SgOk; omega)
    · exact ⟨_, .lst e3, rfl⟩
    · exact ⟨_, .dic (kvs := []) e4, rfl⟩
    · exact ⟨_, .tup e6, rfl⟩
    · exact ⟨_, .lst e7, rfl⟩
    · exact ⟨_, .tup e8, rfl⟩
    · exact ⟨_, .lst e9, rfl⟩
    · exact bad_len (by rw [List.length_append]; omega) (by rw [List.length_append]; omega)
    · exact bad_len (by rw [List.length_replicate]; omega) (by rw [List.length_replicate]; omega)
    · exact ⟨_, .int _, rfl⟩

end
end Gk

set_option Elab.async false
set_option linter.all false
set_option maxRecDepth 100000
set_option maxHeartbeats 1000000
set_option pp.maxSteps 1500
set_option pp.deepTerms false
namespace Gk
open PySem PySem.Spec PyProof.Rows L2
section
variable {P : Program} {w : World} {K : PySem.W.Frag} {mg : Str → Option Value} {base : Heap}
/-! ### the law -/
def sp_law (K : PySem.W.Frag) (Ps : List Addr) : Sp := fun vs H Q _ => ∃ (a : Addr) (ns : List Int), vs = [.ref a] ∧ SqL K H a (ns.map V.int) ∧ ns.length ≤ 63 ∧ Tabs H Ps ∧ ∀ H', Q (.bl true) H'
theorem kitBB : kitB "bool" "bool" = some true := by decide +kernel
theorem alM_ok {m : Nat} {bs : List Bool} {cs : List Ch} {p : List Nat} (h : ProdOk m p) : alM m bs cs (some p) = (whyM m bs cs p).isNone := by
  show (isPr m p && _) = _
  rw [isPr_iff.mpr h, Bool.true_and]
theorem Tabs.fr {H H' : Hp} {d l : Addr} {n : Int} {Ps : List Addr} (D : DeckG H d l n) (f : Fr d l H H') (t : Tabs H Ps) : Tabs H' Ps := fun P hP => by
  obtain ⟨ps, e, z⟩ := t P hP
  obtain ⟨ne, cs, y, w, hd, hl, r⟩ := D
  exact ⟨ps, f P _ (ne_of e hd (by intro z; cases z)) (ne_of e hl (by intro z; cases z)) e, z⟩
theorem ok_law (T : Tx K mg) (B : Tb base T) : FnOk P w K mg base CX0 8 T.f_law T.fd_law ["_law_script"] (sp_law K T.tabs) := by
  refine T.F_law.ok sc_law (fun vs H Q E h => ?_) (fun cdv A outer s H vs Q E hr h => ?_)
  · obtain ⟨a, ns, rfl, _⟩ := h
    rfl
  · obtain ⟨a, ns, rfl, hS, hlen, tabs, q⟩ := h
    refine ⟨_, (pss_cons (ps_set (i := 1) sc_law.nd rfl (by first | exact .inl rfl | exact .inr rfl) (pe_call (ok_deck T) (hr.mono (by decide)) (by rfl) T.g_deck T.F_deck.kp T.b_deck .nil pass0 (pa_cons (pv 0) pa_nil))) (pss_cons (ps_for PassesOwn.never rfl (pi_range1 (by rfl) T.m_range (pa_cons pe_int pa_nil)) (pg_name (i := 2) sc_law.nd rfl (by first | exact .inl rfl | exact .inr rfl)) (pss_cons (ps_set (i := 3) sc_law.nd rfl (by first | exact .inl rfl | exact .inr rfl) (pe_call (ok_wish T) (hr.mono (by decide)) (by rfl) T.g_wish T.F_wish.kp T.b_wish .nil pass0 (pa_cons (pv 1) (pa_cons pe_int pa_nil)))) (pss_cons (ps_set (i := 4) sc_law.nd rfl (by first | exact .inl rfl | exact .inr rfl) (pe_ix ix_list (pe_lst (pa_cons pe_int (pa_cons pe_int pa_nil))) (pe_callTy call_int1 (by rfl) T.m_int (by decide +kernel) (pa_cons (pe_cmpR op_eq (pe_ix ix_tup (pv 3) pe_int (fun _ _ => rfl)) pe_int (nomark _)) pa_nil)) (fun _ _ => rfl))) (pss_cons (ps_set (i := 5) sc_law.nd rfl (by first | exact .inl rfl | exact .inr rfl) (pe_call (ok_all_products T) (hr.mono (by decide)) (by rfl) T.g_all_products T.F_all_products.kp T.b_all_products .nil pass0 (pa_cons (pe_ix ix_tup (pv 3) pe_int (fun _ _ => rfl)) pa_nil))) (pss_cons (ps_for PassesOwn.never rfl (pi_list (SlSt.pe_sliceSt (pv 5) (po_some (pe_op op_mul (pv 2) (pe_callTy call_int1 (by rfl) T.m_int (by decide +kernel) (pa_cons (pe_cmpR op_eq (pe_ix ix_tup (pv 3) pe_int (fun _ _ => rfl)) pe_int (nomark _)) pa_nil)))) (po_some (pv 4)))) (pg_name (i := 6) sc_law.nd rfl (by first | exact .inl rfl | exact .inr rfl)) (pss_cons (ps_set (i := 7) sc_law.nd rfl (by first | exact .inl rfl | exact .inr rfl) (pe_call (ok_allowed T) (hr.mono (by decide)) (by rfl) T.g_allowed T.F_allowed.kp T.b_allowed .nil pass0 (pa_cons (pv 3) (pa_cons (pv 6) pa_nil)))) (pss_one (ps_for PassesOwn.never rfl (pi_range1 (by rfl) T.m_range (pa_cons pe_int pa_nil)) (pg_name (i := 8) sc_law.nd rfl (by first | exact .inl rfl | exact .inr rfl)) (pss_cons (ps_set (i := 9) sc_law.nd rfl (by first | exact .inl rfl | exact .inr rfl) (pe_call (ok_is_allowed T B) (hr.mono (by decide)) (by rfl) T.g_is_allowed T.F_is_allowed.kp T.b_is_allowed .nil pass0 (pa_cons (pv 3) (pa_cons (pv 6) pa_nil)))) (pss_one (ps_if (pw_or (pt_not (pt_val (pe_callB call_isi (by rfl) T.m_isinstance (by decide +kernel) (pa_cons (pv 9) (pa_cons (pe_bltn (v := .ty "bool") (u := .type "bool") (by rfl) T.m_bool (by decide +kernel) rfl) pa_nil))))) (pw_or1 (pt_cmpR op_ne (pv 9) (pv 7) (nomark _)))).pt (pss_one (ps_ret pe_bl)) pss_nil))))))) (pss_one (ps_if (pt_cmpR (NeL.op_neN hr.units) (pe_lc (own := [("_law_thing", 10)]) (by rfl) sc_law.nd (pi_list (pe_call (ok_odd T) (hr.mono (by decide)) (by rfl) T.g_odd T.F_odd.kp T.b_odd .nil pass0 (pa_cons (pv 1) (pa_cons (pv 3) pa_nil)))) (blkOk_by (own := [("_law_thing", 10)]) (N := ["_law_script", "_law_deck_here", "_law_turn", "_law_wish_here", "_law_step", "_law_every", "_law_product_here", "_law_due", "_law_again", "_law_found", "_law_thing"]) (sc := defScope s_law) (by decide +kernel)) (fun _ _ _ _ _ => (pg_name (i := 10) sc_law.nd rfl (by first | exact .inl rfl | exact .inr rfl))) (fun _ _ _ _ _ => (pts_one (pt_cmpR op_isnot_bl (pe_call (ok_is_allowed T B) (hr.mono (by decide)) (by rfl) T.g_is_allowed T.F_is_allowed.kp T.b_is_allowed .nil pass0 (pa_cons (pv 3) (pa_cons (pv 10) pa_nil))) pe_bl (nomark _)))) (fun _ _ _ _ _ => (pv 10))) (pe_lst pa_nil) (nomark _)) (pss_one (ps_ret pe_bl)) pss_nil))))))) (pss_one (ps_ret pe_bl)))), ?_⟩
    refine ⟨.ref a, rfl, a, ns, rfl, hS, hlen, fun H1 d l s1 D1 => ?_⟩
    have tab1 := (Gr.of s1).tabs tabs
    refine ⟨2, rfl, by decide, by decide, ?_⟩
    refine for_range (lo := 0) (n := (2 : Int).toNat) (fun i σ H' => ∃ y2 y3 y4 y5 y6 y7 y8 y9, σ = [some (.ref a), some (.ref d), y2, y3, y4, y5, y6, y7, y8, y9, none] ∧ DeckG H' d l (1000 * i) ∧ Tabs H' T.tabs)
      ⟨_, _, _, _, _, _, _, _, rfl, D1.mono (by omega), tab1⟩ ?_ ?_
    · rintro i σ H2 hi ⟨y2, y3, y4, y5, y6, y7, y8, y9, rfl, D2, t2⟩
      have hi' : i < 2 := hi
      refine ⟨.ref d, rfl, d, l, _, 57, rfl, D2, by omega, by decide, by decide, fun wa m bs cs H3 D3 fr3 nw tw ok => ?_⟩
      have t3 := Tabs.fr D2 fr3 t2
      have m1 := ok.m1
      have m4 := ok.m4
      obtain ⟨_, tt, xs, e, hw, ht, tx⟩ := tw.wish_inv
      cases e
      first | (show (_ : L2.St → Hp → Prop) [some (.ref a), some (.ref d), some (.int (0 + (i : Int))), some (.ref wa), y4, y5, y6, y7, y8, y9, none] H3) | (unfold gName; show (_ : L2.St → Hp → Prop) [some (.ref a), some (.ref d), some (.int (0 + (i : Int))), some (.ref wa), y4, y5, y6, y7, y8, y9, none] H3) | (dsimp only; show (_ : L2.St → Hp → Prop) [some (.ref a), some (.ref d), some (.int (0 + (i : Int))), some (.ref wa), y4, y5, y6, y7, y8, y9, none] H3) | (dsimp only [gName]; show (_ : L2.St → Hp → Prop) [some (.ref a), some (.ref d), some (.int (0 + (i : Int))), some (.ref wa), y4, y5, y6, y7, y8, y9, none] H3)
      refine ⟨sl2, fun p1 np1 => ?_⟩
      have s4 := same_upd (o := (HO.lst [V.int 1, .int 2])) np1
      have h4 : upd H3 p1 (HO.lst [V.int 1, .int 2]) p1 = some (HO.lst [V.int 1, .int 2]) := upd_same
      generalize upd H3 p1 (HO.lst [V.int 1, .int 2]) = H4 at s4 h4 ⊢
      have hw4 := s4 _ _ hw
      have pick : ∃ st : Int, atI [V.int 1, .int 2] (if decide (V.int (m : Int) = V.int 4) = true then 1 else 0) = some (.int st) ∧ st ≠ 0 := by
        split
        · exact ⟨2, rfl, by decide⟩
        · exact ⟨1, rfl, by decide⟩
      obtain ⟨stp, hst, st0⟩ := pick
      refine ⟨.ref wa, rfl, wa, _, _, .int m, rfl, rfl, SqT.of hw4, rfl, rfl, .inr ⟨_, rfl, p1, _, _, .int stp, rfl, rfl, SqL.of h4, hst, ?_⟩⟩
      first | (show (_ : L2.St → Hp → Prop) [some (.ref a), some (.ref d), some (.int (0 + (i : Int))), some (.ref wa), some (.int stp), y5, y6, y7, y8, y9, none] H4) | (unfold gName; show (_ : L2.St → Hp → Prop) [some (.ref a), some (.ref d), some (.int (0 + (i : Int))), some (.ref wa), some (.int stp), y5, y6, y7, y8, y9, none] H4) | (dsimp only; show (_ : L2.St → Hp → Prop) [some (.ref a), some (.ref d), some (.int (0 + (i : Int))), some (.ref wa), some (.int stp), y5, y6, y7, y8, y9, none] H4) | (dsimp only [gName]; show (_ : L2.St → Hp → Prop) [some (.ref a), some (.ref d), some (.int (0 + (i : Int))), some (.ref wa), some (.int stp), y5, y6, y7, y8, y9, none] H4)
      refine ⟨.ref wa, rfl, wa, _, _, .int m, rfl, rfl, SqT.of hw4, rfl, m, rfl, m1, m4, fun ev H5 nev s5 hev => ?_⟩
      have s35 := s4.trans s5
      have hw5 := s35 _ _ hw
      first | (show (_ : L2.St → Hp → Prop) [some (.ref a), some (.ref d), some (.int (0 + (i : Int))), some (.ref wa), some (.int stp), some (.ref ev), y6, y7, y8, y9, none] H5) | (unfold gName; show (_ : L2.St → Hp → Prop) [some (.ref a), some (.ref d), some (.int (0 + (i : Int))), some (.ref wa), some (.int stp), some (.ref ev), y6, y7, y8, y9, none] H5) | (dsimp only; show (_ : L2.St → Hp → Prop) [some (.ref a), some (.ref d), some (.int (0 + (i : Int))), some (.ref wa), some (.int stp), some (.ref ev), y6, y7, y8, y9, none] H5) | (dsimp only [gName]; show (_ : L2.St → Hp → Prop) [some (.ref a), some (.ref d), some (.int (0 + (i : Int))), some (.ref wa), some (.int stp), some (.ref ev), y6, y7, y8, y9, none] H5)
      refine ⟨.ref ev, rfl, .int (0 + (i : Int)), rfl, .ref wa, rfl, wa, _, _, .int m, rfl, rfl, SqT.of hw5, rfl, rfl, .inr ⟨_, rfl, _, _, rfl, rfl, .inl ⟨by omega, by omega⟩, _, rfl, .int stp, rfl, stp, rfl, ev, _, rfl, SqL.of hev, ?_, fun sl nsl => ?_⟩⟩
      · exact fun z => st0 (Option.some.inj z)
      generalize epk : SlSt.pickL (pVs (prodsU m)) _ none _ = pk
      have mpk : ∀ x ∈ pk, ∃ p, ProdOk m p ∧ x = V.str (SX.S p) := fun x hx => by
        rw [← epk] at hx
        obtain ⟨j, hj⟩ := List.getElem?_of_mem (SlSt.pick_mem x hx)
        obtain ⟨p, hp, e⟩ := pV_at hj
        exact ⟨p, prodsU_ok p (List.mem_of_getElem? hp), e⟩
      clear epk
      have s6 := same_upd (o := (HO.lst pk)) nsl
      have h6 : upd H5 sl (HO.lst pk) sl = some (HO.lst pk) := upd_same
      generalize upd H5 sl (HO.lst pk) = H6 at s6 h6 ⊢
      have s36 := s35.trans s6
      have D6 := D3.same s36
      have t6 := (Gr.of s36).tabs t3
      have tw6 := tw.same s36
      refine ⟨sl, rfl, ⟨_, SqL.of h6⟩, for_list (K := K) (a := sl) (xs := pk) (fun j σ H' => ∃ y6 y7 y8 y9, σ = [some (.ref a), some (.ref d), some (.int (0 + (i : Int))), some (.ref wa), some (.int stp), some (.ref ev), y6, y7, y8, y9, none] ∧ Gr H6 H') ⟨_, _, _, _, rfl, Gr.refl⟩ (fun j σ H' _ ⟨_, _, _, _, _, g⟩ => SqL.of (g.lst h6)) ?_ ?_⟩
      · rintro j x σ H7 hx ⟨y6, y7, y8, y9, rfl, g7⟩
        obtain ⟨p, okp, rfl⟩ := mpk x (List.mem_of_getElem? hx)
        refine ⟨.ref wa, rfl, .str (SX.S p), rfl, wa, m, bs, cs, p, rfl, tw6.gr g7, ok, okp, fun H8 s8 => ?_⟩
        have g8 := g7.trans (Gr.of s8)
        refine ⟨2, rfl, by decide, by decide, ?_⟩
        refine for_range (lo := 0) (n := (2 : Int).toNat) (fun k σ H' => ∃ y8 y9, σ = [some (.ref a), some (.ref d), some (.int (0 + (i : Int))), some (.ref wa), some (.int stp), some (.ref ev), some (.str (SX.S p)), some (.bl (whyM m bs cs p).isNone), y8, y9, none] ∧ Gr H6 H') ⟨_, _, rfl, g8⟩ ?_ ?_
        · rintro k σ H9 hk ⟨y8, y9, rfl, g9⟩
          refine ⟨.ref wa, rfl, .str (SX.S p), rfl, wa, m, bs, cs, .str (SX.S p), some p, rfl, tw6.gr g9, ok, .str p (by have := okp.1; omega), g9.tabs t6, fun H10 g10 => ?_⟩
          rw [alM_ok okp]
          refine ⟨.bl _, rfl, _, _, _, _, true, rfl, .ty _, .base (.bl _), kit_ty kitBB, true, rfl, iteF ?_⟩
          refine ⟨.bl _, rfl, .bl _, rfl, rfl, false, ?_, iteF ?_⟩
          · show V.bl (!decide (V.bl (whyM m bs cs p).isNone = V.bl (whyM m bs cs p).isNone)) = V.bl false
            rw [decide_eq_true rfl]
            rfl
          exact ⟨_, _, rfl, g9.trans g10⟩
        · rintro σ H9 ⟨y8, y9, rfl, g9⟩
          exact ⟨_, _, _, _, rfl, g9⟩
      · rintro σ H7 ⟨y6, y7, y8, y9, rfl, g7⟩
        have D7 := D6.gr g7
        refine ⟨.ref d, rfl, .ref wa, rfl, d, l, wa, _, m, bs, cs, rfl, D7, by omega, tw6.gr g7, ok, fun od os H8 D8 fr8 hod bad l64 => ?_⟩
        have tw8 := (tw6.gr g7).ts (Ts.frG D7 fr8) (noL_wish m bs cs)
        have t8 := Tabs.fr D7 fr8 (g7.tabs t6)
        refine ⟨od, rfl, ⟨_, SqL.of hod⟩, fun L nL => ?_⟩
        refine lc_list (K := K) (a := od) (xs := os) (fun k H' => Gr H8 (hd1 L H') ∧ Tabs H' T.tabs ∧ H' L = some (.lst [])) ⟨Gr.of (hd1_of (same_upd nL) nL), (Gr.none nL).tabs t8, upd_same⟩ (fun k H' _ z => SqL.of (hd1_le _ _ (z.1.lst hod))) ?_ ?_
        · rintro k x H9 hx ⟨g9, t9, hL⟩
          obtain ⟨z, oz, ez⟩ := bad x (List.mem_of_getElem? hx)
          have g9' := g9.trans (Gr.of hd1_le)
          refine ⟨rfl, .ref wa, rfl, x, rfl, wa, m, bs, cs, x, z, rfl, tw8.gr g9', ok, oz.gr g9', t9, fun H10 g10 => ?_⟩
          have e1 : alM m bs cs z = false := by
            cases z with
            | none => rfl
            | some p =>
              show (isPr m p && _) = false
              rw [show isPr m p = false from ez, Bool.false_and]
          rw [e1]
          refine ⟨_, _, rfl, rfl, false, rfl, iteF ⟨g9.trans (hd1_gr g10 fun P ⟨ps, e, _⟩ z => ?_), g10.tabs t9, g10.lst hL⟩⟩
          rw [← z, hL] at e
          cases e
        · rintro H9 ⟨g9, t9, hL⟩
          have D9 := D8.gr (g9.trans (Gr.of hd1_le))
          refine ⟨Nat.zero_le _, fun e0 ne0 => ?_⟩
          have s10 := same_upd (o := HO.lst []) ne0
          refine ⟨L, e0, [], rfl, rfl, SqL.of (s10 _ _ hL), SqL.of upd_same, _, rfl, iteF ?_⟩
          exact ⟨_, _, _, _, _, _, _, _, rfl, (D9.same s10).mono (by push_cast; omega), (Gr.of s10).tabs t9⟩
    · rintro σ H2 ⟨y2, y3, y4, y5, y6, y7, y8, y9, rfl, _, _⟩
      exact q H2

end
def d_choices_of : He.DefD := ⟨("choices_of", none), "choices_of", "choices_of", defArgs s_choices_of, defBody s_choices_of, defScope s_choices_of, [], []⟩
def d_rows_of : He.DefD := ⟨("rows_of", none), "rows_of", "rows_of", defArgs s_rows_of, defBody s_rows_of, defScope s_rows_of, [], []⟩
def d_table_worth : He.DefD := ⟨("table_worth", none), "table_worth", "table_worth", defArgs s_table_worth, defBody s_table_worth, defScope s_table_worth, [], []⟩
def d_show_row : He.DefD := ⟨("show_row", none), "show_row", "show_row", defArgs s_show_row, defBody s_show_row, defScope s_show_row, [], []⟩
def d_is_product : He.DefD := ⟨("is_product", none), "is_product", "is_product", defArgs s_is_product, defBody s_is_product, defScope s_is_product, [], []⟩
def d_holds_row : He.DefD := ⟨("holds_row", none), "holds_row", "holds_row", defArgs s_holds_row, defBody s_holds_row, defScope s_holds_row, [], []⟩
def d_holds_all : He.DefD := ⟨("holds_all", none), "holds_all", "holds_all", defArgs s_holds_all, defBody s_holds_all, defScope s_holds_all, [], []⟩
def d_meet : He.DefD := ⟨("meet", none), "meet", "meet", defArgs s_meet, defBody s_meet, defScope s_meet, [], []⟩
def d_cube_of : He.DefD := ⟨("cube_of", none), "cube_of", "cube_of", defArgs s_cube_of, defBody s_cube_of, defScope s_cube_of, [], []⟩
def d_is_allowed : He.DefD := ⟨("is_allowed", none), "is_allowed", "is_allowed", defArgs s_is_allowed, defBody s_is_allowed, defScope s_is_allowed, [], []⟩
def d_why_not : He.DefD := ⟨("why_not", none), "why_not", "why_not", defArgs s_why_not, defBody s_why_not, defScope s_why_not, [], []⟩
def d_is_allowed_at : He.DefD := ⟨("is_allowed_at", none), "is_allowed_at", "is_allowed_at", defArgs s_is_allowed_at, defBody s_is_allowed_at, defScope s_is_allowed_at, [], []⟩
def d_ones_of : He.DefD := ⟨("ones_of", none), "ones_of", "ones_of", defArgs s_ones_of, defBody s_ones_of, defScope s_ones_of, [], []⟩
def d_deck : He.DefD := ⟨("_law_deck", none), "_law_deck", "_law_deck", defArgs s_deck, defBody s_deck, defScope s_deck, [], []⟩
def d_next : He.DefD := ⟨("_law_next", none), "_law_next", "_law_next", defArgs s_next, defBody s_next, defScope s_next, [], []⟩
def d_rows : He.DefD := ⟨("_law_rows", none), "_law_rows", "_law_rows", defArgs s_rows, defBody s_rows, defScope s_rows, [], []⟩
def d_holds : He.DefD := ⟨("_law_holds", none), "_law_holds", "_law_holds", defArgs s_holds, defBody s_holds, defScope s_holds, [], []⟩
def d_meets : He.DefD := ⟨("_law_meets", none), "_law_meets", "_law_meets", defArgs s_meets, defBody s_meets, defScope s_meets, [], []⟩
def d_cube : He.DefD := ⟨("_law_cube", none), "_law_cube", "_law_cube", defArgs s_cube, defBody s_cube, defScope s_cube, [], []⟩
def d_product : He.DefD := ⟨("_law_product", none), "_law_product", "_law_product", defArgs s_product, defBody s_product, defScope s_product, [], []⟩
def d_table : He.DefD := ⟨("_law_table", none), "_law_table", "_law_table", defArgs s_table, defBody s_table, defScope s_table, [], []⟩
def d_worth : He.DefD := ⟨("_law_worth", none), "_law_worth", "_law_worth", defArgs s_worth, defBody s_worth, defScope s_worth, [], []⟩
def d_change : He.DefD := ⟨("_law_change", none), "_law_change", "_law_change", defArgs s_change, defBody s_change, defScope s_change, [], []⟩
def d_wish : He.DefD := ⟨("_law_wish", none), "_law_wish", "_law_wish", defArgs s_wish, defBody s_wish, defScope s_wish, [], []⟩
def d_all_products : He.DefD := ⟨("_law_all_products", none), "_law_all_products", "_law_all_products", defArgs s_all_products, defBody s_all_products, defScope s_all_products, [], []⟩
def d_fits : He.DefD := ⟨("_law_fits", none), "_law_fits", "_law_fits", defArgs s_fits, defBody s_fits, defScope s_fits, [], []⟩
def d_allowed : He.DefD := ⟨("_law_allowed", none), "_law_allowed", "_law_allowed", defArgs s_allowed, defBody s_allowed, defScope s_allowed, [], []⟩
def d_odd : He.DefD := ⟨("_law_odd", none), "_law_odd", "_law_odd", defArgs s_odd, defBody s_odd, defScope s_odd, [], []⟩
def d_law : He.DefD := ⟨("law", none), "law", "law", defArgs s_law, defBody s_law, defScope s_law, [], []⟩
def fn : List He.DefD := [d_choices_of, d_rows_of, d_table_worth, d_show_row, d_is_product, d_holds_row, d_holds_all, d_meet, d_cube_of, d_is_allowed, d_why_not, d_is_allowed_at, d_ones_of, d_deck, d_next, d_rows, d_holds, d_meets, d_cube, d_product, d_table, d_worth, d_change, d_wish, d_all_products, d_fits, d_allowed, d_odd, d_law]
def fa : List He.Fa := [.glo "choices_of", .glo "rows_of", .glo "table_worth", .glo "show_row", .glo "is_product", .glo "holds_row", .glo "holds_all", .glo "meet", .glo "cube_of", .glo "is_allowed", .glo "why_not", .glo "is_allowed_at", .glo "ones_of", .glo "_law_deck", .glo "_law_next", .glo "_law_rows", .glo "_law_holds", .glo "_law_meets", .glo "_law_cube", .glo "_law_product", .glo "_law_table", .glo "_law_worth", .glo "_law_change", .glo "_law_wish", .glo "_law_all_products", .glo "_law_fits", .glo "_law_allowed", .glo "_law_odd", .glo "law", .free "all", .free "any", .free "bool", .free "enumerate", .free "int", .free "isinstance", .free "len", .free "list", .free "range", .free "sorted", .free "str", .free "sum", .free "tuple", .free "zip"]
def tf : List He.Defn := [("show_row", none), ("is_product", none), ("holds_all", none), ("meet", none), ("cube_of", none), ("is_allowed_at", none)]
abbrev RR : PySem.W.OpenRow := PySem.W.OpenLaw.row PySem.Challenge.rw_glitchnet_k43_products_allowed
def yes : PySem.W.Frag → Bool := fun _ => true
abbrev hk : PySem.W.Hook := He.hookX 4 fa fn [] tf yes
def ob (s : PySem.W.SharedT) : He.AlX := He.obsX 4 fa fn [] tf yes (HandSHeadRun.getT s)
theorem ob_eq (s : PySem.W.SharedT) : ob s = hk.obs s.abs := He.obsX_eq (HandSHeadRun.getT_eq s)
theorem run (w : World) : HandSHeadRun.RunEq RR (PySem.W.view RR.prog [33]) hk ob 3000 [("choices_of" : PySem.Str), ("rows_of" : PySem.Str), ("table_worth" : PySem.Str), ("show_row" : PySem.Str), ("is_product" : PySem.Str), ("holds_row" : PySem.Str), ("holds_all" : PySem.Str), ("meet" : PySem.Str), ("cube_of" : PySem.Str), ("is_allowed" : PySem.Str), ("why_not" : PySem.Str), ("is_allowed_at" : PySem.Str), ("ones_of" : PySem.Str), ("_law_deck" : PySem.Str), ("_law_next" : PySem.Str), ("_law_rows" : PySem.Str), ("_law_holds" : PySem.Str), ("_law_meets" : PySem.Str), ("_law_cube" : PySem.Str), ("_law_product" : PySem.Str), ("_law_table" : PySem.Str), ("_law_worth" : PySem.Str), ("_law_change" : PySem.Str), ("_law_wish" : PySem.Str), ("_law_all_products" : PySem.Str), ("_law_fits" : PySem.Str), ("_law_allowed" : PySem.Str), ("_law_odd" : PySem.Str)] w := by
  intro os
  kernel_rfl
theorem facts {w : World} {K : PySem.W.Frag} {h : Heap} {mg : Str → Option Value} {f : Addr} (X : K.In h) (G : h.Ns mainGlobals mg) (hfa : mg ("law" : Str) = some (.ref f)) (c : He.SaysX fa fn [] tf yes w h K) : LamX.LawAtS PySem.Challenge.rw_glitchnet_k43_products_allowed w K CX0 8 63 "_law_script" mg f h := by
  obtain ⟨fd0, D0⟩ := c.t.d.def_ 0 (d := d_choices_of) rfl
  have F0 : Fun K "choices_of" "choices_of" s_choices_of (He.fAd K ("choices_of", none)) fd0 := fun_of D0
  have b0 := F0.binds (ps := ["lists"]) fun _ _ _ _ _ _ us hl => match us, hl with | [_], _ => rfl
  obtain ⟨fd1, D1⟩ := c.t.d.def_ 1 (d := d_rows_of) rfl
  have F1 : Fun K "rows_of" "rows_of" s_rows_of (He.fAd K ("rows_of", none)) fd1 := fun_of D1
  have b1 := F1.binds (ps := ["many"]) fun _ _ _ _ _ _ us hl => match us, hl with | [_], _ => rfl
  obtain ⟨fd2, D2⟩ := c.t.d.def_ 2 (d := d_table_worth) rfl
  have F2 : Fun K "table_worth" "table_worth" s_table_worth (He.fAd K ("table_worth", none)) fd2 := fun_of D2
  have b2 := F2.binds (ps := ["table", "worths"]) fun _ _ _ _ _ _ us hl => match us, hl with | [_, _], _ => rfl
  obtain ⟨fd3, D3⟩ := c.t.d.def_ 3 (d := d_show_row) rfl
  have F3 : Fun K "show_row" "show_row" s_show_row (He.fAd K ("show_row", none)) fd3 := fun_of D3
  have b3 := F3.binds (ps := ["row"]) fun _ _ _ _ _ _ us hl => match us, hl with | [_], _ => rfl
  obtain ⟨fd4, D4⟩ := c.t.d.def_ 4 (d := d_is_product) rfl
  have F4 : Fun K "is_product" "is_product" s_is_product (He.fAd K ("is_product", none)) fd4 := fun_of D4
  have b4 := F4.binds (ps := ["many", "thing"]) fun _ _ _ _ _ _ us hl => match us, hl with | [_, _], _ => rfl
  obtain ⟨fd5, D5⟩ := c.t.d.def_ 5 (d := d_holds_row) rfl
  have F5 : Fun K "holds_row" "holds_row" s_holds_row (He.fAd K ("holds_row", none)) fd5 := fun_of D5
  have b5 := F5.binds (ps := ["product", "row"]) fun _ _ _ _ _ _ us hl => match us, hl with | [_, _], _ => rfl
  obtain ⟨fd6, D6⟩ := c.t.d.def_ 6 (d := d_holds_all) rfl
  have F6 : Fun K "holds_all" "holds_all" s_holds_all (He.fAd K ("holds_all", none)) fd6 := fun_of D6
  have b6 := F6.binds (ps := ["product", "other"]) fun _ _ _ _ _ _ us hl => match us, hl with | [_, _], _ => rfl
  obtain ⟨fd7, D7⟩ := c.t.d.def_ 7 (d := d_meet) rfl
  have F7 : Fun K "meet" "meet" s_meet (He.fAd K ("meet", none)) fd7 := fun_of D7
  have b7 := F7.binds (ps := ["product", "other"]) fun _ _ _ _ _ _ us hl => match us, hl with | [_, _], _ => rfl
  obtain ⟨fd8, D8⟩ := c.t.d.def_ 8 (d := d_cube_of) rfl
  have F8 : Fun K "cube_of" "cube_of" s_cube_of (He.fAd K ("cube_of", none)) fd8 := fun_of D8
  have b8 := F8.binds (ps := ["change"]) fun _ _ _ _ _ _ us hl => match us, hl with | [_], _ => rfl
  obtain ⟨fd9, D9⟩ := c.t.d.def_ 9 (d := d_is_allowed) rfl
  have F9 : Fun K "is_allowed" "is_allowed" s_is_allowed (He.fAd K ("is_allowed", none)) fd9 := fun_of D9
  have b9 := F9.binds (ps := ["wish", "product"]) fun _ _ _ _ _ _ us hl => match us, hl with | [_, _], _ => rfl
  obtain ⟨fd10, D10⟩ := c.t.d.def_ 10 (d := d_why_not) rfl
  have F10 : Fun K "why_not" "why_not" s_why_not (He.fAd K ("why_not", none)) fd10 := fun_of D10
  have b10 := F10.binds (ps := ["wish", "product"]) fun _ _ _ _ _ _ us hl => match us, hl with | [_, _], _ => rfl
  obtain ⟨fd11, D11⟩ := c.t.d.def_ 11 (d := d_is_allowed_at) rfl
  have F11 : Fun K "is_allowed_at" "is_allowed_at" s_is_allowed_at (He.fAd K ("is_allowed_at", none)) fd11 := fun_of D11
  have b11 := F11.binds (ps := ["wish", "product", "change"]) fun _ _ _ _ _ _ us hl => match us, hl with | [_, _, _], _ => rfl
  obtain ⟨fd12, D12⟩ := c.t.d.def_ 12 (d := d_ones_of) rfl
  have F12 : Fun K "ones_of" "ones_of" s_ones_of (He.fAd K ("ones_of", none)) fd12 := fun_of D12
  have b12 := F12.binds (ps := ["wish", "rows"]) fun _ _ _ _ _ _ us hl => match us, hl with | [_, _], _ => rfl
  obtain ⟨fd13, D13⟩ := c.t.d.def_ 13 (d := d_deck) rfl
  have F13 : Fun K "_law_deck" "_law_deck" s_deck (He.fAd K ("_law_deck", none)) fd13 := fun_of D13
  have b13 := F13.binds (ps := ["_law_script"]) fun _ _ _ _ _ _ us hl => match us, hl with | [_], _ => rfl
  obtain ⟨fd14, D14⟩ := c.t.d.def_ 14 (d := d_next) rfl
  have F14 : Fun K "_law_next" "_law_next" s_next (He.fAd K ("_law_next", none)) fd14 := fun_of D14
  have b14 := F14.binds (ps := ["_law_deck_here", "_law_most"]) fun _ _ _ _ _ _ us hl => match us, hl with | [_, _], _ => rfl
  obtain ⟨fd15, D15⟩ := c.t.d.def_ 15 (d := d_rows) rfl
  have F15 : Fun K "_law_rows" "_law_rows" s_rows (He.fAd K ("_law_rows", none)) fd15 := fun_of D15
  have b15 := F15.binds (ps := ["_law_many"]) fun _ _ _ _ _ _ us hl => match us, hl with | [_], _ => rfl
  obtain ⟨fd16, D16⟩ := c.t.d.def_ 16 (d := d_holds) rfl
  have F16 : Fun K "_law_holds" "_law_holds" s_holds (He.fAd K ("_law_holds", none)) fd16 := fun_of D16
  have b16 := F16.binds (ps := ["_law_product_here", "_law_row"]) fun _ _ _ _ _ _ us hl => match us, hl with | [_, _], _ => rfl
  obtain ⟨fd17, D17⟩ := c.t.d.def_ 17 (d := d_meets) rfl
  have F17 : Fun K "_law_meets" "_law_meets" s_meets (He.fAd K ("_law_meets", none)) fd17 := fun_of D17
  have b17 := F17.binds (ps := ["_law_product_here", "_law_other"]) fun _ _ _ _ _ _ us hl => match us, hl with | [_, _], _ => rfl
  obtain ⟨fd18, D18⟩ := c.t.d.def_ 18 (d := d_cube) rfl
  have F18 : Fun K "_law_cube" "_law_cube" s_cube (He.fAd K ("_law_cube", none)) fd18 := fun_of D18
  have b18 := F18.binds (ps := ["_law_one", "_law_other"]) fun _ _ _ _ _ _ us hl => match us, hl with | [_, _], _ => rfl
  obtain ⟨fd19, D19⟩ := c.t.d.def_ 19 (d := d_product) rfl
  have F19 : Fun K "_law_product" "_law_product" s_product (He.fAd K ("_law_product", none)) fd19 := fun_of D19
  have b19 := F19.binds (ps := ["_law_deck_here", "_law_many"]) fun _ _ _ _ _ _ us hl => match us, hl with | [_, _], _ => rfl
  obtain ⟨fd20, D20⟩ := c.t.d.def_ 20 (d := d_table) rfl
  have F20 : Fun K "_law_table" "_law_table" s_table (He.fAd K ("_law_table", none)) fd20 := fun_of D20
  have b20 := F20.binds (ps := ["_law_deck_here", "_law_many"]) fun _ _ _ _ _ _ us hl => match us, hl with | [_, _], _ => rfl
  obtain ⟨fd21, D21⟩ := c.t.d.def_ 21 (d := d_worth) rfl
  have F21 : Fun K "_law_worth" "_law_worth" s_worth (He.fAd K ("_law_worth", none)) fd21 := fun_of D21
  have b21 := F21.binds (ps := ["_law_wish_here", "_law_row"]) fun _ _ _ _ _ _ us hl => match us, hl with | [_, _], _ => rfl
  obtain ⟨fd22, D22⟩ := c.t.d.def_ 22 (d := d_change) rfl
  have F22 : Fun K "_law_change" "_law_change" s_change (He.fAd K ("_law_change", none)) fd22 := fun_of D22
  have b22 := F22.binds (ps := ["_law_deck_here", "_law_many", "_law_table_here"]) fun _ _ _ _ _ _ us hl => match us, hl with | [_, _, _], _ => rfl
  obtain ⟨fd23, D23⟩ := c.t.d.def_ 23 (d := d_wish) rfl
  have F23 : Fun K "_law_wish" "_law_wish" s_wish (He.fAd K ("_law_wish", none)) fd23 := fun_of D23
  have b23 := F23.binds (ps := ["_law_deck_here", "_law_most"]) fun _ _ _ _ _ _ us hl => match us, hl with | [_, _], _ => rfl
  obtain ⟨fd24, D24⟩ := c.t.d.def_ 24 (d := d_all_products) rfl
  have F24 : Fun K "_law_all_products" "_law_all_products" s_all_products (He.fAd K ("_law_all_products", none)) fd24 := fun_of D24
  have b24 := F24.binds (ps := ["_law_many"]) fun _ _ _ _ _ _ us hl => match us, hl with | [_], _ => rfl
  obtain ⟨fd25, D25⟩ := c.t.d.def_ 25 (d := d_fits) rfl
  have F25 : Fun K "_law_fits" "_law_fits" s_fits (He.fAd K ("_law_fits", none)) fd25 := fun_of D25
  have b25 := F25.binds (ps := ["_law_wish_here", "_law_product_here", "_law_change_here"]) fun _ _ _ _ _ _ us hl => match us, hl with | [_, _, _], _ => rfl
  obtain ⟨fd26, D26⟩ := c.t.d.def_ 26 (d := d_allowed) rfl
  have F26 : Fun K "_law_allowed" "_law_allowed" s_allowed (He.fAd K ("_law_allowed", none)) fd26 := fun_of D26
  have b26 := F26.binds (ps := ["_law_wish_here", "_law_product_here"]) fun _ _ _ _ _ _ us hl => match us, hl with | [_, _], _ => rfl
  obtain ⟨fd27, D27⟩ := c.t.d.def_ 27 (d := d_odd) rfl
  have F27 : Fun K "_law_odd" "_law_odd" s_odd (He.fAd K ("_law_odd", none)) fd27 := fun_of D27
  have b27 := F27.binds (ps := ["_law_deck_here", "_law_wish_here"]) fun _ _ _ _ _ _ us hl => match us, hl with | [_, _], _ => rfl
  obtain ⟨fd28, D28⟩ := c.t.d.def_ 28 (d := d_law) rfl
  have F28 : Fun K "law" "law" s_law (He.fAd K ("law", none)) fd28 := fun_of D28
  have b28 := F28.binds (ps := ["_law_script"]) fun _ _ _ _ _ _ us hl => match us, hl with | [_], _ => rfl
  have e := hfa.symm.trans (He.glo_ok X G (c.t.d.fact 28 (f := .glo "law") rfl))
  cases e
  let T : Tx K mg := { f_choices_of := _, fd_choices_of := _, F_choices_of := F0, g_choices_of := He.glo_ok X G (c.t.d.fact 0 (f := .glo "choices_of") rfl), b_choices_of := b0, f_rows_of := _, fd_rows_of := _, F_rows_of := F1, g_rows_of := He.glo_ok X G (c.t.d.fact 1 (f := .glo "rows_of") rfl), b_rows_of := b1, f_table_worth := _, fd_table_worth := _, F_table_worth := F2, g_table_worth := He.glo_ok X G (c.t.d.fact 2 (f := .glo "table_worth") rfl), b_table_worth := b2, f_show_row := _, fd_show_row := _, F_show_row := F3, g_show_row := He.glo_ok X G (c.t.d.fact 3 (f := .glo "show_row") rfl), b_show_row := b3, c_show_row := (He.cT K ("show_row", none)).1, P_show_row := (He.cT K ("show_row", none)).2, cd_show_row := code_of F3, f_is_product := _, fd_is_product := _, F_is_product := F4, g_is_product := He.glo_ok X G (c.t.d.fact 4 (f := .glo "is_product") rfl), b_is_product := b4, c_is_product := (He.cT K ("is_product", none)).1, P_is_product := (He.cT K ("is_product", none)).2, cd_is_product := code_of F4, f_holds_row := _, fd_holds_row := _, F_holds_row := F5, g_holds_row := He.glo_ok X G (c.t.d.fact 5 (f := .glo "holds_row") rfl), b_holds_row := b5, f_holds_all := _, fd_holds_all := _, F_holds_all := F6, g_holds_all := He.glo_ok X G (c.t.d.fact 6 (f := .glo "holds_all") rfl), b_holds_all := b6, c_holds_all := (He.cT K ("holds_all", none)).1, P_holds_all := (He.cT K ("holds_all", none)).2, cd_holds_all := code_of F6, f_meet := _, fd_meet := _, F_meet := F7, g_meet := He.glo_ok X G (c.t.d.fact 7 (f := .glo "meet") rfl), b_meet := b7, c_meet := (He.cT K ("meet", none)).1, P_meet := (He.cT K ("meet", none)).2, cd_meet := code_of F7, f_cube_of := _, fd_cube_of := _, F_cube_of := F8, g_cube_of := He.glo_ok X G (c.t.d.fact 8 (f := .glo "cube_of") rfl), b_cube_of := b8, c_cube_of := (He.cT K ("cube_of", none)).1, P_cube_of := (He.cT K ("cube_of", none)).2, cd_cube_of := code_of F8, f_is_allowed := _, fd_is_allowed := _, F_is_allowed := F9, g_is_allowed := He.glo_ok X G (c.t.d.fact 9 (f := .glo "is_allowed") rfl), b_is_allowed := b9, f_why_not := _, fd_why_not := _, F_why_not := F10, g_why_not := He.glo_ok X G (c.t.d.fact 10 (f := .glo "why_not") rfl), b_why_not := b10, f_is_allowed_at := _, fd_is_allowed_at := _, F_is_allowed_at := F11, g_is_allowed_at := He.glo_ok X G (c.t.d.fact 11 (f := .glo "is_allowed_at") rfl), b_is_allowed_at := b11, c_is_allowed_at := (He.cT K ("is_allowed_at", none)).1, P_is_allowed_at := (He.cT K ("is_allowed_at", none)).2, cd_is_allowed_at := code_of F11, f_ones_of := _, fd_ones_of := _, F_ones_of := F12, g_ones_of := He.glo_ok X G (c.t.d.fact 12 (f := .glo "ones_of") rfl), b_ones_of := b12, f_deck := _, fd_deck := _, F_deck := F13, g_deck := He.glo_ok X G (c.t.d.fact 13 (f := .glo "_law_deck") rfl), b_deck := b13, f_next := _, fd_next := _, F_next := F14, g_next := He.glo_ok X G (c.t.d.fact 14 (f := .glo "_law_next") rfl), b_next := b14, f_rows := _, fd_rows := _, F_rows := F15, g_rows := He.glo_ok X G (c.t.d.fact 15 (f := .glo "_law_rows") rfl), b_rows := b15, f_holds := _, fd_holds := _, F_holds := F16, g_holds := He.glo_ok X G (c.t.d.fact 16 (f := .glo "_law_holds") rfl), b_holds := b16, f_meets := _, fd_meets := _, F_meets := F17, g_meets := He.glo_ok X G (c.t.d.fact 17 (f := .glo "_law_meets") rfl), b_meets := b17, f_cube := _, fd_cube := _, F_cube := F18, g_cube := He.glo_ok X G (c.t.d.fact 18 (f := .glo "_law_cube") rfl), b_cube := b18, f_product := _, fd_product := _, F_product := F19, g_product := He.glo_ok X G (c.t.d.fact 19 (f := .glo "_law_product") rfl), b_product := b19, f_table := _, fd_table := _, F_table := F20, g_table := He.glo_ok X G (c.t.d.fact 20 (f := .glo "_law_table") rfl), b_table := b20, f_worth := _, fd_worth := _, F_worth := F21, g_worth := He.glo_ok X G (c.t.d.fact 21 (f := .glo "_law_worth") rfl), b_worth := b21, f_change := _, fd_change := _, F_change := F22, g_change := He.glo_ok X G (c.t.d.fact 22 (f := .glo "_law_change") rfl), b_change := b22, f_wish := _, fd_wish := _, F_wish := F23, g_wish := He.glo_ok X G (c.t.d.fact 23 (f := .glo "_law_wish") rfl), b_wish := b23, f_all_products := _, fd_all_products := _, F_all_products := F24, g_all_products := He.glo_ok X G (c.t.d.fact 24 (f := .glo "_law_all_products") rfl), b_all_products := b24, f_fits := _, fd_fits := _, F_fits := F25, g_fits := He.glo_ok X G (c.t.d.fact 25 (f := .glo "_law_fits") rfl), b_fits := b25, f_allowed := _, fd_allowed := _, F_allowed := F26, g_allowed := He.glo_ok X G (c.t.d.fact 26 (f := .glo "_law_allowed") rfl), b_allowed := b26, f_odd := _, fd_odd := _, F_odd := F27, g_odd := He.glo_ok X G (c.t.d.fact 27 (f := .glo "_law_odd") rfl), b_odd := b27, f_law := _, fd_law := _, F_law := F28, g_law := He.glo_ok X G (c.t.d.fact 28 (f := .glo "law") rfl), b_law := b28, m_all := He.free_ok X G (c.t.d.fact 29 (f := .free "all") rfl), m_any := He.free_ok X G (c.t.d.fact 30 (f := .free "any") rfl), m_bool := He.free_ok X G (c.t.d.fact 31 (f := .free "bool") rfl), m_enumerate := He.free_ok X G (c.t.d.fact 32 (f := .free "enumerate") rfl), m_int := He.free_ok X G (c.t.d.fact 33 (f := .free "int") rfl), m_isinstance := He.free_ok X G (c.t.d.fact 34 (f := .free "isinstance") rfl), m_len := He.free_ok X G (c.t.d.fact 35 (f := .free "len") rfl), m_list := He.free_ok X G (c.t.d.fact 36 (f := .free "list") rfl), m_range := He.free_ok X G (c.t.d.fact 37 (f := .free "range") rfl), m_sorted := He.free_ok X G (c.t.d.fact 38 (f := .free "sorted") rfl), m_str := He.free_ok X G (c.t.d.fact 39 (f := .free "str") rfl), m_sum := He.free_ok X G (c.t.d.fact 40 (f := .free "sum") rfl), m_tuple := He.free_ok X G (c.t.d.fact 41 (f := .free "tuple") rfl), m_zip := He.free_ok X G (c.t.d.fact 42 (f := .free "zip") rfl) }
  refine ⟨fd28, tf.map (He.cT K), sp_law K T.tabs, ?_, ?_, ?_, ?_, ?_, ?_⟩
  · rintro p hp
    obtain ⟨d, hd, rfl⟩ := List.mem_map.mp hp
    exact c.empty d hd
  · rintro p hp
    obtain ⟨d, hd, rfl⟩ := List.mem_map.mp hp
    exact c.out d hd
  · rintro p hp
    obtain ⟨d, hd, rfl⟩ := List.mem_map.mp hp
    exact PySem.W.codeHd_of_K X (c.hd d hd)
  · obtain ⟨oc, od, kV, doc, pm, an, cdv, ct, osl, rfl, lk, hcd⟩ := F28.ex
    exact fun s v => .of_eq rfl
  · intro H a ns hl hbits hT hS
    refine ⟨a, ns, rfl, hS, hl, fun P hP => ?_, fun _ => rfl⟩
    have hP : P ∈ (tf.map (He.cT K)).map (·.2) := hP
    obtain ⟨p, hp, rfl⟩ := List.mem_map.mp hP
    exact ⟨#[], hT p hp, by trivial⟩
  · intro base KB GB hTB
    have B : Tb base T := ⟨tab_of (hTB (He.cT K ("show_row", none)) (List.mem_map.mpr ⟨_, (show (("show_row", none) : He.Defn) ∈ tf by decide), rfl⟩)), tab_of (hTB (He.cT K ("is_product", none)) (List.mem_map.mpr ⟨_, (show (("is_product", none) : He.Defn) ∈ tf by decide), rfl⟩)), tab_of (hTB (He.cT K ("holds_all", none)) (List.mem_map.mpr ⟨_, (show (("holds_all", none) : He.Defn) ∈ tf by decide), rfl⟩)), tab_of (hTB (He.cT K ("meet", none)) (List.mem_map.mpr ⟨_, (show (("meet", none) : He.Defn) ∈ tf by decide), rfl⟩)), tab_of (hTB (He.cT K ("cube_of", none)) (List.mem_map.mpr ⟨_, (show (("cube_of", none) : He.Defn) ∈ tf by decide), rfl⟩)), tab_of (hTB (He.cT K ("is_allowed_at", none)) (List.mem_map.mpr ⟨_, (show (("is_allowed_at", none) : He.Defn) ∈ tf by decide), rfl⟩))⟩
    exact ok_law T B
end Gk
open PySem PySem.W PyProof.Rows
set_option maxRecDepth 100000 in
set_option maxHeartbeats 0 in
theorem PySem.Challenge.cw_glitchnet_k43_products_allowed_holds : PySem.Challenge.rw_glitchnet_k43_products_allowed.Holds := by
  w_on; o_law
  refine HandSHeadRun.head_any (r := OpenLaw.row PySem.Challenge.rw_glitchnet_k43_products_allowed) (q := view (OpenLaw.row PySem.Challenge.rw_glitchnet_k43_products_allowed).prog [33]) (H := Gk.hk) (ob := Gk.ob) (M := 3000) (loose := [("choices_of" : PySem.Str), ("rows_of" : PySem.Str), ("table_worth" : PySem.Str), ("show_row" : PySem.Str), ("is_product" : PySem.Str), ("holds_row" : PySem.Str), ("holds_all" : PySem.Str), ("meet" : PySem.Str), ("cube_of" : PySem.Str), ("is_allowed" : PySem.Str), ("why_not" : PySem.Str), ("is_allowed_at" : PySem.Str), ("ones_of" : PySem.Str), ("_law_deck" : PySem.Str), ("_law_next" : PySem.Str), ("_law_rows" : PySem.Str), ("_law_holds" : PySem.Str), ("_law_meets" : PySem.Str), ("_law_cube" : PySem.Str), ("_law_product" : PySem.Str), ("_law_table" : PySem.Str), ("_law_worth" : PySem.Str), ("_law_change" : PySem.Str), ("_law_wish" : PySem.Str), ("_law_all_products" : PySem.Str), ("_law_fits" : PySem.Str), ("_law_allowed" : PySem.Str), ("_law_odd" : PySem.Str)]) (d := HandSHeadRun.topDef (OpenLaw.row PySem.Challenge.rw_glitchnet_k43_products_allowed).prog 33) (kwd := []) Gk.ob_eq
    (by kernel_rfl) (fun s => by kernel_rfl) Gk.run (by kernel_rfl) (by kernel_rfl) (by kernel_rfl) (by rfl) (by first | assumption | decide +kernel) (by decide +kernel) ⟨rfl, rfl, rfl, rfl, rfl, by decide +kernel⟩ ?hw ?hc
  case hw => w_witness2
  case hc =>
    refine LamX.walk_ofTsE (l := PySem.Challenge.rw_glitchnet_k43_products_allowed) (n := 63) (k := 8) (x := "_law_script") (CX := fun _ => L2.CX0) rfl (by decide) (by kernel_rfl) ⟨rfl, by decide, by decide⟩ ?F (fun _ _ _ _ _ z => z)
    intro w mg fa h Y G hmg0
    obtain ⟨K, KX, c⟩ := Y
    have hmg : mg ("law" : PySem.Str) = some (.ref fa) := by
      have e : (HandSHeadRun.topDef (OpenLaw.row PySem.Challenge.rw_glitchnet_k43_products_allowed).prog 33).name = ("law" : PySem.Str) := by kernel_rfl
      rw [← e]
      exact hmg0
    exact ⟨K, KX, Gk.facts KX G hmg c⟩
