import PyProof.Rows.All
import Wide.All
import OpenK.AllK
import Wide.FinOn
import HandS.ForMost
import HandS.SortRule
import HandS.TupSets
import KE.GoesMore
import KE.KDictZip
import HandS.IsInst
import HandS.TupLe
import HandS.TupAny
import HandS.TupMul
import HandS.More
import HandS.Codes
import HandS.Conv
import HandS.Deep
import HandS.Style
import HandS.Strs
import HandS.AnyAll
import HandS.GenList
import HandS.JoinGen
import HandS.Zip
import HandS.Rev
import HandS.Head0
import HandS.Head1
import HandS.Head2
import HandS.HeadEnd
import HandS.HeadHook1
import HandS.HeadHook2
import HandS.HeadHook3
import HandS.HeadHook4
import HandS.HeadWalk
import HandS.Defaults
import HandS.ReplaceLit
import PySem.Challenge.RW_glitchnet_k45_free_covers
import HandS.SortInts
import HandS.SetFor
set_option Elab.async false
set_option linter.all false
set_option maxRecDepth 100000
set_option maxHeartbeats 1000000
namespace Gk
open PySem PySem.Spec PyProof.Rows L2
/-! ### sorted of pairs of tuples of ints -/
namespace SrtTT
open PySem PyProof.Rows Srt SrtO
theorem lex_asym : ∀ xs ys : List Int, HT.lexLt xs ys = true → HT.lexLt ys xs = false
  | [], [], h => by rw [HT.lexLt_nil_nil] at h; cases h
  | [], y :: ys, _ => HT.lexLt_cons_nil y ys
  | x :: xs, [], h => by rw [HT.lexLt_cons_nil] at h; cases h
  | x :: xs, y :: ys, h => by
    rw [HT.lexLt_cons] at h ⊢
    by_cases e : x = y
    · rw [if_pos e] at h
      rw [if_pos e.symm]
      exact lex_asym xs ys h
    · rw [if_neg e] at h
      rw [if_neg (Ne.symm e)]
      have a := of_decide_eq_true h
      exact decide_eq_false (by omega)
theorem lex_tot : ∀ xs ys : List Int, HT.lexLt xs ys = false → HT.lexLt ys xs = false → xs = ys
  | [], [], _, _ => rfl
  | [], y :: ys, h, _ => by rw [HT.lexLt_nil_cons] at h; cases h
  | x :: xs, [], _, h => by rw [HT.lexLt_nil_cons] at h; cases h
  | x :: xs, y :: ys, h1, h2 => by
    rw [HT.lexLt_cons] at h1 h2
    by_cases e : x = y
    · rw [if_pos e] at h1
      rw [if_pos e.symm] at h2
      rw [e, lex_tot xs ys h1 h2]
    · rw [if_neg e] at h1
      rw [if_neg (Ne.symm e)] at h2
      have a := of_decide_eq_false h1
      have b := of_decide_eq_false h2
      omega
theorem lex_tr : ∀ xs ys zs : List Int, HT.lexLt ys xs = false → HT.lexLt zs ys = false → HT.lexLt zs xs = false
  | [], ys, zs, _, _ => by
    cases zs with
    | nil => exact HT.lexLt_nil_nil
    | cons z zs => exact HT.lexLt_cons_nil z zs
  | x :: xs, [], zs, h, _ => by rw [HT.lexLt_nil_cons] at h; cases h
  | x :: xs, y :: ys, [], _, h => by rw [HT.lexLt_nil_cons] at h; cases h
  | x :: xs, y :: ys, z :: zs, h1, h2 => by
    rw [HT.lexLt_cons] at h1 h2 ⊢
    by_cases e1 : y = x
    · rw [if_pos e1] at h1
      by_cases e2 : z = y
      · rw [if_pos e2] at h2
        rw [if_pos (e2.trans e1)]
        exact lex_tr xs ys zs h1 h2
      · rw [if_neg e2] at h2
        have b := of_decide_eq_false h2
        rw [if_neg (fun q => e2 (q.trans e1.symm))]
        exact decide_eq_false (by omega)
    · rw [if_neg e1] at h1
      have a := of_decide_eq_false h1
      by_cases e2 : z = y
      · rw [if_neg (fun q => e1 (e2.symm.trans q))]
        exact decide_eq_false (by omega)
      · rw [if_neg e2] at h2
        have b := of_decide_eq_false h2
        have n : ¬ z = x := by omega
        rw [if_neg n]
        exact decide_eq_false (by omega)
def ltTT (p q : List Int × List Int) : Bool := if p.1 = q.1 then HT.lexLt p.2 q.2 else HT.lexLt p.1 q.1
theorem tt_asym {p q : List Int × List Int} (h : ltTT p q = true) : ltTT q p = false := by
  unfold ltTT at h ⊢
  by_cases e : p.1 = q.1
  · rw [if_pos e] at h
    rw [if_pos e.symm]
    exact lex_asym _ _ h
  · rw [if_neg e] at h
    rw [if_neg (Ne.symm e)]
    exact lex_asym _ _ h
theorem tt_tot {p q : List Int × List Int} (h1 : ltTT p q = false) (h2 : ltTT q p = false) : p = q := by
  unfold ltTT at h1 h2
  by_cases e : p.1 = q.1
  · rw [if_pos e] at h1
    rw [if_pos e.symm] at h2
    exact Prod.ext e (lex_tot _ _ h1 h2)
  · rw [if_neg e] at h1
    rw [if_neg (Ne.symm e)] at h2
    exact absurd (lex_tot _ _ h1 h2) e
theorem tt_tr {x y z : List Int × List Int} (h1 : ltTT y x = false) (h2 : ltTT z y = false) : ltTT z x = false := by
  unfold ltTT at h1 h2 ⊢
  by_cases e1 : y.1 = x.1
  · rw [if_pos e1] at h1
    by_cases e2 : z.1 = y.1
    · rw [if_pos e2] at h2
      rw [if_pos (e2.trans e1)]
      exact lex_tr _ _ _ h1 h2
    · rw [if_neg e2] at h2
      rw [if_neg (fun q => e2 (q.trans e1.symm)), ← e1]
      exact h2
  · rw [if_neg e1] at h1
    by_cases e2 : z.1 = y.1
    · rw [if_neg (fun q => e1 (e2.symm.trans q)), e2]
      exact h1
    · rw [if_neg e2] at h2
      by_cases e3 : z.1 = x.1
      · rw [e3] at h2
        exact absurd (lex_tot _ _ h1 h2) e1
      · rw [if_neg e3]
        exact lex_tr _ _ _ h1 h2
theorem swo_tt {α : Type} (k : α → List Int × List Int) : Swo (fun v u : α => ltTT (k v) (k u)) := ⟨fun _ _ h => tt_asym h, fun _ _ _ h1 h2 => tt_tr h1 h2⟩
def IsTT (h : Heap) (v : Value) (k : List Int × List Int) : Prop := ∃ p o x y n, v = .ref p ∧ h.get? p = some o ∧ o.cls = .type "tuple" ∧ o.data = .seq #[x, y] n ∧ TS.TupInts h x k.1 ∧ TS.TupInts h y k.2
theorem IsTT.keeps {h h' : Heap} {v : Value} {k : List Int × List Int} (x : IsTT h v k) (kp : ∀ b o, h.get? b = some o → o.cls = .type "tuple" → h'.get? b = some o) : IsTT h' v k := by
  obtain ⟨p, o, x, y, n, e, ho, hc, hd, h1, h2⟩ := x
  exact ⟨p, o, x, y, n, e, kp _ _ ho hc, hc, hd, h1.keeps kp, h2.keeps kp⟩
theorem ints_fun {vs : List Value} {a b : List Int} (h : IntsAre vs a) (h' : IntsAre vs b) : a = b := by
  induction h generalizing b with
  | nil => cases h'; rfl
  | cons n t r ih =>
    cases h' with
    | cons _ _ r' => rw [ih r']
section
variable {prog : Program} {w : World} {A : Around} {E : Value → Shared → Prop} {s : Shared}
theorem all_eq : ∀ (a b : List Int), a.length = b.length → ((List.range a.length).all fun j => decide (a.getD j 0 = b.getD j 0)) = decide (a = b) := by
  intro a b hl
  by_cases e : a = b
  · subst e
    simp
  · rw [decide_eq_false e]
    rw [Bool.eq_false_iff]
    intro h
    apply e
    rw [List.all_eq_true] at h
    apply List.ext_getElem hl
    intro i h1 h2
    have := of_decide_eq_true (h i (List.mem_range.mpr h1))
    simpa [List.getD_eq_getElem?_getD, h1, h2] using this
theorem eqTup {x y : Value} {a b : List Int} (hu : A.units < cLine) (hx : TS.TupInts s.heap x a) (hy : TS.TupInts s.heap y b) : SeqAt.EqAt A s x y (decide (a = b)) := by
  obtain ⟨p, xs, rfl, ⟨o, ho, hc, n, hd⟩, hi⟩ := hx
  obtain ⟨q, ys, rfl, ⟨o', ho', hc', n', hd'⟩, hi'⟩ := hy
  by_cases e : p = q
  · subst e
    rw [ho] at ho'
    cases ho'
    rw [hd] at hd'
    cases hd'
    rw [ints_fun hi hi', decide_eq_true rfl]
    exact SeqAt.EqAt.same _
  · have z1 : xs.size = a.length := by rw [← hi.length]; simp
    have z2 : ys.size = b.length := by rw [← hi'.length]; simp
    have at1 : ∀ j (h1 : j < xs.size), ∃ t, xs[j] = .int (a.getD j 0) t := fun j h1 => PyProof.Rows.IntsAre.int_at hi _ _ (by simp [h1])
    have at2 : ∀ j (h1 : j < ys.size), ∃ t, ys[j] = .int (b.getD j 0) t := fun j h1 => PyProof.Rows.IntsAre.int_at hi' _ _ (by simp [h1])
    have R := SeqAt.RcAt.tuples (A := A) (s := s) (e := fun j => decide (a.getD j 0 = b.getD j 0)) (l := p) (b := q) (items := xs) (items2 := ys) ⟨o, ho, hc, n, hd⟩ ⟨o', ho', hc', n', hd'⟩ hu (fun j h1 h2 => by
      obtain ⟨t, et⟩ := at1 j h1
      obtain ⟨t', et'⟩ := at2 j h2
      rw [et, et']
      have z : (a.getD j 0 == b.getD j 0) = decide (a.getD j 0 = b.getD j 0) := by
        by_cases q : a.getD j 0 = b.getD j 0
        · rw [decide_eq_true q]; exact beq_iff_eq.mpr q
        · rw [decide_eq_false q]; exact beq_eq_false_iff_ne.mpr q
      rw [← z]
      exact SeqAt.EqAt.int_int _ _ _ _)
    have ez : ((List.range (min xs.size ys.size)).all (fun j => decide (a.getD j 0 = b.getD j 0)) && xs.size == ys.size) = decide (a = b) := by
      rw [z1, z2]
      by_cases hl : a.length = b.length
      · rw [hl, Nat.min_self, beq_self_eq_true, Bool.and_true, ← hl]
        exact all_eq a b hl
      · rw [beq_eq_false_iff_ne.mpr hl, Bool.and_false, decide_eq_false (fun q => hl (by rw [q]))]
    rw [ez] at R
    exact SeqAt.EqAt.of_refs e R
theorem tt_cmp {vs : List Value} {k : Value → List Int × List Int} (hu : A.units < cLine) (hp : ∀ v ∈ vs, IsTT s.heap v (k v)) : Cmp prog w A s (tuples' false) (fun p => p.1 ∈ vs) (lt2 fun v u => ltTT (k v) (k u)) := by
  intro p q hm hm'
  have h1 := hp _ hm
  have h2 := hp _ hm'
  show wpAny (model prog w) A (keyLt' (tuples' false) p.1 q.1) (fun r s' => s' = s ∧ r = ltTT (k p.1) (k q.1)) (fun _ _ => False) s
  unfold ltTT
  generalize k p.1 = c at h1 ⊢
  generalize k q.1 = c' at h2 ⊢
  obtain ⟨a, o, x, y, n, e, ho, hc, hd, hx, hy⟩ := h1
  obtain ⟨a', o', x', y', n', e', ho', hc', hd', hx', hy'⟩ := h2
  rw [e, e']
  have lt : ∀ {x y : Value} {a b : List Int}, TS.TupInts s.heap x a → TS.TupInts s.heap y b → ∀ {Q : Bool → Shared → Prop}, Q (HT.lexLt a b) s → wpAny (model prog w) A (oneLt' false x y) Q (fun _ _ => False) s := by
    intro x y a b ix iy Q hq
    obtain ⟨p, xs, rfl, hp, hi⟩ := ix
    obtain ⟨q, ys, rfl, hq', hi'⟩ := iy
    refine PySem.W.kat_one _ _ (HT.lt_tupInts hp hq' hi hi' hu ?_)
    exact hq
  refine PySem.W.kat_lt ho hd ho' hd' ?_
  show PySem.W.KatLex prog w A false (decide (2 < 2)) _ [(x, x'), (y, y')] 0 s
  refine PySem.W.kat_cons (eqTup hu hx hx' prog w _ _ ?_)
  refine PySem.W.kat_go (fun e1 => ?_) (fun e1 => ?_)
  · have ex := of_decide_eq_true e1
    rw [if_pos ex]
    refine PySem.W.kat_yes (PySem.W.kat_cons (eqTup hu hy hy' prog w _ _ ?_))
    refine PySem.W.kat_go (fun e2 => ?_) (fun e2 => ?_)
    · have ey := of_decide_eq_true e2
      refine PySem.W.kat_yes (PySem.W.kat_nil ⟨rfl, ?_⟩)
      rw [ey]
      exact ((swo_tt (fun c : List Int => (([] : List Int), c))).refl c'.2).symm
    · exact PySem.W.kat_no (lt hy hy' ⟨rfl, rfl⟩)
  · rw [if_neg (of_decide_eq_false e1)]
    exact PySem.W.kat_no (lt hx hx' ⟨rfl, rfl⟩)
theorem firsts_tt {h : Heap} : ∀ {vs : List Value}, (∀ v ∈ vs, ∃ k, IsTT h v k) → ∃ fs : List Value, PySem.W.KatTups h vs fs ∧ fs.length = vs.length ∧ ∀ f ∈ fs, ∃ ns, TS.TupInts h f ns
  | [], _ => ⟨[], PySem.W.KatTups.nil, rfl, fun _ hm => by simp at hm⟩
  | v :: vs, hp => by
    obtain ⟨fs, h1, h2, h3⟩ := firsts_tt (vs := vs) fun v' hm => hp v' (List.mem_cons_of_mem _ hm)
    obtain ⟨k, a, o, x, y, n, e, ho, hc, hd, hx, hy⟩ := hp v (List.mem_cons_self ..)
    subst e
    refine ⟨x :: fs, PySem.W.KatTups.cons ho hc hd rfl h1, by rw [List.length_cons, List.length_cons, h2], fun f hm => ?_⟩
    rcases List.mem_cons.mp hm with rfl | hm
    · exact ⟨_, hx⟩
    · exact h3 f hm
theorem tt_sortableO {a : Addr} {vs : List Value} {k : Value → List Int × List Int} (hu : A.units < cLine) (h0 : 0 < vs.length) (hp : ∀ v ∈ vs, IsTT s.heap v (k v)) (ha : ∀ o, s.heap.get? a = some o → o.cls ≠ .type "tuple") : SortableO prog w A s a vs fun v u => ltTT (k v) (k u) := by
  intro h' keep
  have hp' : ∀ v ∈ vs, IsTT h' v (k v) := fun v hm => (hp v hm).keeps fun b o e c => keep b o (fun z => by subst z; exact ha o e c) e
  obtain ⟨fs, h1, h2, h3⟩ := firsts_tt fun v hm => ⟨_, hp' v hm⟩
  refine ⟨tuples' false, fun Q E hq => ?_, tt_cmp (s := { s with heap := h' }) hu hp'⟩
  refine PySem.W.kat_kind (T := .type "tuple") h1 (by omega) (fun f hm => ?_) (by rfl) ?_
  · obtain ⟨ns, p, xs, rfl, ⟨o, ho, hc, _⟩, _⟩ := h3 f hm
    have z : PySem.W.Looks (model prog w) h' (typeOf (.ref p)) o.cls := (PySem.W.Looks.ld ho).andThen .now
    rw [hc] at z
    exact z
  · have e : (Value.type "tuple" != Value.type "tuple") = false := by first | decide +kernel | rfl | decide
    rw [e]
    exact hq
end
end SrtTT
/-- sorted(xs), pairs of tuples of ints, any number of them -/
def rSortedTT (K : PySem.W.Frag) : List V → Hp → VK → Prop := fun vs H Q => ∃ (a : Addr) (xs : List V) (k : V → List Int × List Int), vs = [V.ref a] ∧ SqL K H a xs ∧ (∀ x ∈ xs, ∃ t u v, x = V.ref t ∧ H t = some (.tup [.ref u, .ref v]) ∧ SqT K H u ((k x).1.map V.int) ∧ SqT K H v ((k x).2.map V.int)) ∧
  ∀ ys p, SrtO.Srtd (fun x y => SrtTT.ltTT (k x) (k y)) ys → ys.Perm xs → H p = none → Q (.ref p) (upd H p (.lst ys))
theorem cr_sortedTT {X : Cx} (hu : X.A.units + 64 < cLine) : CallR X (.builtin "sorted") (rSortedTT X.K) := by
  intro pins s σ H vs us Q I r h
  obtain ⟨a, xs, k, rfl, hs, hx, q⟩ := h
  obtain ⟨its, rv, hl, hz⟩ := I.list hs
  obtain ⟨u, rfl, ru⟩ := vals1 r
  obtain rfl : u = Value.ref a := ru
  obtain ⟨e1, e2⟩ := refs_back rv fun x m => by
    obtain ⟨t, _, _, e, _⟩ := hx x m
    exact ⟨t, e⟩
  have hp : ∀ v ∈ its, SrtTT.IsTT s.heap v (k (backV v)) := fun v hv => by
    obtain ⟨t, rfl⟩ := e2 v hv
    have hm : V.ref t ∈ xs := by rw [e1]; exact List.mem_map.mpr ⟨_, hv, rfl⟩
    obtain ⟨t', u1, u2, e, ht, h1, h2⟩ := hx _ hm
    cases e
    obtain ⟨_, its2, r2, o, ho, hc, n, hd⟩ := I.hok _ _ ht
    obtain ⟨w1, w2, rfl, ri, rj⟩ := vals2 r2
    obtain rfl : w1 = Value.ref u1 := ri
    obtain rfl : w2 = Value.ref u2 := rj
    exact ⟨t, o, _, _, n, rfl, ho, hc, hd, tupI_raw I h1, tupI_raw I h2⟩
  refine SrtO.sorted_ord (SrtTT.swo_tt fun u => k (backV u)) hl.isList (by rw [← rv.length]; exact hz) (fun h2 h₁ a' ha kk => ?_) fun out h1 h2 => ?_
  · refine SrtTT.tt_sortableO (k := fun u => k (backV u)) (s := { s with heap := h₁ }) (by simp only [Around.in1_units]; omega) (by omega) (fun v hm => (hp v hm).keeps fun b o e _ => (kk b o e).2) fun o e => ?_
    have e' : some o = some (seqObj "list" its.toArray 0) := e.symm.trans ha
    cases e'
    intro c
    exact absurd (Value.type.inj c) (by decide)
  · have h3 : ∀ u ∈ out, ∃ a, u = Value.ref a := fun u hu => e2 u (h2.perm.mem_iff.mp hu)
    obtain ⟨n, hn⟩ := PyProof.Rows.sortedAll_at s.heap its out.toArray
    have hb : (out.map backV).Perm xs := by
      rw [e1]
      exact h2.perm.map backV
    refine ⟨.ref _, upd H (s.heap.objs.size + 1) (.lst (out.map backV)), I.laid (t' := s.toks) (fun _ _ => PyProof.Rows.sortedAll_old) (Nat.le_succ _) ⟨?_, out, n, vals_back h3, hn⟩, rfl, q _ _ (SrtO.srtd_map h1) hb (I.hok.fresh (Nat.le_succ _))⟩
    rw [hb.length_eq]
    exact hz

/-! ### sorted of tuples of ints, any number of them -/
namespace SrtT
open PySem PyProof.Rows Srt SrtO
theorem swo_t {α : Type} (k : α → List Int) : Swo (fun v u : α => HT.lexLt (k v) (k u)) := ⟨fun _ _ h => SrtTT.lex_asym _ _ h, fun _ _ _ h1 h2 => SrtTT.lex_tr _ _ _ h1 h2⟩
section
variable {prog : Program} {w : World} {A : Around} {E : Value → Shared → Prop} {s : Shared}
theorem lex {Q : Bool → Shared → Prop} : ∀ {xs ys : List Value} {a b : List Int} (i : Nat), IntsAre xs a → IntsAre ys b → a.length = b.length → Q (HT.lexLt a b) s → PySem.W.KatLex prog w A true false Q (xs.zip ys) i s
  | _, _, _, _, i, .nil, .nil, _, h => PySem.W.kat_nil h
  | _, _, _, _, i, .nil, .cons _ _ _, hl, h => by simp at hl
  | _, _, _, _, i, .cons _ _ _, .nil, hl, h => by simp at hl
  | _, _, _, _, i, .cons n t r, .cons m u r', hl, h => by
    refine PySem.W.kat_cons (SeqAt.EqAt.int_int _ _ _ _ prog w _ _ ?_)
    refine PySem.W.kat_go (fun e => ?_) (fun e => ?_)
    · have e : n = m := beq_iff_eq.mp e
      rw [HT.lexLt_cons, if_pos e] at h
      exact PySem.W.kat_yes (lex (i + 1) r r' (by simpa using hl) h)
    · have e : n ≠ m := beq_eq_false_iff_ne.mp e
      rw [HT.lexLt_cons, if_neg e] at h
      exact PySem.W.kat_no (TS.oneLt_ints _ h)
theorem t_cmp {d : Nat} {vs : List Value} {k : Value → List Int} (hp : ∀ v ∈ vs, TS.TupInts s.heap v (k v) ∧ (k v).length = d) : Cmp prog w A s (tuples' true) (fun p => p.1 ∈ vs) (lt2 fun v u => HT.lexLt (k v) (k u)) := by
  intro p q hm hm'
  obtain ⟨h1, l1⟩ := hp _ hm
  obtain ⟨h2, l2⟩ := hp _ hm'
  show wpAny (model prog w) A (keyLt' (tuples' true) p.1 q.1) (fun r s' => s' = s ∧ r = HT.lexLt (k p.1) (k q.1)) (fun _ _ => False) s
  generalize k p.1 = c at h1 l1 ⊢
  generalize k q.1 = c' at h2 l2 ⊢
  obtain ⟨a, xs, e, ⟨o, ho, hc, n, hd⟩, hi⟩ := h1
  obtain ⟨a', ys, e', ⟨o', ho', hc', n', hd'⟩, hi'⟩ := h2
  rw [e, e']
  refine PySem.W.kat_lt ho hd ho' hd' ?_
  have z1 : xs.size = c.length := by rw [← hi.length]; simp
  have z2 : ys.size = c'.length := by rw [← hi'.length]; simp
  have z : decide (xs.size < ys.size) = false := decide_eq_false (by omega)
  rw [z]
  exact lex 0 hi hi' (by omega) ⟨rfl, rfl⟩
theorem firsts_t {d : Nat} {h : Heap} (hd : 1 ≤ d) : ∀ {vs : List Value}, (∀ v ∈ vs, ∃ k, TS.TupInts h v k ∧ k.length = d) → ∃ fs : List Value, PySem.W.KatTups h vs fs ∧ fs.length = vs.length ∧ ∀ f ∈ fs, ∃ n t, f = Value.int n t
  | [], _ => ⟨[], PySem.W.KatTups.nil, rfl, fun _ hm => by simp at hm⟩
  | v :: vs, hp => by
    obtain ⟨fs, h1, h2, h3⟩ := firsts_t hd (vs := vs) fun v' hm => hp v' (List.mem_cons_of_mem _ hm)
    obtain ⟨k, ⟨a, xs, e, ⟨o, ho, hc, n, hdd⟩, hi⟩, hl⟩ := hp v (List.mem_cons_self ..)
    subst e
    have z1 : xs.size = k.length := by rw [← hi.length]; simp
    have h0 : 0 < xs.size := by omega
    obtain ⟨t, et⟩ := PyProof.Rows.IntsAre.int_at hi 0 xs[0] (by simp [h0])
    refine ⟨xs[0] :: fs, PySem.W.KatTups.cons ho hc hdd (by simp [h0]) h1, by rw [List.length_cons, List.length_cons, h2], fun f hm => ?_⟩
    rcases List.mem_cons.mp hm with rfl | hm
    · exact ⟨_, _, et⟩
    · exact h3 f hm
theorem t_sortableO {d : Nat} {a : Addr} {vs : List Value} {k : Value → List Int} (hd : 1 ≤ d) (h0 : 0 < vs.length) (hp : ∀ v ∈ vs, TS.TupInts s.heap v (k v) ∧ (k v).length = d) (ha : ∀ o, s.heap.get? a = some o → o.cls ≠ .type "tuple") : SortableO prog w A s a vs fun v u => HT.lexLt (k v) (k u) := by
  intro h' keep
  have hp' : ∀ v ∈ vs, TS.TupInts h' v (k v) ∧ (k v).length = d := fun v hm => ⟨(hp v hm).1.keeps fun b o e c => keep b o (fun z => by subst z; exact ha o e c) e, (hp v hm).2⟩
  obtain ⟨fs, h1, h2, h3⟩ := firsts_t hd fun v hm => ⟨_, hp' v hm⟩
  refine ⟨tuples' true, fun Q E hq => ?_, t_cmp (s := { s with heap := h' }) hp'⟩
  refine PySem.W.kat_kind (T := .type "int") h1 (by omega) (fun f hm => ?_) (by rfl) ?_
  · obtain ⟨n, t, rfl⟩ := h3 f hm
    exact .now
  · have e : (Value.type "int" != Value.type "tuple") = true := by first | decide +kernel | rfl | decide
    rw [e]
    exact hq
end
end SrtT
/-- sorted(xs), tuples of d ints, any number of them -/
def rSortedTn (K : PySem.W.Frag) (d : Nat) : List V → Hp → VK → Prop := fun vs H Q => ∃ (a : Addr) (xs : List V) (k : V → List Int), vs = [V.ref a] ∧ SqL K H a xs ∧ (∀ x ∈ xs, ∃ t, x = V.ref t ∧ SqT K H t ((k x).map V.int) ∧ (k x).length = d) ∧
  ∀ ys p, SrtO.Srtd (fun x y => HT.lexLt (k x) (k y)) ys → ys.Perm xs → H p = none → Q (.ref p) (upd H p (.lst ys))
theorem cr_sortedTn {X : Cx} {d : Nat} (hd : 1 ≤ d) : CallR X (.builtin "sorted") (rSortedTn X.K d) := by
  intro pins s σ H vs us Q I r h
  obtain ⟨a, xs, k, rfl, hs, hx, q⟩ := h
  obtain ⟨its, rv, hl, hz⟩ := I.list hs
  obtain ⟨u, rfl, ru⟩ := vals1 r
  obtain rfl : u = Value.ref a := ru
  obtain ⟨e1, e2⟩ := refs_back rv fun x m => by
    obtain ⟨t, e, _⟩ := hx x m
    exact ⟨t, e⟩
  have hp : ∀ v ∈ its, TS.TupInts s.heap v (k (backV v)) ∧ (k (backV v)).length = d := fun v hv => by
    obtain ⟨t, rfl⟩ := e2 v hv
    have hm : V.ref t ∈ xs := by rw [e1]; exact List.mem_map.mpr ⟨_, hv, rfl⟩
    obtain ⟨t', e, h1, h2⟩ := hx _ hm
    cases e
    exact ⟨tupI_raw I h1, h2⟩
  refine SrtO.sorted_ord (SrtT.swo_t fun u => k (backV u)) hl.isList (by rw [← rv.length]; exact hz) (fun h2 h₁ a' ha kk => ?_) fun out h1 h2 => ?_
  · refine SrtT.t_sortableO (d := d) (k := fun u => k (backV u)) (s := { s with heap := h₁ }) hd (by omega) (fun v hm => ⟨(hp v hm).1.keeps fun b o e _ => (kk b o e).2, (hp v hm).2⟩) fun o e => ?_
    have e' : some o = some (seqObj "list" its.toArray 0) := e.symm.trans ha
    cases e'
    intro c
    exact absurd (Value.type.inj c) (by decide)
  · have h3 : ∀ u ∈ out, ∃ a, u = Value.ref a := fun u hu => e2 u (h2.perm.mem_iff.mp hu)
    obtain ⟨n, hn⟩ := PyProof.Rows.sortedAll_at s.heap its out.toArray
    have hb : (out.map backV).Perm xs := by
      rw [e1]
      exact h2.perm.map backV
    refine ⟨.ref _, upd H (s.heap.objs.size + 1) (.lst (out.map backV)), I.laid (t' := s.toks) (fun _ _ => PyProof.Rows.sortedAll_old) (Nat.le_succ _) ⟨?_, out, n, vals_back h3, hn⟩, rfl, q _ _ (SrtO.srtd_map h1) hb (I.hok.fresh (Nat.le_succ _))⟩
    rw [hb.length_eq]
    exact hz

end Gk

set_option Elab.async false
set_option linter.all false
set_option maxRecDepth 100000
set_option maxHeartbeats 1000000
namespace Gk
open PySem PySem.Spec PyProof.Rows L2
/-! ### the text -/
def topS (i : Nat) : Stmt := PySem.Challenge.pw_glitchnet_k45_free_covers.main.body.getD i (.Pass ⟨0, 0, 0, 0⟩)
abbrev s_is_whole : Stmt := topS 1
abbrev s_choices_of : Stmt := topS 4
abbrev s_rows_of : Stmt := topS 5
abbrev s_show_row : Stmt := topS 7
abbrev s_is_product : Stmt := topS 9
abbrev s_holds_row : Stmt := topS 10
abbrev s_holds_all : Stmt := topS 11
abbrev s_meet : Stmt := topS 12
abbrev s_cube_of : Stmt := topS 13
abbrev s_is_cover : Stmt := topS 15
abbrev s_told_of : Stmt := topS 16
abbrev s_cover_word : Stmt := topS 17
abbrev s_judged : Stmt := topS 18
abbrev s_first_holding : Stmt := topS 19
abbrev s_flashes : Stmt := topS 20
abbrev s_is_free : Stmt := topS 22
abbrev s_deck : Stmt := topS 24
abbrev s_next : Stmt := topS 25
abbrev s_rows : Stmt := topS 26
abbrev s_holds : Stmt := topS 27
abbrev s_inside : Stmt := topS 28
abbrev s_meets : Stmt := topS 29
abbrev s_cube : Stmt := topS 30
abbrev s_product : Stmt := topS 31
abbrev s_table : Stmt := topS 32
abbrev s_worth : Stmt := topS 33
abbrev s_change : Stmt := topS 34
abbrev s_wish : Stmt := topS 35
abbrev s_all_products : Stmt := topS 36
abbrev s_fits : Stmt := topS 37
abbrev s_allowed : Stmt := topS 38
abbrev s_asked : Stmt := topS 39
abbrev s_told_worth : Stmt := topS 40
abbrev s_fro : Stmt := topS 41
abbrev s_l_is_free : Stmt := topS 42
abbrev s_cover : Stmt := topS 43
abbrev s_other_words : Stmt := topS 44
abbrev s_odd : Stmt := topS 45
abbrev s_law : Stmt := topS 46
theorem sc_is_whole : FnScope ["thing"] ["thing"] (defScope s_is_whole) := ⟨rfl, rfl, rfl, by decide +kernel, rfl, by decide +kernel, by decide +kernel⟩
theorem sc_choices_of : FnScope ["lists", "choices", "options", "choice", "option"] ["lists"] (defScope s_choices_of) := ⟨rfl, rfl, rfl, by decide +kernel, rfl, by decide +kernel, by decide +kernel⟩
theorem sc_rows_of : FnScope ["many"] ["many"] (defScope s_rows_of) := ⟨rfl, rfl, rfl, by decide +kernel, rfl, by decide +kernel, by decide +kernel⟩
theorem sc_show_row : FnScope ["row", "worth"] ["row"] (defScope s_show_row) := ⟨rfl, rfl, rfl, by decide +kernel, rfl, by decide +kernel, by decide +kernel⟩
theorem sc_is_product : FnScope ["many", "thing", "sign"] ["many", "thing"] (defScope s_is_product) := ⟨rfl, rfl, rfl, by decide +kernel, rfl, by decide +kernel, by decide +kernel⟩
theorem sc_holds_row : FnScope ["product", "row"] ["product", "row"] (defScope s_holds_row) := ⟨rfl, rfl, rfl, by decide +kernel, rfl, by decide +kernel, by decide +kernel⟩
theorem sc_holds_all : FnScope ["product", "other", "sign", "held"] ["product", "other"] (defScope s_holds_all) := ⟨rfl, rfl, rfl, by decide +kernel, rfl, by decide +kernel, by decide +kernel⟩
theorem sc_meet : FnScope ["product", "other", "one", "two"] ["product", "other"] (defScope s_meet) := ⟨rfl, rfl, rfl, by decide +kernel, rfl, by decide +kernel, by decide +kernel⟩
theorem sc_cube_of : FnScope ["change", "a", "b", "before", "after"] ["change"] (defScope s_cube_of) := ⟨rfl, rfl, rfl, by decide +kernel, rfl, by decide +kernel, by decide +kernel⟩
theorem sc_is_cover : FnScope ["thing", "many", "products", "product"] ["thing"] (defScope s_is_cover) := ⟨rfl, rfl, rfl, by decide +kernel, rfl, by decide +kernel, by decide +kernel⟩
theorem sc_told_of : FnScope ["cover", "row", "product"] ["cover", "row"] (defScope s_told_of) := ⟨rfl, rfl, rfl, by decide +kernel, rfl, by decide +kernel, by decide +kernel⟩
theorem sc_cover_word : FnScope ["cover", "change", "a", "b"] ["cover", "change"] (defScope s_cover_word) := ⟨rfl, rfl, rfl, by decide +kernel, rfl, by decide +kernel, by decide +kernel⟩
theorem sc_judged : FnScope ["cover", "change", "a", "b", "products", "k", "product"] ["cover", "change"] (defScope s_judged) := ⟨rfl, rfl, rfl, by decide +kernel, rfl, by decide +kernel, by decide +kernel⟩
theorem sc_first_holding : FnScope ["products", "change", "cube", "k", "product"] ["products", "change"] (defScope s_first_holding) := ⟨rfl, rfl, rfl, by decide +kernel, rfl, by decide +kernel, by decide +kernel⟩
theorem sc_flashes : FnScope ["product", "change", "a", "b"] ["product", "change"] (defScope s_flashes) := ⟨rfl, rfl, rfl, by decide +kernel, rfl, by decide +kernel, by decide +kernel⟩
theorem sc_is_free : FnScope ["wish", "cover", "many", "table", "changes", "plain", "row", "sign", "change"] ["wish", "cover"] (defScope s_is_free) := ⟨rfl, rfl, rfl, by decide +kernel, rfl, by decide +kernel, by decide +kernel⟩
theorem sc_deck : FnScope ["_law_script"] ["_law_script"] (defScope s_deck) := ⟨rfl, rfl, rfl, by decide +kernel, rfl, by decide +kernel, by decide +kernel⟩
theorem sc_next : FnScope ["_law_deck_here", "_law_most", "_law_cells", "_law_number", "_law_seed"] ["_law_deck_here", "_law_most"] (defScope s_next) := ⟨rfl, rfl, rfl, by decide +kernel, rfl, by decide +kernel, by decide +kernel⟩
theorem sc_rows : FnScope ["_law_many", "_law_found", "_law_place", "_law_row"] ["_law_many"] (defScope s_rows) := ⟨rfl, rfl, rfl, by decide +kernel, rfl, by decide +kernel, by decide +kernel⟩
theorem sc_holds : FnScope ["_law_product_here", "_law_row", "_law_k"] ["_law_product_here", "_law_row"] (defScope s_holds) := ⟨rfl, rfl, rfl, by decide +kernel, rfl, by decide +kernel, by decide +kernel⟩
theorem sc_inside : FnScope ["_law_product_here", "_law_other", "_law_k"] ["_law_product_here", "_law_other"] (defScope s_inside) := ⟨rfl, rfl, rfl, by decide +kernel, rfl, by decide +kernel, by decide +kernel⟩
theorem sc_meets : FnScope ["_law_product_here", "_law_other", "_law_k"] ["_law_product_here", "_law_other"] (defScope s_meets) := ⟨rfl, rfl, rfl, by decide +kernel, rfl, by decide +kernel, by decide +kernel⟩
theorem sc_cube : FnScope ["_law_one", "_law_other", "_law_k"] ["_law_one", "_law_other"] (defScope s_cube) := ⟨rfl, rfl, rfl, by decide +kernel, rfl, by decide +kernel, by decide +kernel⟩
theorem sc_product : FnScope ["_law_deck_here", "_law_many", "_law_bare", "_law_found", "_law_place", "_law_sign"] ["_law_deck_here", "_law_many"] (defScope s_product) := ⟨rfl, rfl, rfl, by decide +kernel, rfl, by decide +kernel, by decide +kernel⟩
theorem sc_table : FnScope ["_law_deck_here", "_law_many", "_law_way", "_law_products", "_law_rows_here", "_law_odd_here", "_law_table_here", "_law_k", "_law_row", "_law_worth_here", "_law_one"] ["_law_deck_here", "_law_many"] (defScope s_table) := ⟨rfl, rfl, rfl, by decide +kernel, rfl, by decide +kernel, by decide +kernel⟩
theorem sc_worth : FnScope ["_law_wish_here", "_law_row", "_law_number", "_law_worth_here"] ["_law_wish_here", "_law_row"] (defScope s_worth) := ⟨rfl, rfl, rfl, by decide +kernel, rfl, by decide +kernel, by decide +kernel⟩
theorem sc_change : FnScope ["_law_deck_here", "_law_many", "_law_table_here", "_law_way", "_law_rows_here", "_law_one", "_law_other", "_law_place", "_law_ones", "_law_noughts", "_law_bright", "_law_dark", "_law_beside", "_law_k", "_law_row"] ["_law_deck_here", "_law_many", "_law_table_here"] (defScope s_change) := ⟨rfl, rfl, rfl, by decide +kernel, rfl, by decide +kernel, by decide +kernel⟩
theorem sc_wish : FnScope ["_law_deck_here", "_law_most", "_law_many", "_law_way", "_law_count", "_law_table_here", "_law_k"] ["_law_deck_here", "_law_most"] (defScope s_wish) := ⟨rfl, rfl, rfl, by decide +kernel, rfl, by decide +kernel, by decide +kernel⟩
theorem sc_all_products : FnScope ["_law_many", "_law_found", "_law_place", "_law_one"] ["_law_many"] (defScope s_all_products) := ⟨rfl, rfl, rfl, by decide +kernel, rfl, by decide +kernel, by decide +kernel⟩
theorem sc_fits : FnScope ["_law_wish_here", "_law_product_here", "_law_change_here", "_law_bright", "_law_row"] ["_law_wish_here", "_law_product_here", "_law_change_here"] (defScope s_fits) := ⟨rfl, rfl, rfl, by decide +kernel, rfl, by decide +kernel, by decide +kernel⟩
theorem sc_allowed : FnScope ["_law_wish_here", "_law_product_here", "_law_k", "_law_row", "_law_change_here"] ["_law_wish_here", "_law_product_here"] (defScope s_allowed) := ⟨rfl, rfl, rfl, by decide +kernel, rfl, by decide +kernel, by decide +kernel⟩
theorem sc_asked : FnScope ["_law_wish_here", "_law_found", "_law_row", "_law_one", "_law_other"] ["_law_wish_here"] (defScope s_asked) := ⟨rfl, rfl, rfl, by decide +kernel, rfl, by decide +kernel, by decide +kernel⟩
theorem sc_told_worth : FnScope ["_law_cover_here", "_law_row", "_law_one"] ["_law_cover_here", "_law_row"] (defScope s_told_worth) := ⟨rfl, rfl, rfl, by decide +kernel, rfl, by decide +kernel, by decide +kernel⟩
theorem sc_fro : FnScope ["_law_cover_here", "_law_change_here", "_law_one", "_law_other", "_law_worths", "_law_bright", "_law_product_here", "_law_row", "_law_worth_here"] ["_law_cover_here", "_law_change_here"] (defScope s_fro) := ⟨rfl, rfl, rfl, by decide +kernel, rfl, by decide +kernel, by decide +kernel⟩
theorem sc_l_is_free : FnScope ["_law_wish_here", "_law_cover_here", "_law_k", "_law_row", "_law_change_here"] ["_law_wish_here", "_law_cover_here"] (defScope s_l_is_free) := ⟨rfl, rfl, rfl, by decide +kernel, rfl, by decide +kernel, by decide +kernel⟩
theorem sc_cover : FnScope ["_law_deck_here", "_law_wish_here", "_law_way", "_law_menu", "_law_some", "_law_one", "_law_holders", "_law_near", "_law_at", "_law_more", "_law_product_here", "_law_k"] ["_law_deck_here", "_law_wish_here"] (defScope s_cover) := ⟨rfl, rfl, rfl, by decide +kernel, rfl, by decide +kernel, by decide +kernel⟩
theorem sc_other_words : FnScope ["_law_wish_here", "_law_cover_here", "_law_one", "_law_product_here"] ["_law_wish_here", "_law_cover_here"] (defScope s_other_words) := ⟨rfl, rfl, rfl, by decide +kernel, rfl, by decide +kernel, by decide +kernel⟩
theorem sc_odd : FnScope ["_law_wish_here", "_law_cover_here", "_law_many", "_law_some", "_law_found", "_law_one"] ["_law_wish_here", "_law_cover_here"] (defScope s_odd) := ⟨rfl, rfl, rfl, by decide +kernel, rfl, by decide +kernel, by decide +kernel⟩
theorem sc_law : FnScope ["_law_script", "_law_deck_here", "_law_turn", "_law_wish_here", "_law_k", "_law_cover_here", "_law_due", "_law_again", "_law_found", "_law_thing"] ["_law_script"] (defScope s_law) := ⟨rfl, rfl, rfl, by decide +kernel, rfl, by decide +kernel, by decide +kernel⟩
structure Tx (K : PySem.W.Frag) (mg : Str → Option Value) where
  f_is_whole : Addr
  fd_is_whole : FuncData
  F_is_whole : Fun K "is_whole" "is_whole" s_is_whole f_is_whole fd_is_whole
  g_is_whole : mg "is_whole" = some (.ref f_is_whole)
  b_is_whole : Binds K fd_is_whole ["thing"] []
  f_choices_of : Addr
  fd_choices_of : FuncData
  F_choices_of : Fun K "choices_of" "choices_of" s_choices_of f_choices_of fd_choices_of
  g_choices_of : mg "choices_of" = some (.ref f_choices_of)
  b_choices_of : Binds K fd_choices_of ["lists"] []
  f_rows_of : Addr
  fd_rows_of : FuncData
  F_rows_of : Fun K "rows_of" "rows_of" s_rows_of f_rows_of fd_rows_of
  g_rows_of : mg "rows_of" = some (.ref f_rows_of)
  b_rows_of : Binds K fd_rows_of ["many"] []
  f_show_row : Addr
  fd_show_row : FuncData
  F_show_row : Fun K "show_row" "show_row" s_show_row f_show_row fd_show_row
  g_show_row : mg "show_row" = some (.ref f_show_row)
  b_show_row : Binds K fd_show_row ["row"] []
  c_show_row : Addr
  P_show_row : Addr
  cd_show_row : fd_show_row.code = .ref c_show_row
  f_is_product : Addr
  fd_is_product : FuncData
  F_is_product : Fun K "is_product" "is_product" s_is_product f_is_product fd_is_product
  g_is_product : mg "is_product" = some (.ref f_is_product)
  b_is_product : Binds K fd_is_product ["many", "thing"] []
  c_is_product : Addr
  P_is_product : Addr
  cd_is_product : fd_is_product.code = .ref c_is_product
  f_holds_row : Addr
  fd_holds_row : FuncData
  F_holds_row : Fun K "holds_row" "holds_row" s_holds_row f_holds_row fd_holds_row
  g_holds_row : mg "holds_row" = some (.ref f_holds_row)
  b_holds_row : Binds K fd_holds_row ["product", "row"] []
  f_holds_all : Addr
  fd_holds_all : FuncData
  F_holds_all : Fun K "holds_all" "holds_all" s_holds_all f_holds_all fd_holds_all
  g_holds_all : mg "holds_all" = some (.ref f_holds_all)
  b_holds_all : Binds K fd_holds_all ["product", "other"] []
  c_holds_all : Addr
  P_holds_all : Addr
  cd_holds_all : fd_holds_all.code = .ref c_holds_all
  f_meet : Addr
  fd_meet : FuncData
  F_meet : Fun K "meet" "meet" s_meet f_meet fd_meet
  g_meet : mg "meet" = some (.ref f_meet)
  b_meet : Binds K fd_meet ["product", "other"] []
  c_meet : Addr
  P_meet : Addr
  cd_meet : fd_meet.code = .ref c_meet
  f_cube_of : Addr
  fd_cube_of : FuncData
  F_cube_of : Fun K "cube_of" "cube_of" s_cube_of f_cube_of fd_cube_of
  g_cube_of : mg "cube_of" = some (.ref f_cube_of)
  b_cube_of : Binds K fd_cube_of ["change"] []
  c_cube_of : Addr
  P_cube_of : Addr
  cd_cube_of : fd_cube_of.code = .ref c_cube_of
  f_is_cover : Addr
  fd_is_cover : FuncData
  F_is_cover : Fun K "is_cover" "is_cover" s_is_cover f_is_cover fd_is_cover
  g_is_cover : mg "is_cover" = some (.ref f_is_cover)
  b_is_cover : Binds K fd_is_cover ["thing"] []
  c_is_cover : Addr
  P_is_cover : Addr
  cd_is_cover : fd_is_cover.code = .ref c_is_cover
  f_told_of : Addr
  fd_told_of : FuncData
  F_told_of : Fun K "told_of" "told_of" s_told_of f_told_of fd_told_of
  g_told_of : mg "told_of" = some (.ref f_told_of)
  b_told_of : Binds K fd_told_of ["cover", "row"] []
  c_told_of : Addr
  P_told_of : Addr
  cd_told_of : fd_told_of.code = .ref c_told_of
  f_cover_word : Addr
  fd_cover_word : FuncData
  F_cover_word : Fun K "cover_word" "cover_word" s_cover_word f_cover_word fd_cover_word
  g_cover_word : mg "cover_word" = some (.ref f_cover_word)
  b_cover_word : Binds K fd_cover_word ["cover", "change"] []
  f_judged : Addr
  fd_judged : FuncData
  F_judged : Fun K "judged" "judged" s_judged f_judged fd_judged
  g_judged : mg "judged" = some (.ref f_judged)
  b_judged : Binds K fd_judged ["cover", "change"] []
  f_first_holding : Addr
  fd_first_holding : FuncData
  F_first_holding : Fun K "first_holding" "first_holding" s_first_holding f_first_holding fd_first_holding
  g_first_holding : mg "first_holding" = some (.ref f_first_holding)
  b_first_holding : Binds K fd_first_holding ["products", "change"] []
  f_flashes : Addr
  fd_flashes : FuncData
  F_flashes : Fun K "flashes" "flashes" s_flashes f_flashes fd_flashes
  g_flashes : mg "flashes" = some (.ref f_flashes)
  b_flashes : Binds K fd_flashes ["product", "change"] []
  f_is_free : Addr
  fd_is_free : FuncData
  F_is_free : Fun K "is_free" "is_free" s_is_free f_is_free fd_is_free
  g_is_free : mg "is_free" = some (.ref f_is_free)
  b_is_free : Binds K fd_is_free ["wish", "cover"] []
  c_is_free : Addr
  P_is_free : Addr
  cd_is_free : fd_is_free.code = .ref c_is_free
  f_deck : Addr
  fd_deck : FuncData
  F_deck : Fun K "_law_deck" "_law_deck" s_deck f_deck fd_deck
  g_deck : mg "_law_deck" = some (.ref f_deck)
  b_deck : Binds K fd_deck ["_law_script"] []
  f_next : Addr
  fd_next : FuncData
  F_next : Fun K "_law_next" "_law_next" s_next f_next fd_next
  g_next : mg "_law_next" = some (.ref f_next)
  b_next : Binds K fd_next ["_law_deck_here", "_law_most"] []
  f_rows : Addr
  fd_rows : FuncData
  F_rows : Fun K "_law_rows" "_law_rows" s_rows f_rows fd_rows
  g_rows : mg "_law_rows" = some (.ref f_rows)
  b_rows : Binds K fd_rows ["_law_many"] []
  f_holds : Addr
  fd_holds : FuncData
  F_holds : Fun K "_law_holds" "_law_holds" s_holds f_holds fd_holds
  g_holds : mg "_law_holds" = some (.ref f_holds)
  b_holds : Binds K fd_holds ["_law_product_here", "_law_row"] []
  f_inside : Addr
  fd_inside : FuncData
  F_inside : Fun K "_law_inside" "_law_inside" s_inside f_inside fd_inside
  g_inside : mg "_law_inside" = some (.ref f_inside)
  b_inside : Binds K fd_inside ["_law_product_here", "_law_other"] []
  f_meets : Addr
  fd_meets : FuncData
  F_meets : Fun K "_law_meets" "_law_meets" s_meets f_meets fd_meets
  g_meets : mg "_law_meets" = some (.ref f_meets)
  b_meets : Binds K fd_meets ["_law_product_here", "_law_other"] []
  f_cube : Addr
  fd_cube : FuncData
  F_cube : Fun K "_law_cube" "_law_cube" s_cube f_cube fd_cube
  g_cube : mg "_law_cube" = some (.ref f_cube)
  b_cube : Binds K fd_cube ["_law_one", "_law_other"] []
  f_product : Addr
  fd_product : FuncData
  F_product : Fun K "_law_product" "_law_product" s_product f_product fd_product
  g_product : mg "_law_product" = some (.ref f_product)
  b_product : Binds K fd_product ["_law_deck_here", "_law_many"] []
  f_table : Addr
  fd_table : FuncData
  F_table : Fun K "_law_table" "_law_table" s_table f_table fd_table
  g_table : mg "_law_table" = some (.ref f_table)
  b_table : Binds K fd_table ["_law_deck_here", "_law_many"] []
  f_worth : Addr
  fd_worth : FuncData
  F_worth : Fun K "_law_worth" "_law_worth" s_worth f_worth fd_worth
  g_worth : mg "_law_worth" = some (.ref f_worth)
  b_worth : Binds K fd_worth ["_law_wish_here", "_law_row"] []
  f_change : Addr
  fd_change : FuncData
  F_change : Fun K "_law_change" "_law_change" s_change f_change fd_change
  g_change : mg "_law_change" = some (.ref f_change)
  b_change : Binds K fd_change ["_law_deck_here", "_law_many", "_law_table_here"] []
  f_wish : Addr
  fd_wish : FuncData
  F_wish : Fun K "_law_wish" "_law_wish" s_wish f_wish fd_wish
  g_wish : mg "_law_wish" = some (.ref f_wish)
  b_wish : Binds K fd_wish ["_law_deck_here", "_law_most"] []
  f_all_products : Addr
  fd_all_products : FuncData
  F_all_products : Fun K "_law_all_products" "_law_all_products" s_all_products f_all_products fd_all_products
  g_all_products : mg "_law_all_products" = some (.ref f_all_products)
  b_all_products : Binds K fd_all_products ["_law_many"] []
  f_fits : Addr
  fd_fits : FuncData
  F_fits : Fun K "_law_fits" "_law_fits" s_fits f_fits fd_fits
  g_fits : mg "_law_fits" = some (.ref f_fits)
  b_fits : Binds K fd_fits ["_law_wish_here", "_law_product_here", "_law_change_here"] []
  f_allowed : Addr
  fd_allowed : FuncData
  F_allowed : Fun K "_law_allowed" "_law_allowed" s_allowed f_allowed fd_allowed
  g_allowed : mg "_law_allowed" = some (.ref f_allowed)
  b_allowed : Binds K fd_allowed ["_law_wish_here", "_law_product_here"] []
  f_asked : Addr
  fd_asked : FuncData
  F_asked : Fun K "_law_asked" "_law_asked" s_asked f_asked fd_asked
  g_asked : mg "_law_asked" = some (.ref f_asked)
  b_asked : Binds K fd_asked ["_law_wish_here"] []
  f_told_worth : Addr
  fd_told_worth : FuncData
  F_told_worth : Fun K "_law_told_worth" "_law_told_worth" s_told_worth f_told_worth fd_told_worth
  g_told_worth : mg "_law_told_worth" = some (.ref f_told_worth)
  b_told_worth : Binds K fd_told_worth ["_law_cover_here", "_law_row"] []
  f_fro : Addr
  fd_fro : FuncData
  F_fro : Fun K "_law_fro" "_law_fro" s_fro f_fro fd_fro
  g_fro : mg "_law_fro" = some (.ref f_fro)
  b_fro : Binds K fd_fro ["_law_cover_here", "_law_change_here"] []
  f_l_is_free : Addr
  fd_l_is_free : FuncData
  F_l_is_free : Fun K "_law_is_free" "_law_is_free" s_l_is_free f_l_is_free fd_l_is_free
  g_l_is_free : mg "_law_is_free" = some (.ref f_l_is_free)
  b_l_is_free : Binds K fd_l_is_free ["_law_wish_here", "_law_cover_here"] []
  f_cover : Addr
  fd_cover : FuncData
  F_cover : Fun K "_law_cover" "_law_cover" s_cover f_cover fd_cover
  g_cover : mg "_law_cover" = some (.ref f_cover)
  b_cover : Binds K fd_cover ["_law_deck_here", "_law_wish_here"] []
  f_other_words : Addr
  fd_other_words : FuncData
  F_other_words : Fun K "_law_other_words" "_law_other_words" s_other_words f_other_words fd_other_words
  g_other_words : mg "_law_other_words" = some (.ref f_other_words)
  b_other_words : Binds K fd_other_words ["_law_wish_here", "_law_cover_here"] []
  f_odd : Addr
  fd_odd : FuncData
  F_odd : Fun K "_law_odd" "_law_odd" s_odd f_odd fd_odd
  g_odd : mg "_law_odd" = some (.ref f_odd)
  b_odd : Binds K fd_odd ["_law_wish_here", "_law_cover_here"] []
  f_law : Addr
  fd_law : FuncData
  F_law : Fun K "law" "law" s_law f_law fd_law
  g_law : mg "law" = some (.ref f_law)
  b_law : Binds K fd_law ["_law_script"] []
  m_all : mg "all" = none
  m_any : mg "any" = none
  m_bool : mg "bool" = none
  m_enumerate : mg "enumerate" = none
  m_int : mg "int" = none
  m_isinstance : mg "isinstance" = none
  m_len : mg "len" = none
  m_list : mg "list" = none
  m_range : mg "range" = none
  m_set : mg "set" = none
  m_sorted : mg "sorted" = none
  m_str : mg "str" = none
  m_sum : mg "sum" = none
  m_tuple : mg "tuple" = none
  m_zip : mg "zip" = none
  k_MOST_INPUTS : ∃ t, mg "MOST_INPUTS" = some (.int 6 t)
structure Tb (base : Heap) {K : PySem.W.Frag} {mg : Str → Option Value} (T : Tx K mg) : Prop where
  TB_show_row : GxR.TabB base mg T.c_show_row T.P_show_row
  TB_is_product : GxR.TabB base mg T.c_is_product T.P_is_product
  TB_holds_all : GxR.TabB base mg T.c_holds_all T.P_holds_all
  TB_meet : GxR.TabB base mg T.c_meet T.P_meet
  TB_cube_of : GxR.TabB base mg T.c_cube_of T.P_cube_of
  TB_is_cover : GxR.TabB base mg T.c_is_cover T.P_is_cover
  TB_told_of : GxR.TabB base mg T.c_told_of T.P_told_of
  TB_is_free : GxR.TabB base mg T.c_is_free T.P_is_free
def Tx.tabs {K : PySem.W.Frag} {mg : Str → Option Value} (T : Tx K mg) : List Addr := [T.P_show_row, T.P_is_product, T.P_holds_all, T.P_meet, T.P_cube_of, T.P_is_cover, T.P_told_of, T.P_is_free]
/-! ### generator expressions whose elements may call -/
theorem inv_moved {X : Cx} {cp : List (Addr × Obj)} {σ : L2.St} {H : Hp} {s s' : Shared} (I : Inv X cp σ H s) (os : s'.os = s.os) (bare : AllBare s'.gens) (k : ∀ b o, s.heap.get? b = some o → s'.heap.get? b = some o) : Inv X cp σ H s' :=
  I.call' (ch := []) os (Un.kept k) (I.hok.kept k) bare fun b hb => absurd hb (by simp)
/-- the context of a generator expression's frame: C its frame, s, H the entry, fp its iterator's objects -/
abbrev gblk (X : Cx) (A : Around) (s : Shared) (H : Hp) (cenv : Env) (fp : List Addr) : Cx :=
  { X with A := A, s_0 := s, H_0 := H, env := cenv, outer := X.stack, stack := cenv :: X.stack, ex := fp, fn := fun _ => false, pn := [], xe := fun _ _ => False }
section
variable {X : Cx} {pins : List (Addr × Obj)} {σ : L2.St} {H : Hp} {s : Shared}
theorem gen_start {scope : Scope} {own : List (Str × Nat)} {fp : List Addr} {A : Around} {code it : Value} {s5 : Shared} {cp : List (Addr × Obj)}
    (I : Inv X pins σ H s) (ok : BlkOk X.N X.env.scope scope own) (nocell : ∀ y ∈ scope.names, y.2 ≠ .cell) (hN : X.N.Nodup) (hfp : ∀ b ∈ fp, FpOk X pins H b ∧ b < s.heap.objs.size)
    (hh : A.handled = none) (hfr : A.frames = some (genEnv scope (cloFrom X.env.cells scope.names []) s.heap.objs.size code builtinsNs X.env :: X.stack))
    (os : s5.os = s.os) (bare : AllBare s5.gens) (kp : ∀ b o, s.heap.get? b = some o → s5.heap.get? b = some o)
    (hns : s5.heap.Ns s.heap.objs.size fun y => if y = ".0" then some it else none)
    (hcp : ∀ p ∈ cp, s.heap.objs.size < p.1 ∧ s5.heap.get? p.1 = some p.2 ∧ ∀ v, p.2.data ≠ .cell v) :
    Inv (gblk X A s H (genEnv scope (cloFrom X.env.cells scope.names []) s.heap.objs.size code builtinsNs X.env) fp) cp (wipe σ (own.map (·.2))) H s5 := by
  have hfree : ∀ y ∈ scope.names, y.2 = .free → ∃ c, X.env.cells.lookup y.1 = some c := fun y hy e => by
    rcases ok.free y hy e with k | k
    · exact I.ok.has _ (.inl k)
    · exact I.ok.has _ (.inr k)
  generalize hcenv : genEnv scope (cloFrom X.env.cells scope.names []) s.heap.objs.size code builtinsNs X.env = cenv at hfr ⊢
  have hL : cenv.locals = s.heap.objs.size := by rw [← hcenv]; rfl
  have hcl : cenv.cells = cloFrom X.env.cells scope.names [] := by rw [← hcenv]; rfl
  have hsc : cenv.scope = scope := by rw [← hcenv]; rfl
  have cm : ∀ {y c}, (y, c) ∈ cloFrom X.env.cells scope.names [] → X.env.cells.lookup y = some c ∧ c < s.heap.objs.size := fun {y c} hm => by
    rcases cloFrom_mem hm with hm | ⟨h1, rfl⟩
    · cases hm
    · obtain ⟨c, hc⟩ := hfree _ h1 rfl
      rw [hc]
      obtain ⟨w, z⟩ := I.cell _ _ hc
      exact ⟨rfl, z.lt⟩
  have mem : ∀ {y c}, cenv.cells.lookup y = some c → X.env.cells.lookup y = some c ∧ c < s.heap.objs.size := fun {y c} e => by
    rw [hcl] at e
    exact cm (PySem.mem_of_lookup e)
  have look : ∀ {y}, scope.names.lookup y = some .free → ∃ c, cenv.cells.lookup y = some c ∧ X.env.cells.lookup y = some c := fun {y} hl => by
    have hy : (y, NameKind.free) ∈ scope.names := PySem.mem_of_lookup hl
    obtain ⟨c', e'⟩ := mem_lookup (cloFrom_has (cells := X.env.cells) (acc := []) hy)
    rw [← hcl] at e'
    exact ⟨c', e', (mem e').1⟩
  have okB : (gblk X A s H cenv fp).Ok := by
    refine ⟨I.ok.mod, by show cenv.scope.kind = _; rw [hsc]; exact ok.kind, by show cenv.globals = _; rw [← hcenv]; exact I.ok.glob, by show cenv.builtins = _; rw [← hcenv]; rfl, by show s.heap.objs.size ≤ cenv.locals; rw [hL]; exact Nat.le_refl _,
      fun y z c e1 e2 => I.ok.inj y z c (mem e1).1 (mem e2).1, fun y hy => ?_, fun y c z e => (by cases z), fun _ => hh, hfr, .inr ⟨rfl, by show cenv.frame = some cenv.locals; rw [← hcenv]; rfl⟩, fun b hb => ⟨?_, fun y c e z => ?_⟩, I.bs, Nat.le_trans I.ok.bsz I.sz, fun b o e hb => ?_, fun b hb z => ?_, I.stack, I.stkFree⟩
    · have hy' : scope.names.lookup y = some .cell ∨ scope.names.lookup y = some .free := by
        rw [← hsc]
        exact hy
      rcases hy' with e | e
      · exact absurd rfl (nocell _ (PySem.mem_of_lookup e))
      · obtain ⟨c, h1, _⟩ := look e
        exact ⟨c, h1⟩
    · show b ≠ cenv.locals
      rw [hL]; exact Nat.ne_of_lt (hfp b hb).2
    · exact (hfp b hb).1.2.2.2.2.1 y c (mem e).1 z
    · rcases (hfp b hb).1.2.2.2.1 with z | z
      · exact I.ok.noex b o e z
      · exact absurd (Nat.lt_of_lt_of_le (Heap.lt_size e) (Nat.le_trans I.ok.bsz z)) (Nat.lt_irrefl _)
    · rcases List.mem_cons.mp (I.stkSub b z) with z | z
      · exact (hfp b hb).1.2.1 z
      · exact (hfp b hb).1.2.2.1 z
  refine ⟨okB, os, bare, Un.kept kp, ⟨_, (by show s5.heap.Ns cenv.locals _; rw [hL]; exact hns), fun i y av e1 e2 e3 => ?_⟩, fun y c e => ?_, ?_, fun y c e => I.freeC y c (mem e).1, fun p hp => ?_, I.hok.kept kp, by rw [wipe_length]; exact I.len⟩
  · obtain ⟨e2, hne⟩ := wipe_some e2
    have e3 : Vis scope y := by rw [← hsc]; exact e3
    have no : ∀ k, scope.names.lookup y = some k → ¬ (k = .local ∨ k = .cell) := fun k e hh => by
      rcases ok.own _ (PySem.mem_of_lookup e) hh with e' | e'
      · obtain ⟨p, hp, hpy⟩ := List.mem_map.mp e'
        have e3 := ok.ix p hp
        have : p.1 = y := hpy
        rw [this] at e3
        exact hne (List.mem_map.mpr ⟨p, hp, nodup_ix hN e3 e1⟩)
      · exact e' (List.mem_of_getElem? e1)
    have hfr2 : scope.names.lookup y = some .free := by
      rcases e3 with e | e | e
      · exact absurd (.inl rfl) (no _ e)
      · exact absurd (.inr rfl) (no _ e)
      · exact e
    obtain ⟨m, hn, hl⟩ := I.loc
    have hvis : Vis X.env.scope y := (ok.free _ (PySem.mem_of_lookup hfr2) rfl).elim (fun k => .inr (.inl k)) (fun k => .inr (.inr k))
    obtain ⟨w, r, q⟩ := hl i y av e1 e2 hvis
    refine ⟨w, r, .inr ⟨.inr (by show cenv.scope.names.lookup y = some .free; rw [hsc]; exact hfr2), ?_⟩⟩
    obtain ⟨c, h1, h2⟩ := look hfr2
    rcases q with ⟨k, _⟩ | ⟨_, c', e', z⟩
    · have k : X.env.scope.names.lookup y = some .local := k
      rcases ok.free _ (PySem.mem_of_lookup hfr2) rfl with k' | k' <;> rw [show X.env.scope.names.lookup y = _ from k'] at k <;> cases k
    · rw [h2] at e'; cases e'
      exact ⟨c, h1, z.keeps kp⟩
  · obtain ⟨w, z⟩ := I.cell y c (mem e).1
    exact ⟨w, z.keeps kp⟩
  · show H cenv.locals = none
    rw [hL]; exact I.hok.fresh (Nat.le_refl _)
  · have hp : p ∈ cp := by simpa using hp
    obtain ⟨h1, h2, h3⟩ := hcp p hp
    refine ⟨h2, I.hok.fresh (Nat.le_of_lt h1), by show p.1 ≠ cenv.locals; rw [hL]; exact Nat.ne_of_gt h1, fun z => ?_, h3⟩
    rcases List.mem_cons.mp (I.stkSub _ z) with z | z
    · exact absurd (Nat.lt_trans I.lt h1) (by rw [z]; exact Nat.lt_irrefl _)
    · exact I.nofs (Nat.le_of_lt h1) z
end
/-! ### the talk of a generator and who asks it -/
section
variable {α : Type}
/-- handed out: x; the asker's state a (laid down in the pins cp) goes to one with Nx -/
def YG (Xg : Cx) (fp : List Addr) (tn : Nat → Heap → Prop) (AC : α → List (Addr × Obj) → Prop) (Yd : α → V → Hp → (α → Hp → Prop) → Prop) : Protocol := fun _ s0 v s kap =>
  ∃ (a : α) (x : V) (σ : L2.St) (H : Hp) (i : Nat) (cp : List (Addr × Obj)) (Nx : α → Hp → Prop), RelV x v ∧ AC a cp ∧ (∀ p ∈ cp, s0.heap.get? p.1 = some p.2) ∧ Inv Xg cp σ H s ∧ tn i s.heap ∧ (∀ b ∈ fp, H b = none) ∧ Yd a x H Nx ∧
    ∀ a' cp' s', Nx a' H → AC a' cp' → Inv Xg cp' σ H s' → tn i s'.heap → kap (.send .none) s'
def RG (Xg : Cx) (AC : α → List (Addr × Obj) → Prop) (End : α → Hp → Prop) : GenEnd := fun _ s0 r s =>
  ((r = .ok (.ret .none) ∨ r = .ok .next) ∧ ∃ (a : α) (σ : L2.St) (H : Hp) (cp : List (Addr × Obj)), AC a cp ∧ (∀ p ∈ cp, s0.heap.get? p.1 = some p.2) ∧ Inv Xg cp σ H s ∧ End a H) ∨ ∃ e, r = .error e ∧ False
/-- a generator's turns -/
def tGx (J : It) (g : TG) (tt : TT) (te : TE) (σ0 : L2.St) (vs : List Nat) (End : α → Hp → Prop) (Yd : α → V → Hp → (α → Hp → Prop) → Prop) (W : Nat → Nat → α → Hp → Prop) : Prop :=
  ∀ i m a H, W i m a H → (J.stop i H ∧ End a H) ∨ (J.go i H ∧ ∃ Nx : α → Hp → Prop, (∀ a' H', Nx a' H' → ∃ m', m' < m ∧ W (i + 1) m' a' H') ∧
    ∀ x H', J.yld i H x H' → g x σ0 H' fun σ2 H2 => wipe σ2 vs = σ0 ∧ tt σ2 H2 fun b H3 => if b = true then te σ2 H3 fun y H4 => Yd a y H4 Nx else Nx a H3)
theorem wipe_wipe_some {σ σ2 : L2.St} {vs : List Nat} (h : wipe σ2 vs = σ) : ∀ (j : Nat) v, σ[j]? = some (some v) → σ2[j]? = some (some v) := fun j v e => by
  rw [← h] at e
  exact (wipe_some e).1
theorem seg_gx {X : Cx} {A A' : Around} {s_0 : Shared} {H_0 : Hp} {elt tg iter : Expr} {ifs : List Expr} {scope : Scope} {pos : Pos} {it : Addr} {fp : List Addr} {tn : Nat → Heap → Prop} {J : It} {cenv : Env} {g : TG} {tt : TT} {te : TE} {σ0 : L2.St} {vs : List Nat}
    {AC : α → List (Addr × Obj) → Prop} {End : α → Hp → Prop} {Yd : α → V → Hp → (α → Hp → Prop) → Prop} {W : Nat → Nat → α → Hp → Prop}
    (hA : A.over (.compLoop (.GeneratorExp elt [⟨tg, iter, ifs, 0⟩] scope pos) 0 (.ref it) .none cenv) [] = A') (hc : X.calm = true) (hco : cenv.scope.isCoroutine = false)
    (T : Turn X.prog X.w X.K tg J fp it tn) (pg : PG (gblk X A' s_0 H_0 cenv fp) tg g) (pt : PTs (gblk X A' s_0 H_0 cenv fp) ifs tt) (pe : PE (gblk X A' s_0 H_0 cenv fp) elt te)
    (hAC : ∀ a cp, AC a cp → ∀ p ∈ cp, ∀ b ∈ fp, p.1 ≠ b) (turn : tGx J g tt te σ0 vs End Yd W) :
    ∀ (m n i : Nat) (a : α) (H : Hp) (s₀ s : Shared) (cp : List (Addr × Obj)), m < n → W i m a H → AC a cp → (∀ p ∈ cp, s₀.heap.get? p.1 = some p.2) → Inv (gblk X A' s_0 H_0 cenv fp) cp σ0 H s → tn i s.heap → (∀ b ∈ fp, H b = none) →
      Seg (model X.prog X.w) A (RG (gblk X A' s_0 H_0 cenv fp) AC End) (YG (gblk X A' s_0 H_0 cenv fp) fp tn AC Yd) n s₀
        (.compLoop (.GeneratorExp elt [⟨tg, iter, ifs, 0⟩] scope pos) 0 (.ref it) .none cenv)
        ((model X.prog X.w).den (.compLoop (.GeneratorExp elt [⟨tg, iter, ifs, 0⟩] scope pos) 0 (.ref it) .none cenv)) [] s := by
  have stat : ∀ {a : α} {cp : List (Addr × Obj)} {σ' : L2.St} {H' : Hp} {s' : Shared}, AC a cp → Inv (gblk X A' s_0 H_0 cenv fp) cp σ' H' s' → (∀ b ∈ fp, H' b = none) → ∀ b ∈ fp, FpOk (gblk X A' s_0 H_0 cenv fp) cp H' b := fun {a cp σ' H' s'} hac I' hn b hb =>
    ⟨hn b hb, (I'.ok.exf b hb).1, I'.ok.exfs b hb, .inl hb, fun x c e => (I'.ok.exf b hb).2 x c e, fun p hp => hAC a cp hac p (by simpa using hp) b hb⟩
  intro m
  induction m using Nat.strongRecOn with
  | ind m ih =>
    intro n i a H s₀ s cp hmn w hac tie I st nf
    show Seg _ A _ _ _ s₀ _ ((compTurn (.GeneratorExp elt [⟨tg, iter, ifs, 0⟩] scope pos) 0 (.ref it) .none cenv).onRaise (leaving cenv)) [] s
    rw [compTurn_gen, Sem.onRaise_eq_wrap]
    refine seg_bind_wrap (wpAny_standAt ?_)
    rcases turn i m a H w with ⟨stop, hend⟩ | ⟨go, Nx, hNx, step⟩
    · refine seg_bind_wrap ?_
      rw [hA]
      refine thnF (T.done (gblk X A' s_0 H_0 cenv fp) rfl rfl rfl hc i cp s σ0 H (fun _ _ => False) I (stat hac I nf) st stop) fun r s1 ⟨hr, I1⟩ => ?_
      subst hr
      exact seg_end (.ok .next) (.inl ⟨.inr rfl, a, _, H, cp, hac, tie, I1, hend⟩)
    · refine seg_bind_wrap ?_
      rw [hA]
      refine thnF (T.item (gblk X A' s_0 H_0 cenv fp) rfl rfl rfl hc i cp s σ0 H (fun _ _ => False) I (stat hac I nf) st go) fun r s1 ⟨u, hr, h1⟩ => ?_
      subst hr
      refine seg_bind_wrap ?_
      rw [hA]
      refine thnF h1 fun _ s2 ⟨x, H2, I2, r2, y2, st2, n2⟩ => ?_
      have I2' := I2.pinned (stat hac I2 n2) (T.obj _ _ st2)
      refine seg_bind_wrap ?_
      rw [hA]
      refine thnF (pg.run _ s2 _ H2 x u _ I2' r2 (step x H2 y2)) fun _ s3 ⟨σ3, H3, I3, hw3, q3⟩ => ?_
      refine seg_bind_wrap ?_
      rw [hA]
      refine thnF (pt.run _ s3 σ3 H3 _ I3 q3) fun b s4 ⟨H4, I4, q4⟩ => ?_
      have hl : σ0.length = σ3.length := by rw [← hw3, wipe_length]
      have fin : ∀ {s' : Shared} {H' : Hp}, Inv (gblk X A' s_0 H_0 cenv fp) (cp ++ pinsAt fp s2.heap) σ3 H' s' → Inv (gblk X A' s_0 H_0 cenv fp) cp σ0 H' s' ∧ tn (i + 1) s'.heap ∧ ∀ b ∈ fp, H' b = none := fun {s' H'} I' => by
        have pin' : ∀ b ∈ fp, ∀ o, s2.heap.get? b = some o → s'.heap.get? b = some o ∧ H' b = none := fun b hb o e =>
          let z := I'.pin (b, o) (List.mem_append_right _ (List.mem_append_right _ (mem_pinsAt hb e)))
          ⟨z.1, z.2.1⟩
        refine ⟨(I'.unpinned (pins := cp)).weak hl (wipe_wipe_some hw3), T.keep _ _ _ st2 fun b hb o e => (pin' b hb o e).1, fun b hb => ?_⟩
        obtain ⟨o, e, _⟩ := T.obj _ _ st2 b hb
        exact (pin' b hb o e).2
      cases b with
      | false =>
        simp only [Bool.false_eq_true, if_false] at q4 ⊢
        obtain ⟨m', hm, w'⟩ := hNx a H4 q4
        obtain ⟨J1, J2, J3⟩ := fin I4
        exact seg_again rfl (ih m' hm n (i + 1) a H4 s₀ s4 cp (by omega) w' hac tie J1 J2 J3)
      | true =>
        simp only [if_true] at q4 ⊢
        have hy : ∀ v, yieldOut cenv v = yieldValue v := fun v => by simp only [yieldOut, hco, Bool.false_eq_true, if_false]
        simp only [hy]
        rw [Sem.bind_eq_wrap', Sem.bind_eq_wrap', Sem.wrap_wrap, Sem.wrap_wrap]
        refine seg_wrap ?_
        rw [hA]
        refine thnF (pe.run _ s4 σ3 H4 _ I4 q4) fun yv s5 ⟨y, H5, I5, r5, q5⟩ => ?_
        obtain ⟨J1, J2, J3⟩ := fin I5
        -- at least one more
        cases n with
        | zero => exact absurd hmn (Nat.not_lt_zero _)
        | succ n =>
          refine seg_at (seg_yield rfl rfl rfl ⟨a, y, σ0, H5, i + 1, cp, Nx, r5, hac, tie, J1, J2, J3, q5, fun a' cp' s' nx hac' I' st' => ?_⟩)
          obtain ⟨m', hm, w'⟩ := hNx a' H5 nx
          exact seg_again rfl (ih m' hm n (i + 1) a' H5 s' s' cp' (by omega) w' hac' (fun p hp => (I'.pin p (List.mem_append_right _ hp)).1) I' st' J3)
end
/-! ### a generator that is made -/
section
variable {X : Cx} {pins : List (Addr × Obj)} {σ : L2.St} {H : Hp} {s : Shared}
def GenObj (o : Obj) (g : Nat) : Prop := ∃ nm qn, o.cls = .type "generator" ∧ o.data = .fields #[.int g 0, nm, qn] ∧ o.slots = #[]
theorem GenObj.isGen {o : Obj} {g : Nat} (h : GenObj o g) {a : Addr} {hp : Heap} (e : hp.get? a = some o) : hp.IsGen a g := by
  obtain ⟨nm, qn, h1, h2, h3⟩ := h
  exact ⟨o, nm, qn, e, h1, h2, h3⟩
/-- the generator u, made and not begun, in the state s5 -/
def Gx (X : Cx) (pins : List (Addr × Obj)) (σ : L2.St) (A : Around) (J : It) (g : TG) (tt : TT) (te : TE) (vs : List Nat) (H4 : Hp) (u : Value) (s5 : Shared) : Prop :=
  ∃ (A' : Around) (s_0 : Shared) (H_0 : Hp) (cenv : Env) (fp : List Addr) (ga : Addr) (gn : Nat) (go : Obj) (tn : Nat → Heap → Prop) (gs : GenState),
    u = .ref ga ∧ GenObj go gn ∧ s5.gens[gn]? = some gs ∧ gs.bare = true ∧ Inv (gblk X A' s_0 H_0 cenv fp) [(ga, go)] (wipe σ vs) H4 s5 ∧ tn 0 s5.heap ∧ (∀ b ∈ fp, H4 b = none) ∧ (∀ b ∈ fp, b < ga) ∧
    (∀ i h h', tn i h → (∀ b ∈ fp, ∀ o, h.get? b = some o → h'.get? b = some o) → tn i h') ∧ (∀ cp σ' H' s', Inv (gblk X A' s_0 H_0 cenv fp) cp σ' H' s' → Inv X pins σ H' s') ∧
    ∀ (α : Type) (AC : α → List (Addr × Obj) → Prop) (End : α → Hp → Prop) (Yd : α → V → Hp → (α → Hp → Prop) → Prop) (W : Nat → Nat → α → Hp → Prop) (m n : Nat) (a : α) (cp : List (Addr × Obj)) (s' : Shared),
      tGx J g tt te (wipe σ vs) vs End Yd W → W 0 m a H4 → m < n → (∀ a cp, AC a cp → ∀ p ∈ cp, ∀ b ∈ fp, p.1 ≠ b) → AC a cp → Inv (gblk X A' s_0 H_0 cenv fp) cp (wipe σ vs) H4 s' → tn 0 s'.heap →
      gs.Goes (model X.prog X.w) A (RG (gblk X A' s_0 H_0 cenv fp) AC End) (YG (gblk X A' s_0 H_0 cenv fp) fp tn AC Yd) n (.send .none) s'
/-- what stands about an asker -/
structure Near (A B : Around) : Prop where
  hd : B.handled = A.handled
  fr : B.frames = A.frames
  gd : B.guards = A.guards
  dp : B.depth = A.depth
  un : B.units ≤ A.units + 8
theorem gx_make {c P : Addr} {elt tg iter : Expr} {ifs : List Expr} {gpos : Pos} {scope : Scope} {own : List (Str × Nat)} {wi : TI} {g : TG} {tt : TT} {te : TE} {k : Nat} {Q' : Value → Shared → Prop} {R : It → Hp → Prop} {A : Around}
    (hr : Room (k + 1) X.A) (near : Near X.A A) (hc : X.calm = true) (hN : X.N.Nodup) (TB : GxR.TabB X.base X.mg c P) (hcode : X.env.code = .ref c) (hco : scope.isCoroutine = false) (hdot : scope.names.lookup (".0" : Str) = some NameKind.local)
    (nocell : ∀ y ∈ scope.names, y.2 ≠ .cell) (ok : BlkOk X.N X.env.scope scope own) (hi : PI X tg iter wi)
    (hg : ∀ (A' : Around) (s : Shared) (H : Hp) (C : Addr) (cl : List (Str × Addr)) (code : Value) (fp : List Addr), Room k A' → A'.guards = X.A.guards → PG (gblk X A' s H (genEnv scope cl C code builtinsNs X.env) fp) tg g)
    (ht : ∀ (A' : Around) (s : Shared) (H : Hp) (C : Addr) (cl : List (Str × Addr)) (code : Value) (fp : List Addr), Room k A' → A'.guards = X.A.guards → PTs (gblk X A' s H (genEnv scope cl C code builtinsNs X.env) fp) ifs tt)
    (he : ∀ (A' : Around) (s : Shared) (H : Hp) (C : Addr) (cl : List (Str × Addr)) (code : Value) (fp : List Addr), Room k A' → A'.guards = X.A.guards → PE (gblk X A' s H (genEnv scope cl C code builtinsNs X.env) fp) elt te)
    (hs : ∀ v, genFold iter X.env v = pure v) (I : Inv X pins σ H s) (h : wi σ H fun J H1 => GxR.TabG H1 P ∧ R J H1)
    (hQ : ∀ J H1 H2 u s5, R J H1 → GxR.Tabbed P H1 H2 → Gx X pins σ A J g tt te (own.map (·.2)) H2 u s5 → Q' u s5) :
    wpAny (model X.prog X.w) X.A (eval (.GeneratorExp elt [⟨tg, iter, ifs, 0⟩] scope gpos) X.env) Q' X.xe s := by
  have hfree : ∀ y ∈ scope.names, y.2 = .free → ∃ c, X.env.cells.lookup y.1 = some c := fun y hy e => by
    rcases ok.free y hy e with k | k
    · exact I.ok.has _ (.inl k)
    · exact I.ok.has _ (.inr k)
  refine wpAny_GeneratorExp_make hco (closure_ok hfree) nocell hdot ok.kind (by have := hr.dp; omega) ?_ hs
  refine thn (hi.run pins s σ H _ I h) fun xv s1 hx => thn hx fun itv s2 h2 => ?_
  obtain ⟨it, fp, tn, J, H2, rfl, I2, T, st2, f2, ⟨ps, hP, ht3⟩, q⟩ := h2
  refine ⟨I2.nolimit, ?_⟩
  have hPs : s2.heap.get? P = some { cls := .none, data := .fields ps } := I2.hok P _ hP
  have cd : PySem.W.CodeHd s2.heap c P := TB.code.keeps fun b u e => I2.bk b u e
  have nP : ∀ b, H2 b = none → b ≠ P := fun b e z => by
    rw [z, hP] at e
    cases e
  have cont : ∀ (code : Value) (h3 : Heap) (tk : Nat) (ps' : Array Value), Heap.ExtBut P s2.heap h3 → s2.heap.objs.size ≤ h3.objs.size → h3.get? P = some { cls := .none, data := .fields ps' } → (∃ more, ps' = ps ++ more) → TriplesOk ps'.toList →
      wpAny (model X.prog X.w) X.A (builtinsFor X.env.globals X.env.builtins) (fun bi s₄ =>
        ∀ h', h'.Ns s₄.heap.objs.size (fun y => if y = ".0" then some (Value.ref it) else none) → Heap.SameBut s₄.heap.objs.size (s₄.heap.push { cls := .type "frame", data := .dict #[] }) h' →
          Q' (.ref h'.objs.size) { s₄ with
            gens := s₄.gens.push (.fresh (.compStart (.GeneratorExp elt [⟨tg, iter, ifs, 0⟩] scope gpos) 0 (.ref it) .none (genEnv scope (cloFrom X.env.cells scope.names []) s₄.heap.objs.size code bi X.env))),
            toks := s₄.toks + 1 + 1 + 1,
            heap := h'.push { cls := .type "generator", data := .fields #[.int s₄.gens.size 0, .str "<genexpr>" (s₄.toks + 1), .str (X.env.qual ++ "<genexpr>") (s₄.toks + 1 + 1)] } }) X.xe { s2 with heap := h3, toks := tk } := by
    rintro code h3 tk ps' hx hsz hP3 ⟨more, rfl⟩ ht4
    obtain ⟨bm, ob, e1, e2, e3, e4, e5, e6, e7, e8⟩ := TB.bm
    refine wpAny_builtinsFor (m := X.mg) (by rw [I2.ok.glob]; exact (I2.mod.glob.keeps I2.bk).extBut hx TB.gP) e1 e2 (hx _ _ e4 (I2.bk _ _ e5)) e6 e7 e8 ?_
    intro h' hns hsb
    have I3 : Inv X pins σ (upd H2 P (.tbl (ps ++ more))) { s2 with heap := h3, toks := tk } := GxR.inv_tab (g' := s2.gens) (d' := s2.drawn) I2 hP (fun b o hb e => hx b o hb e) hP3 I2.bare
    have lt2 : ∀ b ∈ fp, b < s2.heap.objs.size := fun b hb => by
      obtain ⟨o, e, _⟩ := T.obj _ _ st2 b hb
      exact Heap.lt_size e
    have f3 : ∀ b ∈ fp, FpOk X pins (upd H2 P (.tbl (ps ++ more))) b ∧ b < ({ s2 with heap := h3, toks := tk } : Shared).heap.objs.size := fun b hb => by
      refine ⟨⟨?_, (f2 b hb).2⟩, Nat.lt_of_lt_of_le (lt2 b hb) hsz⟩
      rw [upd_ne (nP b (f2 b hb).1)]
      exact (f2 b hb).1
    have st3 : tn 0 h3 := T.keep _ _ _ st2 fun b hb o e => hx b o (nP b (f2 b hb).1) e
    generalize hs4 : ({ s2 with heap := h3, toks := tk } : Shared) = s4 at I3 f3 hns hsb ⊢
    have h4 : s4.heap = h3 := by rw [← hs4]
    have hsz4 : h'.objs.size = s4.heap.objs.size + 1 := by rw [hsb.1, Heap.size_push]
    have keep' : ∀ b o, s4.heap.get? b = some o → h'.get? b = some o := fun b o e => hsb.extBut b o (Nat.ne_of_lt (Heap.lt_size e)) (Heap.get?_push_of_some _ e)
    generalize hgo : ({ cls := .type "generator", data := .fields #[.int s4.gens.size 0, .str "<genexpr>" (s4.toks + 1), .str (X.env.qual ++ "<genexpr>") (s4.toks + 1 + 1)] } : Obj) = go
    have hGO : GenObj go s4.gens.size := by rw [← hgo]; exact ⟨_, _, rfl, rfl, rfl⟩
    have k5 : ∀ b o, s4.heap.get? b = some o → (h'.push go).get? b = some o := fun b o e => Heap.get?_push_of_some _ (keep' b o e)
    have pg := fun A' => hg A' s4 (upd H2 P (.tbl (ps ++ more))) s4.heap.objs.size (cloFrom X.env.cells scope.names []) code fp
    have pt := fun A' => ht A' s4 (upd H2 P (.tbl (ps ++ more))) s4.heap.objs.size (cloFrom X.env.cells scope.names []) code fp
    have pe := fun A' => he A' s4 (upd H2 P (.tbl (ps ++ more))) s4.heap.objs.size (cloFrom X.env.cells scope.names []) code fp
    generalize hce : genEnv scope (cloFrom X.env.cells scope.names []) s4.heap.objs.size code builtinsNs X.env = cenv at pg pt pe ⊢
    have hscn : cenv.scope = scope := by rw [← hce]; rfl
    generalize hA' : A.over (.compLoop (.GeneratorExp elt [⟨tg, iter, ifs, 0⟩] scope gpos) 0 (.ref it) .none cenv) [] = A'
    have hfrA : A'.frames = some (cenv :: X.stack) := by
      rw [← hA']
      show pushEnvs [cenv] A.frames = _
      rw [near.fr, I2.ok.frames]
      rfl
    have hhd : A'.handled = none := by
      rw [← hA']
      show A.handled = none
      rw [near.hd]
      exact hr.hd
    have rm : Room k A' := by
      refine ⟨hhd, ?_, ?_⟩
      · have := hr.dp
        have := near.dp
        rw [← hA']
        show A.depth + 0 + 1 + 3 * k + 5 < _
        omega
      · have := hr.un
        have := near.un
        rw [← hA']
        show A.units + 0 + 3 + 16 * k + 200 < _
        omega
    have gdA : A'.guards = X.A.guards := by
      rw [← hA']
      show pushGuards [] A.guards = _
      rw [near.gd]
      rfl
    have I5 : Inv (gblk X A' s4 (upd H2 P (.tbl (ps ++ more))) cenv fp) [(h'.objs.size, go)] (wipe σ (own.map (·.2))) (upd H2 P (.tbl (ps ++ more)))
        { s4 with gens := s4.gens.push (.fresh (.compStart (.GeneratorExp elt [⟨tg, iter, ifs, 0⟩] scope gpos) 0 (.ref it) .none cenv)), toks := s4.toks + 1 + 1 + 1, heap := h'.push go } := by
      subst hce
      refine gen_start (it := .ref it) I3 ok nocell hN f3 hhd hfrA rfl (I3.bare.push rfl) k5 (hns.push _) fun p hp => ?_
      have e : p = (h'.objs.size, go) := by simpa using hp
      subst e
      refine ⟨by show s4.heap.objs.size < h'.objs.size; omega, Heap.get?_push_size _ (by rw [← hgo]; rfl), fun v z => ?_⟩
      rw [← hgo] at z
      cases z
    refine hQ J H2 _ _ _ q ⟨⟨_, upd_same, ht4⟩, fun b hb => upd_ne hb⟩ ⟨A', s4, _, cenv, fp, h'.objs.size, s4.gens.size, go, tn, _, rfl, hGO, Array.getElem?_push_size .., rfl, I5, ?_, fun b hb => (f3 b hb).1.1, fun b hb => ?_, T.keep, fun cp σ' H' s' I' => ?_, ?_⟩
    · exact T.keep _ _ _ st3 fun b _ o e => k5 b o (by rw [h4]; exact e)
    · have := (f3 b hb).2
      rw [hsz4]
      exact Nat.lt_succ_of_lt this
    · exact I3.call' (ch := fp) I'.os I'.base I'.hok I'.bare fun b hb => ⟨(f3 b hb).1.2.2.2.1, (f3 b hb).1.2.1, (f3 b hb).1.2.2.2.2.1, (f3 b hb).1.2.2.2.2.2⟩
    · intro α AC End Yd W m n a cp s' turn w hmn hAC hac I' st'
      refine ⟨rfl, ?_⟩
      have loop := seg_gx (A := A) (pos := gpos) (iter := iter) (scope := scope) hA' hc (by rw [hscn]; exact hco) T (pg A' rm gdA) (pt A' rm gdA) (pe A' rm gdA) hAC turn m n 0 a _ s' s' cp hmn w hac (fun p hp => (I'.pin p (List.mem_append_right _ hp)).1) I' st' fun b hb => (f3 b hb).1.1
      show Seg _ A _ _ _ s' _ ((compStart (.GeneratorExp elt [⟨tg, iter, ifs, 0⟩] scope gpos) 0 (.ref it) .none cenv).onRaise (leaving cenv)) [] s'
      unfold compStart
      rw [Sem.onRaise_eq_wrap]
      show Seg _ A _ _ _ s' _ ((ask >>= _).wrap _ _ _ _) [] s'
      refine seg_bind_wrap (wpAny_askSetting ?_)
      split
      · exact seg_again rfl loop
      · first
          | exact seg_bind_wrap (wpAny_rule (seg_bind_wrap (wpAny_standAt (seg_bind_wrap (T.self _ 0 s' _ _ st' (seg_again rfl loop))))))
          | (refine seg_bind_wrap (wpAny_rule ?_); show Seg _ A _ _ _ s' _ ((standAt iter.pos >>= _).wrap _ _ _ _) [] s'; exact seg_bind_wrap (wpAny_standAt (seg_bind_wrap (T.self _ 0 s' _ _ st' (seg_again rfl loop)))))
  cases hf : codeAmong gpos ps.toList with
  | none =>
    refine wpAny_genexprCodeX hcode (cd.code hPs ht3) (cd.tab hPs) hf fun c' h' tk hx hge hlt hco' _ htab' _ => ?_
    obtain ⟨o1, vs, f1, tf, fl, tg, inF, tx, tt, op, _, _, _, _, _, _, _, _, _, htr, _⟩ := hco'
    exact cont _ h' tk _ hx (Nat.le_trans hge (Nat.le_of_lt hlt)) htab'.2 ⟨_, rfl⟩ htr
  | some cv =>
    refine wpAny_genexprCode_hit hcode (cd.code hPs ht3) hf ?_
    exact cont cv s2.heap s2.toks ps (Heap.ExtBut.refl _ _) (Nat.le_refl _) hPs ⟨#[], by simp⟩ ht3
end
/-! ### asking -/
section
variable {α : Type} {X : Cx} {A A' : Around} {s_0 : Shared} {H_0 : Hp} {cenv : Env} {fp : List Addr} {tn : Nat → Heap → Prop} {AC : α → List (Addr × Obj) → Prop} {End : α → Hp → Prop} {Yd : α → V → Hp → (α → Hp → Prop) → Prop} {ga : Addr} {gn n : Nat} {go : Obj}
theorem next_gx2 {gs : GenState} {s : Shared} {Q : Option Value → Shared → Prop} {E : Value → Shared → Prop} (hh : A.handled = none) (hroom : A.depth < recursionLimit) (hl : s.heap.NoLimit) (hG : GenObj go gn) (e : s.heap.get? ga = some go) (hgs : s.gens[gn]? = some gs)
    (hgo : gs.Goes (model X.prog X.w) A.in1 (RG (gblk X A' s_0 H_0 cenv fp) AC End) (YG (gblk X A' s_0 H_0 cenv fp) fp tn AC Yd) n (.send .none) (s.setGen gn .running))
    (item : ∀ (a : α) (x : V) (σ : L2.St) (H : Hp) (i : Nat) (cp : List (Addr × Obj)) (Nx : α → Hp → Prop) (v : Value) (s1 : Shared) (gs' : GenState), RelV x v → AC a cp → (∀ p ∈ cp, s.heap.get? p.1 = some p.2) → Inv (gblk X A' s_0 H_0 cenv fp) cp σ H s1 → tn i s1.heap → Yd a x H Nx → s1.gens[gn]? = some gs' →
      (∀ a' cp' s', Nx a' H → AC a' cp' → Inv (gblk X A' s_0 H_0 cenv fp) cp' σ H s' → tn i s'.heap → ∃ m, n = m + 1 ∧ gs'.Goes (model X.prog X.w) A.in1 (RG (gblk X A' s_0 H_0 cenv fp) AC End) (YG (gblk X A' s_0 H_0 cenv fp) fp tn AC Yd) m (.send .none) s') → Q (some v) s1)
    (done : ∀ (a : α) (σ : L2.St) (H : Hp) (cp : List (Addr × Obj)) (s1 : Shared), AC a cp → (∀ p ∈ cp, s.heap.get? p.1 = some p.2) → Inv (gblk X A' s_0 H_0 cenv fp) cp σ H s1 → End a H → Q none s1) :
    wpAny (model X.prog X.w) A (pyNext (.ref ga)) Q E s := by
  have hgl : gn < s.gens.size := (Array.getElem?_eq_some_iff.mp hgs).1
  refine GenW.wpAny_gsz (n := gn + 1) hgl (next_genG (Er := fun _ _ => False) hh hl hroom (hG.isGen e) hgs hgo (fun v s₁ gs' hbare hv => ?_) (fun s₁ hp h' hk => ?_) fun e s₁ he => he.elim)
  · intro hsz
    obtain ⟨a, x, σ, H, i, cp, Nx, r, hac, tie, I, st, nf, hy, kap⟩ := hv
    have hsz1 : gn < s₁.gens.size := by
      have q : (s₁.setGen gn gs').gens.size = s₁.gens.size := GenW.setGen_size _ _ _
      have hsz' : gn + 1 ≤ (s₁.setGen gn gs').gens.size := hsz
      omega
    refine item a x σ H i cp Nx v (s₁.setGen gn gs') gs' r hac tie (inv_moved I rfl (allBare_setGen I.bare hbare) fun _ _ q => q) st hy (setGen_at hsz1) fun a' cp' s' nx hac' I' st' => ?_
    have z := kap a' cp' s' nx hac' I' st'
    cases n with
    | zero => exact z.elim
    | succ m => exact ⟨m, rfl, z⟩
  · intro _
    obtain ⟨a, σ, H, cp, hac, tie, I, q⟩ := hp
    exact done a σ H cp _ hac tie (inv_moved I rfl (allBare_setGen I.bare rfl) hk) q
theorem next_gx {gs : GenState} {s : Shared} {Q : Option Value → Shared → Prop} {E : Value → Shared → Prop} (hh : A.handled = none) (hroom : A.depth < recursionLimit) (hl : s.heap.NoLimit) (hG : GenObj go gn) (e : s.heap.get? ga = some go) (hgs : s.gens[gn]? = some gs)
    (hgo : gs.Goes (model X.prog X.w) A.in1 (RG (gblk X A' s_0 H_0 cenv fp) AC End) (YG (gblk X A' s_0 H_0 cenv fp) fp tn AC Yd) n (.send .none) (s.setGen gn .running))
    (item : ∀ (a : α) (x : V) (σ : L2.St) (H : Hp) (i : Nat) (cp : List (Addr × Obj)) (Nx : α → Hp → Prop) (v : Value) (s1 : Shared) (gs' : GenState), RelV x v → AC a cp → Inv (gblk X A' s_0 H_0 cenv fp) cp σ H s1 → tn i s1.heap → Yd a x H Nx → s1.gens[gn]? = some gs' →
      (∀ a' cp' s', Nx a' H → AC a' cp' → Inv (gblk X A' s_0 H_0 cenv fp) cp' σ H s' → tn i s'.heap → ∃ m, n = m + 1 ∧ gs'.Goes (model X.prog X.w) A.in1 (RG (gblk X A' s_0 H_0 cenv fp) AC End) (YG (gblk X A' s_0 H_0 cenv fp) fp tn AC Yd) m (.send .none) s') → Q (some v) s1)
    (done : ∀ (a : α) (σ : L2.St) (H : Hp) (cp : List (Addr × Obj)) (s1 : Shared), AC a cp → Inv (gblk X A' s_0 H_0 cenv fp) cp σ H s1 → End a H → Q none s1) :
    wpAny (model X.prog X.w) A (pyNext (.ref ga)) Q E s :=
  next_gx2 hh hroom hl hG e hgs hgo (fun a x σ H i cp Nx v s1 gs' r hac _ I st hy at_ kap => item a x σ H i cp Nx v s1 gs' r hac I st hy at_ kap) fun a σ H cp s1 hac _ I q => done a σ H cp s1 hac I q
/-- all(..) asks on -/
theorem all_gx {R : Result → Shared → Prop} {Stop : Hp → Prop} {End : Unit → Hp → Prop} (hh : A.handled = none) (hroom : A.depth < recursionLimit) (hG : GenObj go gn)
    (yes : ∀ (σ : L2.St) (H : Hp) (cp : List (Addr × Obj)) (s1 : Shared), Inv (gblk X A' s_0 H_0 cenv fp) cp σ H s1 → End () H → R (.ok (.ret (.bool true))) s1)
    (no : ∀ (σ : L2.St) (H : Hp) (cp : List (Addr × Obj)) (s1 : Shared), Inv (gblk X A' s_0 H_0 cenv fp) cp σ H s1 → Stop H → R (.ok (.ret (.bool false))) s1) :
    ∀ (n : Nat) (s : Shared), s.heap.NoLimit → s.heap.get? ga = some go → (∃ gs, s.gens[gn]? = some gs ∧ gs.Goes (model X.prog X.w) A.in1.in1 (RG (gblk X A' s_0 H_0 cenv fp) (fun _ cp => cp = [(ga, go)]) End)
      (YG (gblk X A' s_0 H_0 cenv fp) fp tn (fun _ cp => cp = [(ga, go)]) (fun _ y H Nx => ∃ b : Bool, y = .bl b ∧ if b = true then Nx () H else Stop H)) n (.send .none) (s.setGen gn .running)) →
      codeAny (model X.prog X.w) A (.builtin "all.loop" ⟨[.ref ga], []⟩) R s := by
  intro n
  induction n with
  | zero =>
    rintro s hl e ⟨gs, hgs, hgo⟩
    refine codeAny_builtin F.entry_all_loop ?_
    rw [Around.under_plainId F.plain_all_loop _]
    show wpAny _ A.in1 (pyNext (.ref ga) >>= _) _ _ s
    refine wpAny_bind (next_gx (A := A.in1) hh hroom hl hG e hgs hgo (fun a x σ H i cp Nx v s1 gs' r hac I st hy at_ kap => ?_) fun a σ H cp s1 hac I q => ?_)
    · obtain ⟨b, rfl, hb⟩ := hy
      cases (show v = Value.bool b from r)
      refine wpAny_bind (wpAny_holding (wpAny_truthy_bool ?_))
      refine wpAny_bind (wpAny_letGo ?_)
      cases b with
      | true =>
        obtain ⟨m, hm, _⟩ := kap () cp s1 hb hac I st
        cases hm
      | false =>
        simp only [Bool.false_eq_true, if_false] at hb ⊢
        exact wpAny_bind (wpAny_rule (wpAny_pure (no σ H cp s1 I hb)))
    · exact wpAny_bind (wpAny_rule (wpAny_pure (yes σ H cp s1 I q)))
  | succ n ih =>
    rintro s hl e ⟨gs, hgs, hgo⟩
    refine codeAny_builtin F.entry_all_loop ?_
    rw [Around.under_plainId F.plain_all_loop _]
    show wpAny _ A.in1 (pyNext (.ref ga) >>= _) _ _ s
    refine wpAny_bind (next_gx (A := A.in1) hh hroom hl hG e hgs hgo (fun a x σ H i cp Nx v s1 gs' r hac I st hy at_ kap => ?_) fun a σ H cp s1 hac I q => ?_)
    · obtain ⟨b, rfl, hb⟩ := hy
      cases (show v = Value.bool b from r)
      refine wpAny_bind (wpAny_holding (wpAny_truthy_bool ?_))
      refine wpAny_bind (wpAny_letGo ?_)
      cases b with
      | true =>
        simp only [if_true] at hb ⊢
        subst hac
        refine wpAny_pure ⟨plainId_quiet F.plain_all_loop _, ih s1 I.nolimit (I.pin (ga, go) (List.mem_append_right _ List.mem_cons_self)).1 ⟨gs', at_, ?_⟩⟩
        obtain ⟨m, hm, z⟩ := kap () [(ga, go)] (s1.setGen gn .running) hb rfl (inv_moved I rfl (allBare_setGen I.bare rfl) fun _ _ q => q) st
        cases hm
        exact z
      | false =>
        simp only [Bool.false_eq_true, if_false] at hb ⊢
        exact wpAny_bind (wpAny_rule (wpAny_pure (no σ H cp s1 I hb)))
    · exact wpAny_bind (wpAny_rule (wpAny_pure (yes σ H cp s1 I q)))
end
section
variable {X : Cx}
/-- all(elt for tg in iter ..) -/
def tAllX (P : Addr) (wi : TI) (g : TG) (tt : TT) (te : TE) (vs : List Nat) : TE := fun σ H Q => wi σ H fun J H1 => GxR.TabG H1 P ∧ ∀ H2, GxR.Tabbed P H1 H2 → ∃ W : Nat → Nat → Unit → Hp → Prop, (∃ m, W 0 m () H2) ∧
  tGx J g tt te (wipe σ vs) vs (fun _ H => Q (.bl true) H) (fun _ y H Nx => ∃ b : Bool, y = .bl b ∧ if b = true then Nx () H else Q (.bl false) H) W
theorem pe_allX {c P : Addr} {elt tg iter : Expr} {ifs : List Expr} {p pos gpos : Pos} {scope : Scope} {own : List (Str × Nat)} {wi : TI} {g : TG} {tt : TT} {te : TE} {k : Nat}
    (hr : Room (k + 1) X.A) (hc : X.calm = true) (hN : X.N.Nodup) (hgl : Gl X "all") (hm : X.mg "all" = none) (hb : bootBuiltins "all" = some (.builtin "all")) (TB : GxR.TabB X.base X.mg c P) (hcode : X.env.code = .ref c)
    (hco : scope.isCoroutine = false) (hdot : scope.names.lookup (".0" : Str) = some NameKind.local) (nocell : ∀ y ∈ scope.names, y.2 ≠ .cell) (ok : BlkOk X.N X.env.scope scope own) (hi : PI X tg iter wi)
    (hg : ∀ (A' : Around) (s : Shared) (H : Hp) (C : Addr) (cl : List (Str × Addr)) (code : Value) (fp : List Addr), Room k A' → A'.guards = X.A.guards → PG (gblk X A' s H (genEnv scope cl C code builtinsNs X.env) fp) tg g)
    (ht : ∀ (A' : Around) (s : Shared) (H : Hp) (C : Addr) (cl : List (Str × Addr)) (code : Value) (fp : List Addr), Room k A' → A'.guards = X.A.guards → PTs (gblk X A' s H (genEnv scope cl C code builtinsNs X.env) fp) ifs tt)
    (he : ∀ (A' : Around) (s : Shared) (H : Hp) (C : Addr) (cl : List (Str × Addr)) (code : Value) (fp : List Addr), Room k A' → A'.guards = X.A.guards → PE (gblk X A' s H (genEnv scope cl C code builtinsNs X.env) fp) elt te)
    (hs : ∀ v, genFold iter X.env v = pure v)
    (hst : starEach [.GeneratorExp elt [⟨tg, iter, ifs, 0⟩] scope gpos] X.env = (false, eval (.GeneratorExp elt [⟨tg, iter, ifs, 0⟩] scope gpos) X.env) :: starEach [] X.env := by rfl) :
    PE X (.Call (.Name "all" p) [.GeneratorExp elt [⟨tg, iter, ifs, 0⟩] scope gpos] [] pos) (tAllX P wi g tt te (own.map (·.2))) := by
  refine ⟨fun pins s σ H Q I h => ?_⟩
  refine wpAny_Call_Name_kw (ld_blt I hgl hm hb ?_)
  refine PyProof.Rows.callWith_builtin1 ?_ hst (by rfl)
  rw [hst]
  show wpAny _ _ (spliced ((false, eval (.GeneratorExp elt [⟨tg, iter, ifs, 0⟩] scope gpos) X.env) :: backTo pos (starEach [] X.env))) _ _ s
  refine Calls.spliced_cons (gx_make (A := X.A.in1.in1) hr ⟨rfl, rfl, rfl, rfl, (by show X.A.units + 1 + 1 ≤ _; omega)⟩ hc hN TB hcode hco hdot nocell ok hi hg ht he hs I h fun J H1 H2 u s5 hR hT hG => ?_)
  obtain ⟨A', s_0, H_0, cenv, fp, ga, gn, go, tn, gs, rfl, hGO, hgs, hbare, I5, st5, nf, hlt, keep, back, goes⟩ := hG
  obtain ⟨W, ⟨m, w0⟩, turn⟩ := hR H2 hT
  refine Calls.spliced_nil ?_
  have pin5 := (I5.pin (ga, go) (List.mem_append_right _ List.mem_cons_self)).1
  refine call_function_tree F.kind_all F.plain_all F.entry_all (F.args_all1 _) ?_
  unfold Builtin.«all»
  refine wpAny_bind (m := oneArg "all" _) (wpAny_pure ?_)
  refine wpAny_bind (wpAny_pyIter_gen (hGO.isGen pin5) ?_)
  refine wpAny_pure ⟨plainId_quiet F.plain_all_loop _, all_gx (A' := A') (s_0 := s_0) (H_0 := H_0) (cenv := cenv) (fp := fp) (tn := tn) (go := go) (gn := gn) (Stop := fun H => Q (.bl false) H) (End := fun _ H => Q (.bl true) H) hr.hd hr.depth hGO
    (fun σ' H' cp s1 I1 q => ⟨.bl true, H', back _ _ _ _ I1, rfl, q⟩) (fun σ' H' cp s1 I1 q => ⟨.bl false, H', back _ _ _ _ I1, rfl, q⟩) (m + 1) s5 I5.nolimit pin5 ⟨gs, hgs, ?_⟩⟩
  refine goes Unit _ _ _ W m (m + 1) () [(ga, go)] _ turn w0 (Nat.lt_succ_self _) (fun a cp hac p hp b hb z => ?_) rfl (inv_moved I5 rfl (allBare_setGen I5.bare rfl) fun _ _ q => q) st5
  subst hac
  have e : p = (ga, go) := by simpa using hp
  subst e
  exact absurd (hlt b hb) (by rw [← z]; exact Nat.lt_irrefl _)
end
/-! ### tuple(..) -/
section
variable {X : Cx} {A A' : Around} {s_0 : Shared} {H_0 : Hp} {cenv : Env} {fp : List Addr} {tn : Nat → Heap → Prop} {ga S : Addr} {gn n : Nat} {go : Obj}
/-- the asker's list S holds what is out -/
def ACl (ga : Addr) (go : Obj) (S : Addr) (ys : List V) (cp : List (Addr × Obj)) : Prop := ∃ (acc : Array Value) (c : Nat), cp = [(ga, go), (S, lstObj acc c)] ∧ Vals ys acc.toList
def YdL (ys : List V) (y : V) (H : Hp) (Nx : List V → Hp → Prop) : Prop := ys.length < sizeLine ∧ Nx (ys ++ [y]) H
theorem ext_gx {R : Result → Shared → Prop} {End : List V → Hp → Prop} {res : Value} (hh : A.handled = none) (hroom : A.depth < recursionLimit) (hG : GenObj go gn) (hSa : S ≠ ga) (far : (gblk X A' s_0 H_0 cenv fp).s_0.heap.objs.size ≤ S) (hSc : ∀ x c, cenv.cells.lookup x = some c → c ≠ S)
    (keep : ∀ i h h', tn i h → (∀ b ∈ fp, ∀ o, h.get? b = some o → h'.get? b = some o) → tn i h') (hSf : ∀ b ∈ fp, b ≠ S)
    (yes : ∀ (σ : L2.St) (H : Hp) (ys : List V) (acc : Array Value) (c : Nat) (s1 : Shared), Inv (gblk X A' s_0 H_0 cenv fp) [(ga, go), (S, lstObj acc c)] σ H s1 → Vals ys acc.toList → End ys H → R (.ok (.ret res)) s1) :
    ∀ (n : Nat) (s : Shared), s.heap.NoLimit → s.heap.get? ga = some go → (∃ gs, s.gens[gn]? = some gs ∧ gs.Goes (model X.prog X.w) A.in1.in1 (RG (gblk X A' s_0 H_0 cenv fp) (ACl ga go S) End)
      (YG (gblk X A' s_0 H_0 cenv fp) fp tn (ACl ga go S) YdL) n (.send .none) (s.setGen gn .running)) →
      codeAny (model X.prog X.w) A (.builtin "list.extend.loop" ⟨[.ref S, .ref ga, res], []⟩) R s := by
  intro n
  induction n with
  | zero =>
    rintro s hl e ⟨gs, hgs, hgo⟩
    refine codeAny_builtin F.entry_extend_loop ?_
    rw [Around.under_plainId F.plain_extend_loop _]
    show wpAny _ A.in1 (pyNext (.ref ga) >>= _) _ _ s
    refine wpAny_bind (next_gx (A := A.in1) hh hroom hl hG e hgs hgo (fun ys x σ H i cp Nx v s1 gs' r hac I st hy at_ kap => ?_) fun ys σ H cp s1 hac I q => ?_)
    · obtain ⟨acc, c, rfl, rv⟩ := hac
      have pS := I.pin (S, lstObj acc c) (List.mem_append_right _ (List.mem_cons_of_mem _ List.mem_cons_self))
      have I0 : Inv (gblk X A' s_0 H_0 cenv fp) [(ga, go)] σ H s1 := I.pins_of fun p hp => I.pin p (List.mem_append_right _ (by rw [List.mem_singleton.mp hp]; exact List.mem_cons_self))
      have I1 := I0.turned (t' := s1.toks) (h' := s1.heap.update S (Obj.mapSeq (·.push v))) (it := S) (fun b o hb q => (Heap.get?_update_other _ _ (Ne.symm hb)).trans q) pS.2.1 pS.2.2.1 (.inr far) hSc (fun p hp => by rw [List.mem_singleton.mp (show p ∈ [(ga, go)] by simpa using hp)]; exact Ne.symm hSa)
      have e2 := Heap.get?_update_self (Obj.mapSeq (·.push v)) pS.1 rfl
      obtain ⟨m, hm, _⟩ := kap (ys ++ [x]) [(ga, go), (S, _)] _ hy.2 ⟨acc.push v, _, rfl, by rw [Array.toList_push]; exact rv.append (.cons r .nil)⟩ (I1.pins_of fun p hp => by
        rcases List.mem_cons.mp hp with z | z
        · rw [z]; exact I1.pin (ga, go) (List.mem_append_right _ List.mem_cons_self)
        · rw [List.mem_singleton.mp z]; exact ⟨e2, pS.2.1, pS.2.2.1, pS.2.2.2.1, fun v q => by cases q⟩) (keep _ _ _ st fun b hb o q => (Heap.get?_update_other _ _ (Ne.symm (hSf b hb))).trans q)
      cases hm
    · obtain ⟨acc, c, rfl, rv⟩ := hac
      exact wpAny_pure (yes σ H ys acc c s1 I rv q)
  | succ n ih =>
    rintro s hl e ⟨gs, hgs, hgo⟩
    refine codeAny_builtin F.entry_extend_loop ?_
    rw [Around.under_plainId F.plain_extend_loop _]
    show wpAny _ A.in1 (pyNext (.ref ga) >>= _) _ _ s
    refine wpAny_bind (next_gx (A := A.in1) hh hroom hl hG e hgs hgo (fun ys x σ H i cp Nx v s1 gs' r hac I st hy at_ kap => ?_) fun ys σ H cp s1 hac I q => ?_)
    · obtain ⟨acc, c, rfl, rv⟩ := hac
      have pS := I.pin (S, lstObj acc c) (List.mem_append_right _ (List.mem_cons_of_mem _ List.mem_cons_self))
      have I0 : Inv (gblk X A' s_0 H_0 cenv fp) [(ga, go)] σ H s1 := I.pins_of fun p hp => I.pin p (List.mem_append_right _ (by rw [List.mem_singleton.mp hp]; exact List.mem_cons_self))
      have I1 := I0.turned (t' := s1.toks) (h' := s1.heap.update S (Obj.mapSeq (·.push v))) (it := S) (fun b o hb q => (Heap.get?_update_other _ _ (Ne.symm hb)).trans q) pS.2.1 pS.2.2.1 (.inr far) hSc (fun p hp => by rw [List.mem_singleton.mp (show p ∈ [(ga, go)] by simpa using hp)]; exact Ne.symm hSa)
      have e2 := Heap.get?_update_self (Obj.mapSeq (·.push v)) pS.1 rfl
      have hln := rv.length
      have hlt : acc.size < sizeLine := by
        have := hy.1
        rw [hln] at this
        simpa using this
      have pG := I1.pin (ga, go) (List.mem_append_right _ List.mem_cons_self)
      show wpAny _ A.in1 (updateSeq S (·.push v) >>= _) _ _ _
      refine wpAny_bind ?_
      refine wpAny_updateSeq pS.1 rfl (wpAny_pure ⟨plainId_quiet F.plain_extend_loop _, ih _ I1.nolimit pG.1 ⟨gs', at_, ?_⟩⟩) (Nat.le_of_lt hlt) (by show (acc.push v).size ≤ sizeLine + 1; rw [Array.size_push]; omega)
      obtain ⟨m, hm, z⟩ := kap (ys ++ [x]) [(ga, go), (S, _)] (({ s1 with heap := s1.heap.update S (Obj.mapSeq (·.push v)) } : Shared).setGen gn .running) hy.2 ⟨acc.push v, _, rfl, by rw [Array.toList_push]; exact rv.append (.cons r .nil)⟩ (inv_moved (I1.pins_of fun p hp => by
        rcases List.mem_cons.mp hp with z | z
        · rw [z]; exact pG
        · rw [List.mem_singleton.mp z]; exact ⟨e2, pS.2.1, pS.2.2.1, pS.2.2.2.1, fun v q => by cases q⟩) rfl (allBare_setGen (s := { s1 with heap := s1.heap.update S (Obj.mapSeq (·.push v)) }) I1.bare rfl) fun _ _ q => q) (keep _ _ _ st fun b hb o q => (Heap.get?_update_other _ _ (Ne.symm (hSf b hb))).trans q)
      cases hm
      exact z
    · obtain ⟨acc, c, rfl, rv⟩ := hac
      exact wpAny_pure (yes σ H ys acc c s1 I rv q)
end
section
variable {X : Cx} {pins : List (Addr × Obj)} {σ : L2.St} {s5 : Shared} {J : It} {g : TG} {tt : TT} {te : TE} {vs : List Nat} {H4 : Hp} {u : Value}
/-- all that a generator hands out, in a list of the asker's own -/
theorem collect_gx {A : Around} {E : Value → Shared → Prop} {Q : List Value → Shared → Prop} {End : List V → Hp → Prop} {W : Nat → Nat → List V → Hp → Prop} {m : Nat} (hh : A.handled = none) (hroom : A.depth < recursionLimit) (G : Gx X pins σ A.in1.in1 J g tt te vs H4 u s5)
    (w0 : W 0 m [] H4) (turn : tGx J g tt te (wipe σ vs) vs End YdL W)
    (hQ : ∀ (s' : Shared) (acc : Array Value) (ys : List V) (H' : Hp), Inv X pins σ H' s' → Vals ys acc.toList → End ys H' → Q acc.toList s') : wpAny (model X.prog X.w) A (collect u) Q E s5 := by
  obtain ⟨A', s_0, H_0, cenv, fp, ga, gn, go, tn, gs, rfl, hGO, hgs, hbare, I5, st5, nf, hlt, keep, back, goes⟩ := G
  have pin5 := I5.pin (ga, go) (List.mem_append_right _ List.mem_cons_self)
  have glt : ga < s5.heap.objs.size := Heap.lt_size pin5.1
  have hSI : s5.heap.objs.size ≠ ga := Nat.ne_of_gt glt
  unfold collect
  refine wpAny_bind (wpAny_runValue (codeAny_builtin F.entry_proto_collect ?_))
  rw [Around.under_plainId F.plain_proto_collect _]
  show wpAny _ A.in1 (newList [] >>= fun l => again (.builtin "list.__iadd__" ⟨[l, .ref ga], []⟩)) _ _ s5
  refine wpAny_bind (wpAny_newObj_type ?_)
  refine wpAny_pure ⟨plainId_quiet F.plain_list_iadd _, codeAny_builtin F.entry_list_iadd ?_⟩
  rw [Around.under_plainId F.plain_list_iadd _]
  show wpAny _ A.in1 (Builtin.List.listExtendWith (.ref s5.heap.objs.size) (.ref ga) (.ref s5.heap.objs.size)) _ _ _
  unfold Builtin.List.listExtendWith
  have k1 : ∀ b o, s5.heap.get? b = some o → (s5.heap.push { cls := .type "list", data := .seq ([] : List Value).toArray }).get? b = some o := fun b o e => Heap.get?_push_of_some _ e
  have hT : Shared.TypeIs { s5 with heap := s5.heap.push { cls := .type "list", data := .seq ([] : List Value).toArray } } (.ref ga) "generator" := Heap.IsGen.typeIs (s := { s5 with heap := _ }) (hGO.isGen (k1 _ _ pin5.1))
  refine wpAny_bind (wpAny_typeOf hT ?_)
  have h1 : Builtin.List.listSameRef (.ref s5.heap.objs.size) (.ref ga) = false := by simp [Builtin.List.listSameRef, hSI]
  have h2 : (Value.type "generator" == Value.type "list") = false := by decide
  have h3 : (Value.type "generator" == Value.type "tuple") = false := by decide
  simp only [h1, h2, h3, Bool.or_false, Bool.false_eq_true, if_false]
  refine wpAny_bind (wpAny_pyIter_gen (s := { s5 with heap := _ }) (hGO.isGen (k1 _ _ pin5.1)) ?_)
  refine wpAny_bind (wpAny_holding ?_)
  unfold Builtin.List.listLengthHint
  refine wpAny_bind (wpAny_specialOf hT F.gen_no_len ?_)
  show wpAny _ A.in1 (specialOf (Value.ref ga) (Str.ofString "__length_hint__") >>= _) _ _ _
  refine wpAny_bind (wpAny_specialOf hT F.gen_no_hint ?_)
  refine wpAny_pure ?_
  show wpAny _ A.in1 (rule "list.extend.makes-room" >>= fun _ => Builtin.List.listTouch (.ref s5.heap.objs.size) >>= fun _ =>
    again (.builtin "list.extend.loop" ⟨[.ref s5.heap.objs.size, .ref ga, .ref s5.heap.objs.size], []⟩)) _ _ _
  refine wpAny_bind (wpAny_rule ?_)
  have hS₁ : (s5.heap.push { cls := .type "list", data := .seq ([] : List Value).toArray }).get? s5.heap.objs.size = some { cls := .type "list", data := .seq ([] : List Value).toArray } := Heap.get?_push_size _ rfl
  refine wpAny_bind ?_
  show wpAny _ A.in1 (updateSeq s5.heap.objs.size (·.push .none) >>= fun _ => updateSeq s5.heap.objs.size (·.pop)) _ _ _
  refine wpAny_bind (wpAny_updateSeq hS₁ rfl ?_)
  have hS₂ := Heap.get?_update_self (Obj.mapSeq (·.push Value.none)) hS₁ rfl
  refine wpAny_updateSeq hS₂ rfl ?_
  have hS₃ := Heap.get?_update_self (Obj.mapSeq (·.pop)) hS₂ rfl
  obtain ⟨c3, hS₄⟩ : ∃ c, (((s5.heap.push { cls := .type "list", data := .seq ([] : List Value).toArray }).update s5.heap.objs.size (Obj.mapSeq (·.push Value.none))).update s5.heap.objs.size (Obj.mapSeq (·.pop))).get? s5.heap.objs.size = some (lstObj #[] c) := ⟨_, hS₃⟩
  have k3 : ∀ b o, s5.heap.get? b = some o → (((s5.heap.push { cls := .type "list", data := .seq ([] : List Value).toArray }).update s5.heap.objs.size (Obj.mapSeq (·.push Value.none))).update s5.heap.objs.size (Obj.mapSeq (·.pop))).get? b = some o :=
    fun b o e => (Heap.get?_update_other _ _ (Ne.symm (Nat.ne_of_lt (Heap.lt_size e)))).trans ((Heap.get?_update_other _ _ (Ne.symm (Nat.ne_of_lt (Heap.lt_size e)))).trans (k1 b o e))
  have fS : FpOk (gblk X A' s_0 H_0 cenv fp) [(ga, go)] H4 s5.heap.objs.size := I5.fpOk (Nat.le_refl _) (I5.hok.fresh (Nat.le_refl _))
  have hfS : ∀ b ∈ fp, b ≠ s5.heap.objs.size := fun b hb => Nat.ne_of_lt (Nat.lt_trans (hlt b hb) glt)
  have I6 := inv_moved (s' := { s5 with heap := ((s5.heap.push { cls := .type "list", data := .seq ([] : List Value).toArray }).update s5.heap.objs.size (Obj.mapSeq (·.push Value.none))).update s5.heap.objs.size (Obj.mapSeq (·.pop)) }) I5 rfl I5.bare k3
  refine wpAny_pure ⟨plainId_quiet F.plain_extend_loop _, ext_gx (A := A) (A' := A') (s_0 := s_0) (H_0 := H_0) (cenv := cenv) (fp := fp) (tn := tn) (go := go) (gn := gn) (End := End) hh hroom hGO hSI ?_ fS.2.2.2.2.1 keep hfS
    (fun σ' H' ys acc c s1 I1 rv q => ?_) (m + 1) _ I6.nolimit (k3 _ _ pin5.1) ⟨gs, hgs, ?_⟩⟩
  · exact Nat.le_trans I5.sz (Nat.le_refl _)
  · show wpAny _ A (load s5.heap.objs.size >>= _) _ _ s1
    have pS := (I1.pin (s5.heap.objs.size, lstObj acc c) (List.mem_append_right _ (List.mem_cons_of_mem _ List.mem_cons_self))).1
    refine wpAny_bind (wpAny_load pS ?_)
    exact wpAny_pure (hQ s1 acc ys H' (back _ _ _ _ I1) rv q)
  · refine goes (List V) (ACl ga go s5.heap.objs.size) End YdL W m (m + 1) [] [(ga, go), (s5.heap.objs.size, lstObj #[] c3)] _ turn w0 (Nat.lt_succ_self _) (fun ys cp hac p hp b hb z => ?_) ⟨#[], c3, rfl, .nil⟩
      (inv_moved (I6.pins_of fun p hp => ?_) rfl (allBare_setGen (s := { s5 with heap := _ }) I5.bare rfl) fun _ _ q => q) (keep _ _ _ st5 fun b hb o q => k3 b o q)
    · obtain ⟨acc, c, rfl, _⟩ := hac
      rcases List.mem_cons.mp hp with e | e
      · rw [e] at z
        exact absurd (hlt b hb) (by rw [← z]; exact Nat.lt_irrefl _)
      · rw [List.mem_singleton.mp e] at z
        exact hfS b hb z.symm
    · rcases List.mem_cons.mp hp with e | e
      · rw [e]
        exact I6.pin (ga, go) (List.mem_append_right _ List.mem_cons_self)
      · rw [List.mem_singleton.mp e]
        exact ⟨hS₄, fS.1, fS.2.1, fS.2.2.1, fun v q => by cases q⟩
end
section
variable {X : Cx}
/-- tuple(elt for tg in iter ..) -/
def tTupX (P : Addr) (wi : TI) (g : TG) (tt : TT) (te : TE) (vs : List Nat) : TE := fun σ H Q => wi σ H fun J H1 => GxR.TabG H1 P ∧ ∀ H2, GxR.Tabbed P H1 H2 → ∃ W : Nat → Nat → List V → Hp → Prop, (∃ m, W 0 m [] H2) ∧
  tGx J g tt te (wipe σ vs) vs (fun ys H => ys.length ≤ sizeLine ∧ ∀ p, H p = none → Q (.ref p) (upd H p (.tup ys))) YdL W
theorem pe_tupX {c P : Addr} {elt tg iter : Expr} {ifs : List Expr} {p pos gpos : Pos} {scope : Scope} {own : List (Str × Nat)} {wi : TI} {g : TG} {tt : TT} {te : TE} {k : Nat}
    (hr : Room (k + 1) X.A) (hc : X.calm = true) (hN : X.N.Nodup) (hgl : Gl X "tuple") (hm : X.mg "tuple" = none) (hb : bootBuiltins "tuple" = some (.type "tuple")) (TB : GxR.TabB X.base X.mg c P) (hcode : X.env.code = .ref c)
    (hco : scope.isCoroutine = false) (hdot : scope.names.lookup (".0" : Str) = some NameKind.local) (nocell : ∀ y ∈ scope.names, y.2 ≠ .cell) (ok : BlkOk X.N X.env.scope scope own) (hi : PI X tg iter wi)
    (hg : ∀ (A' : Around) (s : Shared) (H : Hp) (C : Addr) (cl : List (Str × Addr)) (code : Value) (fp : List Addr), Room k A' → A'.guards = X.A.guards → PG (gblk X A' s H (genEnv scope cl C code builtinsNs X.env) fp) tg g)
    (ht : ∀ (A' : Around) (s : Shared) (H : Hp) (C : Addr) (cl : List (Str × Addr)) (code : Value) (fp : List Addr), Room k A' → A'.guards = X.A.guards → PTs (gblk X A' s H (genEnv scope cl C code builtinsNs X.env) fp) ifs tt)
    (he : ∀ (A' : Around) (s : Shared) (H : Hp) (C : Addr) (cl : List (Str × Addr)) (code : Value) (fp : List Addr), Room k A' → A'.guards = X.A.guards → PE (gblk X A' s H (genEnv scope cl C code builtinsNs X.env) fp) elt te)
    (hs : ∀ v, genFold iter X.env v = pure v)
    (hst : starEach [.GeneratorExp elt [⟨tg, iter, ifs, 0⟩] scope gpos] X.env = (false, eval (.GeneratorExp elt [⟨tg, iter, ifs, 0⟩] scope gpos) X.env) :: starEach [] X.env := by rfl) :
    PE X (.Call (.Name "tuple" p) [.GeneratorExp elt [⟨tg, iter, ifs, 0⟩] scope gpos] [] pos) (tTupX P wi g tt te (own.map (·.2))) := by
  refine ⟨fun pins s σ H Q I h => ?_⟩
  refine wpAny_Call_Name_kw (ld_blt I hgl hm hb ?_)
  refine PyProof.Rows.callWith_type1 ?_ hst (by rfl)
  rw [hst]
  show wpAny _ _ (spliced ((false, eval (.GeneratorExp elt [⟨tg, iter, ifs, 0⟩] scope gpos) X.env) :: backTo pos (starEach [] X.env))) _ _ s
  refine Calls.spliced_cons (gx_make (A := X.A.in1.in1.in1.in1) hr ⟨rfl, rfl, rfl, rfl, (by show X.A.units + 1 + 1 + 1 + 1 ≤ _; omega)⟩ hc hN TB hcode hco hdot nocell ok hi hg ht he hs I h fun J H1 H2 u s5 hR hT hG => ?_)
  obtain ⟨W, ⟨m, w0⟩, turn⟩ := hR H2 hT
  refine Calls.spliced_nil ?_
  have ⟨A', s_0, H_0, cenv, fp, ga, gn, go, tn, gs, eu, hGO, hgs, hbare, I5, st5, nf, hlt, keep, back, goes⟩ := hG
  have pin5 := (I5.pin (ga, go) (List.mem_append_right _ List.mem_cons_self)).1
  rw [eu] at hG ⊢
  refine callType_codes (Q₁ := fun obj s₁ => s₁.TypeIs obj "tuple" ∧ EP X pins σ Q obj s₁) F.called_tuple (F.typeCall_tuple_1 _) F.entry_object_init ?_ fun obj s₁ h₁ =>
    ⟨h₁.1, F.args_object_init_2 obj _, object_init_meets F.called_tuple.init.lookup F.called_tuple.made (by decide) X.prog X.w X.A.in1 _ s₁ ⟨h₁.1, rfl, h₁.2⟩⟩
  refine codeAny_of_tree ?_
  show wpAny _ X.A.in1.in1 (do checkBuiltinCall "tuple.__new__" ⟨[.type "tuple", .ref ga], []⟩; again (.builtin "tuple.__new__" ⟨[.type "tuple", .ref ga], []⟩)) _ _ s5
  refine wpAny_bind (wpAny_of_eq (F.newCall_tuple_1 _) (wpAny_pure ⟨plainId_quiet F.plain_tuple_new _, codeAny_builtin F.entry_tuple_new ?_⟩))
  rw [Around.under_plainId F.plain_tuple_new _]
  have hsub := sub_tuple_self
  have hinit := init_tuple_lookup
  have hmh := madeHere_tuple
  have hTI : s5.TypeIs (.ref ga) "generator" := (hGO.isGen pin5).typeIs
  have col : ∀ {Q0 : List Value → Shared → Prop} {E0 : Value → Shared → Prop}, (∀ (s' : Shared) (acc : Array Value), (∃ (ys : List V) (H' : Hp), Inv X pins σ H' s' ∧ Vals ys acc.toList ∧ ys.length ≤ sizeLine ∧ ∀ p, H' p = none → Q (.ref p) (upd H' p (.tup ys))) → Q0 acc.toList s') →
      wpAny (model X.prog X.w) X.A.in1.in1 (collect (.ref ga)) Q0 E0 s5 := fun hq => collect_gx hr.hd hr.depth hG w0 turn (fun s' acc ys H' I' rv q => hq s' acc ⟨ys, H', I', rv, q.1, q.2⟩)
  wp_walk using wpAny_typeOf hTI, col
  rintro s' acc ⟨ys, H', I', rv, small, q⟩
  show wpAny _ _ (Builtin.Tuple.tupleExact acc.toList.toArray >>= fun v => ret v) _ _ _
  unfold Builtin.Tuple.tupleExact
  refine wpAny_bind (wpAny_newObj_type ?_ (by show acc.toList.toArray.size ≤ sizeLine; rw [List.size_toArray, ← rv.length]; exact small))
  refine wpAny_pure ?_
  have free : H' s'.heap.objs.size = none := I'.hok.fresh (Nat.le_refl _)
  refine ⟨⟨_, Heap.get?_push_size _ rfl, rfl⟩, .ref s'.heap.objs.size, upd H' s'.heap.objs.size (.tup ys), I'.laid (t' := s'.toks) (fun b u z => Heap.get?_push_of_some _ z) (Nat.le_refl _) ⟨small, acc.toList, rv, ?_⟩, rfl, q _ free⟩
  exact ⟨_, Heap.get?_push_size _ rfl, rfl, 0, rfl⟩
end
/-! ### a def by its body, its code object known -/
theorem okC {P : Program} {w : World} {K : PySem.W.Frag} {mg : Str → Option Value} {base : Heap} {x qual : Str} {st : Stmt} {f : Addr} {fd : FuncData} {N ps : List Str} {k : Nat} {sp : Sp} (F : Fun K x qual st f fd) (S : FnScope N ps (defScope st)) (len : ∀ vs H Q E, sp vs H Q E → vs.length = ps.length)
    (body : ∀ (A : Around) (outer : List Env) (s : Shared) (H : Hp) (vs : List V) (Q : VK) (E : XK), Room k (A.deeper (envOfC qual (defScope st) s.heap.objs.size f fd.code)) → sp vs H Q E →
      ∃ t, PSs (cxOf CX0 P w K mg base N qual (defScope st) f fd.code A outer s H E).nox (defBody st) t ∧ t { nx := fun _ H' => Q .non H', rt := Q } (start N vs) H) : FnOk P w K mg base CX0 (k + 1) f fd ps sp := by
  obtain ⟨oc, od, kV, doc, pm, an, cdv, ct, osl, rfl, lk, hcd⟩ := F.ex
  refine fn_of lk hcd S len fun A outer s H vs Q E hr hsp => ?_
  obtain ⟨t, h, q⟩ := body A outer s H vs Q E hr hsp
  exact ⟨t, h.nox, q⟩
/-! ### from the head's facts -/
theorem fun_of {K : PySem.W.Frag} {x qual : Str} {st : Stmt} {f : Addr} {fd : FuncData} (F : FunD K x qual (defArgs st) (defBody st) (defScope st) [] [] f fd) : Fun K x qual st f fd := by
  obtain ⟨oc, od, dV, kV, doc, pm, an, cdv, ct, osl, rfl, lk, hcd, hd, _⟩ := F.ex
  rcases hd with ⟨_, rfl⟩ | ⟨z, _⟩
  · exact ⟨⟨oc, od, kV, doc, pm, an, cdv, ct, osl, rfl, lk, hcd⟩, F.kp⟩
  · exact absurd rfl z
theorem code_of {K : PySem.W.Frag} {x qual : Str} {st : Stmt} {p : He.Defn} {fd : FuncData} (F : Fun K x qual st (He.fAd K p) fd) : fd.code = .ref (He.cT K p).1 := by
  obtain ⟨oc, od, kV, doc, pm, an, cdv, ct, osl, rfl, lk, hcd⟩ := F.ex
  obtain ⟨c, rfl⟩ := He.codeIn_ref hcd
  show Value.ref c = Value.ref (He.codeOf K p)
  rw [He.codeOf_eq lk rfl]
theorem tab_of {base : Heap} {mg : Str → Option Value} {c P : Addr} (h : LamX.TabB base mg c P) : GxR.TabB base mg c P := ⟨h.code, h.bm, h.gP⟩
/-! ### heaps whose tables grow -/
def Tabs (H : Hp) (Ps : List Addr) : Prop := ∀ P ∈ Ps, GxR.TabG H P
/-- what is no table stays; tables stay tables -/
def Gr (H H' : Hp) : Prop := (∀ b o, (∀ ps, o ≠ HO.tbl ps) → H b = some o → H' b = some o) ∧ ∀ b, GxR.TabG H b → GxR.TabG H' b
theorem Gr.refl {H : Hp} : Gr H H := ⟨fun _ _ _ e => e, fun _ e => e⟩
theorem Gr.trans {H H1 H2 : Hp} (a : Gr H H1) (b : Gr H1 H2) : Gr H H2 := ⟨fun c o n e => b.1 c o n (a.1 c o n e), fun c e => b.2 c (a.2 c e)⟩
theorem Gr.of {H H' : Hp} (h : ∀ b o, H b = some o → H' b = some o) : Gr H H' := ⟨fun b o _ e => h b o e, fun b ⟨ps, e, t⟩ => ⟨ps, h _ _ e, t⟩⟩
theorem Gr.tab {P : Addr} {H H' : Hp} (t : GxR.TabG H P) (h : GxR.Tabbed P H H') : Gr H H' := by
  obtain ⟨ps, e, _⟩ := t
  refine ⟨fun b o n q => ?_, fun b q => ?_⟩
  · by_cases hb : b = P
    · rw [hb, e] at q
      exact absurd (Option.some.inj q).symm (n ps)
    · rw [h.2 b hb]; exact q
  · by_cases hb : b = P
    · rw [hb]; exact h.1
    · obtain ⟨ps', e', t'⟩ := q
      exact ⟨ps', by rw [h.2 b hb]; exact e', t'⟩
theorem Gr.tup {H H' : Hp} (g : Gr H H') {a : Addr} {xs : List V} (h : H a = some (.tup xs)) : H' a = some (.tup xs) := g.1 a _ (fun _ z => by cases z) h
theorem Gr.lst {H H' : Hp} (g : Gr H H') {a : Addr} {xs : List V} (h : H a = some (.lst xs)) : H' a = some (.lst xs) := g.1 a _ (fun _ z => by cases z) h
theorem Gr.tabs {H H' : Hp} (g : Gr H H') {Ps : List Addr} (h : Tabs H Ps) : Tabs H' Ps := fun P hP => g.2 P (h P hP)
theorem Gr.none {H : Hp} {a : Addr} {o : HO} (n : H a = Option.none) : Gr H (upd H a o) := Gr.of fun b u e => by
  rw [upd_ne (ne_of_none e n)]
  exact e
namespace CwR
/-- behind it a token is out -/
def PEp (X : Cx) (e : Expr) (t : TE) : Prop := ∀ (pins : List (Addr × Obj)) (s : Shared) (σ : L2.St) (H : Hp) (Q : VK), Inv X pins σ H s → t σ H Q → wpAny (model X.prog X.w) X.A (eval e X.env) (fun u s' => 1 ≤ s'.toks ∧ EP X pins σ Q u s') X.xe s
theorem pep_ix {X : Cx} {a : Expr} {i : Int} {j : Nat} {p pos : Pos} {ta : TE} {r : R2} (hr : IxR X r) (ha : PE X a ta) (hs : PlainIx (.Constant (.int i) j p)) : PEp X (.Subscript a (.Constant (.int i) j p) pos) (tOp r ta (tC (.int i))) := by
  intro pins s σ H Q I h
  refine Subscript_ (thn (ha.run pins s σ H _ I h) fun v s1 ⟨x, H1, I1, r1, q1⟩ => wpAny_Constant_int ?_)
  refine wpAny_mono (PySem.wpAny_toks (hr a _ pins { s1 with toks := s1.toks + 1 } σ H1 x (.int i) v (.int i s1.toks) Q (I1.tok _) r1 ⟨_, rfl⟩ q1 (hs _ _))) (fun u s2 q => ⟨?_, q.2⟩) fun _ _ z => z.2
  have h1 : s1.toks + 1 ≤ s2.toks := q.1
  omega
theorem pep_repl {X : Cx} {o : Expr} {to : TE} {y z : Str} {j k : Nat} {c0 c1 apos pos : Pos} (ho : PEp X o to) (hyz : (y == z) = false := by decide)
    (hst : starEach [.Constant (.str y) j c0, .Constant (.str z) k c1] X.env = [(false, eval (.Constant (.str y) j c0) X.env), (false, eval (.Constant (.str z) k c1) X.env)] := by rfl)
    (hbase : attributeBase o "replace" X.env (eval o X.env) = eval o X.env := by rfl) (hline : (apos.endLine == pos.line) = true := by rfl) :
    PEp X (.Call (.Attribute o "replace" apos) [.Constant (.str y) j c0, .Constant (.str z) k c1] [] pos) (CwR.tReplC to y z) := by
  intro pins s σ H Q I h
  refine PySem.Call_method2 hbase hst hline (wpAny_mono (ho pins s σ H _ I h) (fun v s1 q => ?_) fun _ _ z => z)
  obtain ⟨hk, v', H1, I1, r1, x, e1, hb, q⟩ := q
  subst e1
  obtain ⟨tx, e2⟩ := r1
  subst e2
  refine ⟨"str", _, PySem.F.plainAttrs_str, PySem.F.slot_str_replace, PySem.F.type_str_replace, typeIs_str _ _ _, (fun _ e => nomatch e), Calls.callWith_builtin rfl (Calls.evalArgs_plain (Calls.spliced_cons ?_))⟩
  refine Calls.Constant_str (Calls.spliced_cons (Calls.Constant_str (Calls.spliced_nil ?_)))
  refine wpAny_mono (PySem.wpAny_toks (PySem.SC.replace (Q := fun u s' => EP X pins σ Q u s') (by show s1.toks ≠ 0; omega) (by show s1.toks + 1 ≠ 0; omega) (by show s1.toks ≠ s1.toks + 1; omega) hyz hb fun t' k => ⟨.str (Txt.replace x y z), H1, I1.tok k, ⟨t', rfl⟩, q⟩)) (fun u s2 q => ⟨?_, q.2⟩) fun _ _ z => z.2
  have h1 : s1.toks + 1 + 1 ≤ s2.toks := q.1
  omega
theorem pe_replP {X : Cx} {e : Expr} {t : TE} (h : PEp X e t) : PE X e t := ⟨fun pins s σ H Q I q => wpAny_mono (h pins s σ H Q I q) (fun _ _ z => z.2) fun _ _ z => z⟩
end CwR

/-! ### any(..) -/
section
variable {α : Type} {X : Cx} {A A' : Around} {s_0 : Shared} {H_0 : Hp} {cenv : Env} {fp : List Addr} {tn : Nat → Heap → Prop} {AC : α → List (Addr × Obj) → Prop} {End : α → Hp → Prop} {Yd : α → V → Hp → (α → Hp → Prop) → Prop} {ga : Addr} {gn n : Nat} {go : Obj}
/-- any(..) asks on -/
theorem any_gx {R : Result → Shared → Prop} {Stop : Hp → Prop} {End : Unit → Hp → Prop} (hh : A.handled = none) (hroom : A.depth < recursionLimit) (hG : GenObj go gn)
    (yes : ∀ (σ : L2.St) (H : Hp) (cp : List (Addr × Obj)) (s1 : Shared), Inv (gblk X A' s_0 H_0 cenv fp) cp σ H s1 → End () H → R (.ok (.ret (.bool false))) s1)
    (no : ∀ (σ : L2.St) (H : Hp) (cp : List (Addr × Obj)) (s1 : Shared), Inv (gblk X A' s_0 H_0 cenv fp) cp σ H s1 → Stop H → R (.ok (.ret (.bool true))) s1) :
    ∀ (n : Nat) (s : Shared), s.heap.NoLimit → s.heap.get? ga = some go → (∃ gs, s.gens[gn]? = some gs ∧ gs.Goes (model X.prog X.w) A.in1.in1 (RG (gblk X A' s_0 H_0 cenv fp) (fun _ cp => cp = [(ga, go)]) End)
      (YG (gblk X A' s_0 H_0 cenv fp) fp tn (fun _ cp => cp = [(ga, go)]) (fun _ y H Nx => ∃ b : Bool, y = .bl b ∧ if b = true then Stop H else Nx () H)) n (.send .none) (s.setGen gn .running)) →
      codeAny (model X.prog X.w) A (.builtin "any.loop" ⟨[.ref ga], []⟩) R s := by
  intro n
  induction n with
  | zero =>
    rintro s hl e ⟨gs, hgs, hgo⟩
    refine codeAny_builtin F.entry_any_loop ?_
    rw [Around.under_plainId F.plain_any_loop _]
    show wpAny _ A.in1 (pyNext (.ref ga) >>= _) _ _ s
    refine wpAny_bind (next_gx (A := A.in1) hh hroom hl hG e hgs hgo (fun a x σ H i cp Nx v s1 gs' r hac I st hy at_ kap => ?_) fun a σ H cp s1 hac I q => ?_)
    · obtain ⟨b, rfl, hb⟩ := hy
      cases (show v = Value.bool b from r)
      refine wpAny_bind (wpAny_holding (wpAny_truthy_bool ?_))
      refine wpAny_bind (wpAny_letGo ?_)
      cases b with
      | false =>
        obtain ⟨m, hm, _⟩ := kap () cp s1 (by simpa using hb) hac I st
        cases hm
      | true =>
        simp only [if_true] at hb ⊢
        exact wpAny_bind (wpAny_rule (wpAny_pure (no σ H cp s1 I hb)))
    · exact wpAny_bind (wpAny_rule (wpAny_pure (yes σ H cp s1 I q)))
  | succ n ih =>
    rintro s hl e ⟨gs, hgs, hgo⟩
    refine codeAny_builtin F.entry_any_loop ?_
    rw [Around.under_plainId F.plain_any_loop _]
    show wpAny _ A.in1 (pyNext (.ref ga) >>= _) _ _ s
    refine wpAny_bind (next_gx (A := A.in1) hh hroom hl hG e hgs hgo (fun a x σ H i cp Nx v s1 gs' r hac I st hy at_ kap => ?_) fun a σ H cp s1 hac I q => ?_)
    · obtain ⟨b, rfl, hb⟩ := hy
      cases (show v = Value.bool b from r)
      refine wpAny_bind (wpAny_holding (wpAny_truthy_bool ?_))
      refine wpAny_bind (wpAny_letGo ?_)
      cases b with
      | false =>
        simp only [Bool.false_eq_true, if_false] at hb ⊢
        subst hac
        refine wpAny_pure ⟨plainId_quiet F.plain_any_loop _, ih s1 I.nolimit (I.pin (ga, go) (List.mem_append_right _ List.mem_cons_self)).1 ⟨gs', at_, ?_⟩⟩
        obtain ⟨m, hm, z⟩ := kap () [(ga, go)] (s1.setGen gn .running) hb rfl (inv_moved I rfl (allBare_setGen I.bare rfl) fun _ _ q => q) st
        cases hm
        exact z
      | true =>
        simp only [if_true] at hb ⊢
        exact wpAny_bind (wpAny_rule (wpAny_pure (no σ H cp s1 I hb)))
    · exact wpAny_bind (wpAny_rule (wpAny_pure (yes σ H cp s1 I q)))
end
section
variable {X : Cx}
/-- any(elt for tg in iter ..) -/
def tAnyX (P : Addr) (wi : TI) (g : TG) (tt : TT) (te : TE) (vs : List Nat) : TE := fun σ H Q => wi σ H fun J H1 => GxR.TabG H1 P ∧ ∀ H2, GxR.Tabbed P H1 H2 → ∃ W : Nat → Nat → Unit → Hp → Prop, (∃ m, W 0 m () H2) ∧
  tGx J g tt te (wipe σ vs) vs (fun _ H => Q (.bl false) H) (fun _ y H Nx => ∃ b : Bool, y = .bl b ∧ if b = true then Q (.bl true) H else Nx () H) W
theorem pe_anyX {c P : Addr} {elt tg iter : Expr} {ifs : List Expr} {p pos gpos : Pos} {scope : Scope} {own : List (Str × Nat)} {wi : TI} {g : TG} {tt : TT} {te : TE} {k : Nat}
    (hr : Room (k + 1) X.A) (hc : X.calm = true) (hN : X.N.Nodup) (hgl : Gl X "any") (hm : X.mg "any" = none) (hb : bootBuiltins "any" = some (.builtin "any")) (TB : GxR.TabB X.base X.mg c P) (hcode : X.env.code = .ref c)
    (hco : scope.isCoroutine = false) (hdot : scope.names.lookup (".0" : Str) = some NameKind.local) (nocell : ∀ y ∈ scope.names, y.2 ≠ .cell) (ok : BlkOk X.N X.env.scope scope own) (hi : PI X tg iter wi)
    (hg : ∀ (A' : Around) (s : Shared) (H : Hp) (C : Addr) (cl : List (Str × Addr)) (code : Value) (fp : List Addr), Room k A' → A'.guards = X.A.guards → PG (gblk X A' s H (genEnv scope cl C code builtinsNs X.env) fp) tg g)
    (ht : ∀ (A' : Around) (s : Shared) (H : Hp) (C : Addr) (cl : List (Str × Addr)) (code : Value) (fp : List Addr), Room k A' → A'.guards = X.A.guards → PTs (gblk X A' s H (genEnv scope cl C code builtinsNs X.env) fp) ifs tt)
    (he : ∀ (A' : Around) (s : Shared) (H : Hp) (C : Addr) (cl : List (Str × Addr)) (code : Value) (fp : List Addr), Room k A' → A'.guards = X.A.guards → PE (gblk X A' s H (genEnv scope cl C code builtinsNs X.env) fp) elt te)
    (hs : ∀ v, genFold iter X.env v = pure v)
    (hst : starEach [.GeneratorExp elt [⟨tg, iter, ifs, 0⟩] scope gpos] X.env = (false, eval (.GeneratorExp elt [⟨tg, iter, ifs, 0⟩] scope gpos) X.env) :: starEach [] X.env := by rfl) :
    PE X (.Call (.Name "any" p) [.GeneratorExp elt [⟨tg, iter, ifs, 0⟩] scope gpos] [] pos) (tAnyX P wi g tt te (own.map (·.2))) := by
  refine ⟨fun pins s σ H Q I h => ?_⟩
  refine wpAny_Call_Name_kw (ld_blt I hgl hm hb ?_)
  refine PyProof.Rows.callWith_builtin1 ?_ hst (by rfl)
  rw [hst]
  show wpAny _ _ (spliced ((false, eval (.GeneratorExp elt [⟨tg, iter, ifs, 0⟩] scope gpos) X.env) :: backTo pos (starEach [] X.env))) _ _ s
  refine Calls.spliced_cons (gx_make (A := X.A.in1.in1) hr ⟨rfl, rfl, rfl, rfl, (by show X.A.units + 1 + 1 ≤ _; omega)⟩ hc hN TB hcode hco hdot nocell ok hi hg ht he hs I h fun J H1 H2 u s5 hR hT hG => ?_)
  obtain ⟨A', s_0, H_0, cenv, fp, ga, gn, go, tn, gs, rfl, hGO, hgs, hbare, I5, st5, nf, hlt, keep, back, goes⟩ := hG
  obtain ⟨W, ⟨m, w0⟩, turn⟩ := hR H2 hT
  refine Calls.spliced_nil ?_
  have pin5 := (I5.pin (ga, go) (List.mem_append_right _ List.mem_cons_self)).1
  refine call_function_tree F.kind_any F.plain_any F.entry_any (F.args_any1 _) ?_
  unfold Builtin.«any»
  refine wpAny_bind (m := oneArg "any" _) (wpAny_pure ?_)
  refine wpAny_bind (wpAny_pyIter_gen (hGO.isGen pin5) ?_)
  refine wpAny_pure ⟨plainId_quiet F.plain_any_loop _, any_gx (A' := A') (s_0 := s_0) (H_0 := H_0) (cenv := cenv) (fp := fp) (tn := tn) (go := go) (gn := gn) (Stop := fun H => Q (.bl true) H) (End := fun _ H => Q (.bl false) H) hr.hd hr.depth hGO
    (fun σ' H' cp s1 I1 q => ⟨.bl false, H', back _ _ _ _ I1, rfl, q⟩) (fun σ' H' cp s1 I1 q => ⟨.bl true, H', back _ _ _ _ I1, rfl, q⟩) (m + 1) s5 I5.nolimit pin5 ⟨gs, hgs, ?_⟩⟩
  refine goes Unit _ _ _ W m (m + 1) () [(ga, go)] _ turn w0 (Nat.lt_succ_self _) (fun a cp hac p hp b hb z => ?_) rfl (inv_moved I5 rfl (allBare_setGen I5.bare rfl) fun _ _ q => q) st5
  subst hac
  have e : p = (ga, go) := by simpa using hp
  subst e
  exact absurd (hlt b hb) (by rw [← z]; exact Nat.lt_irrefl _)
end

/-! ### sep.join(elt for tg in iter ..) -/
namespace GxJ
open PySem PySem.Spec PyProof.Rows L2 Builtin Builtin.Str
section
variable {X : Cx}
def tJoinX (P : Addr) (to : TE) (wi : TI) (g : TG) (tt : TT) (te : TE) (vs : List Nat) : TE := fun σ H Q => to σ H fun v H0 => ∃ sep : PySem.Str, v = .str sep ∧ wi σ H0 fun J H1 => GxR.TabG H1 P ∧ ∀ H2, GxR.Tabbed P H1 H2 → ∃ W : Nat → Nat → List V → Hp → Prop, (∃ m, W 0 m [] H2) ∧
  tGx J g tt te (wipe σ vs) vs (fun ys H => ∃ ws : List PySem.Str, ys = ws.map V.str ∧ JoinOk sep ws = true ∧ Q (.str (Txt.join sep ws)) H) YdL W
theorem l_strs : ∀ {ws : List PySem.Str} {us : List Value}, Vals (ws.map V.str) us → ∃ l : List (PySem.Str × Tok), strValues l = us ∧ l.map (·.1) = ws
  | [], _, .nil => ⟨[], rfl, rfl⟩
  | y :: ys, _, .cons r t => by
    obtain ⟨k, rfl⟩ := r
    obtain ⟨l, rfl, e⟩ := l_strs t
    exact ⟨(y, k) :: l, rfl, by rw [List.map_cons, e]⟩
theorem pe_joinX {c P : Addr} {o elt tg iter : Expr} {ifs : List Expr} {apos cpos gpos : Pos} {scope : Scope} {own : List (PySem.Str × Nat)} {to : TE} {wi : TI} {g : TG} {tt : TT} {te : TE} {k : Nat}
    (hr : Room (k + 1) X.A) (hc : X.calm = true) (hN : X.N.Nodup) (ho : PE X o to) (TB : GxR.TabB X.base X.mg c P) (hcode : X.env.code = .ref c)
    (hco : scope.isCoroutine = false) (hdot : scope.names.lookup (".0" : PySem.Str) = some NameKind.local) (nocell : ∀ y ∈ scope.names, y.2 ≠ .cell) (ok : BlkOk X.N X.env.scope scope own) (hi : PI X tg iter wi)
    (hg : ∀ (A' : Around) (s : Shared) (H : Hp) (C : Addr) (cl : List (PySem.Str × Addr)) (code : Value) (fp : List Addr), Room k A' → A'.guards = X.A.guards → PG (gblk X A' s H (genEnv scope cl C code builtinsNs X.env) fp) tg g)
    (ht : ∀ (A' : Around) (s : Shared) (H : Hp) (C : Addr) (cl : List (PySem.Str × Addr)) (code : Value) (fp : List Addr), Room k A' → A'.guards = X.A.guards → PTs (gblk X A' s H (genEnv scope cl C code builtinsNs X.env) fp) ifs tt)
    (he : ∀ (A' : Around) (s : Shared) (H : Hp) (C : Addr) (cl : List (PySem.Str × Addr)) (code : Value) (fp : List Addr), Room k A' → A'.guards = X.A.guards → PE (gblk X A' s H (genEnv scope cl C code builtinsNs X.env) fp) elt te)
    (hs : ∀ v, genFold iter X.env v = pure v) (hbase : attributeBase o "join" X.env (eval o X.env) = eval o X.env := by rfl)
    (hfew : ((backTo cpos (starEach [.GeneratorExp elt [⟨tg, iter, ifs, 0⟩] scope gpos] X.env)).all (fun x => !x.1) && (backToKw cpos (keywordEach [] X.env)).all (fun x => x.1.isSome)
      && decide (([.GeneratorExp elt [⟨tg, iter, ifs, 0⟩] scope gpos] : List Expr).length + ([] : List Keyword).length + (if ([] : List Keyword).isEmpty then 0 else 1) < 30)) = true := by rfl)
    (hline : (apos.endLine == cpos.line) = true := by rfl)
    (hst : starEach [.GeneratorExp elt [⟨tg, iter, ifs, 0⟩] scope gpos] X.env = (false, eval (.GeneratorExp elt [⟨tg, iter, ifs, 0⟩] scope gpos) X.env) :: starEach [] X.env := by rfl)
    (hplain : (backTo cpos (starEach [] X.env)).any (·.1) = false := by rfl) :
    PE X (.Call (.Attribute o "join" apos) [.GeneratorExp elt [⟨tg, iter, ifs, 0⟩] scope gpos] [] cpos) (tJoinX P to wi g tt te (own.map (·.2))) := by
  refine ⟨fun pins s σ H Q I h => ?_⟩
  refine wpAny_Call_method_late hbase hfew hline rfl (thn (ho.run pins s σ H _ I h) fun v s1 ⟨x', H1, I1, r1, sep, ex, q1⟩ => ?_)
  subst ex
  obtain ⟨tk, rfl⟩ := (show ∃ t, v = Value.str sep t from r1)
  refine ⟨"str", _, PySem.F.plainAttrs_str, PySem.F.slot_str_join, PySem.F.type_str_join, typeIs_str _ _ _, (fun _ e => nomatch e), ?_⟩
  rw [hst]
  refine Calls.callWith_builtin (by show (false || (backTo cpos (starEach [] X.env)).any (·.1)) = false; rw [hplain] <;> rfl) (Calls.evalArgs_plain ?_)
  show wpAny _ _ (spliced ((false, eval (.GeneratorExp elt [⟨tg, iter, ifs, 0⟩] scope gpos) X.env) :: backTo cpos (starEach [] X.env))) _ _ s1
  refine Calls.spliced_cons (gx_make (A := X.A.in1.in1.in1) hr ⟨rfl, rfl, rfl, rfl, (by show X.A.units + 1 + 1 + 1 ≤ _; omega)⟩ hc hN TB hcode hco hdot nocell ok hi hg ht he hs I1 q1 fun J H2 H3 u s5 hR hT hG => ?_)
  obtain ⟨W, ⟨m, w0⟩, turn⟩ := hR H3 hT
  refine Calls.spliced_nil ?_
  have ⟨A', s_0, H_0, cenv, fp, ga, gn, go, tn, gs, eu, hGO, hgs, hbare, I5, st5, nf, hlt, keep, back, goes⟩ := hG
  have pin5 := (I5.pin (ga, go) (List.mem_append_right _ List.mem_cons_self)).1
  rw [eu] at hG ⊢
  have hTI : s5.TypeIs (.ref ga) "generator" := (hGO.isGen pin5).typeIs
  refine wpAny_call (codeAny_call_builtin F.slot_str_join.plain F.entry_str_join (F.slot_str_join.check _ _ _ _ _ _ _ _ (typeIs_str _ _ _) (F.args_str_join_2 _ _) ?_))
  show wpAny _ X.A.in1 («str.join» ⟨[.str sep tk, .ref ga], []⟩) _ _ s5
  rw [join_tree_other]
  refine wpAny_bind (wpAny_typeOf hTI ?_)
  show wpAny _ X.A.in1 ((pyIter (.ref ga)).tryCatch _ >>= fun it => collect it >>= fun items => joinTail sep items) _ _ s5
  refine wpAny_bind (wpAny_tryCatch (wpAny_pyIter_gen (hGO.isGen pin5) ?_))
  refine wpAny_bind (collect_gx (A := X.A.in1) hr.hd hr.depth hG w0 turn (fun s' acc ys H' I' rv q => ?_))
  obtain ⟨ws, rfl, hok, hq⟩ := q
  obtain ⟨l, hl, el⟩ := l_strs rv
  rw [← hl]
  subst el
  unfold JoinOk at hok
  rw [Bool.not_eq_true'] at hok
  have gj : Gives (joinTail sep (strValues l)) (joinMade sep l) := by
    have g0 := gives_joinTail sep l hok
    cases l with
    | nil => exact g0
    | cons p r => cases r with
      | nil => exact g0
      | cons q r' => exact g0
  exact gj X.prog X.w X.A (wants _ _) s' (post_join l ⟨joinFit_length hok, fun t' k' => ⟨.str _, H', I'.tok k', ⟨t', rfl⟩, hq⟩⟩)
end
end GxJ

/-! ### heaps -/
theorem same_upd {H : Hp} {p : Addr} {o : HO} (h : H p = none) : Same H (upd H p o) := fun b x e => by
  rw [upd_ne (ne_of_none e h)]
  exact e
def Fr (d l : Addr) (H H' : Hp) : Prop := ∀ b o, b ≠ d → b ≠ l → H b = some o → H' b = some o
theorem Fr.trans {d l : Addr} {H H1 H2 : Hp} (a : Fr d l H H1) (b : Fr d l H1 H2) : Fr d l H H2 := fun c o h1 h2 h => b c o h1 h2 (a c o h1 h2 h)
theorem Fr.refl {d l : Addr} {H : Hp} : Fr d l H H := fun _ _ _ _ h => h
theorem Fr.new {d l p : Addr} {H : Hp} {o : HO} (h : H p = none) : Fr d l H (upd H p o) := fun b x _ _ e => same_upd h b x e
theorem Fr.of {d l : Addr} {H H' : Hp} (h : Same H H') : Fr d l H H' := fun b x _ _ e => h b x e
theorem Fr.d {d l : Addr} {H : Hp} {o : HO} : Fr d l H (upd H d o) := fun b x h1 _ e => by rw [upd_ne h1]; exact e
theorem Fr.l {d l : Addr} {H : Hp} {o : HO} : Fr d l H (upd H l o) := fun b x _ h2 e => by rw [upd_ne h2]; exact e
def Deck (H : Hp) (d l : Addr) : Prop := d ≠ l ∧ ∃ (cs : List Int) (z : Int), H d = some (.lst [.ref l, .int z]) ∧ H l = some (.lst (cs.map V.int)) ∧ cs.length ≤ 63 ∧ 0 ≤ z ∧ z < 4294967296
theorem Deck.same {H H' : Hp} {d l : Addr} (D : Deck H d l) (s : Same H H') : Deck H' d l := by
  obtain ⟨ne, cs, z, hd, hl, r⟩ := D
  exact ⟨ne, cs, z, s _ _ hd, s _ _ hl, r⟩
theorem Deck.new {H : Hp} {d l p : Addr} {o : HO} (D : Deck H d l) (h : H p = none) : Deck (upd H p o) d l := D.same (same_upd h)
theorem Deck.ne_new {H : Hp} {d l p : Addr} (D : Deck H d l) (h : H p = none) : p ≠ d ∧ p ≠ l := by
  obtain ⟨ne, cs, z, hd, hl, r⟩ := D
  exact ⟨(ne_of_none hd h).symm, (ne_of_none hl h).symm⟩
theorem p29 : (0 : Int) < 2147483629 := by decide
theorem p47 : (0 : Int) < 2147483647 := by decide
theorem p87 : (0 : Int) < 2147483587 := by decide
theorem sl1 : 1 ≤ sizeLine := by decide
theorem sl2 : 2 ≤ sizeLine := by decide
theorem sl3 : 3 ≤ sizeLine := by decide
theorem sl4 : 4 ≤ sizeLine := by decide
theorem seqIx0 {α : Type} (x : α) (xs : List α) : seqIndex? 0 (x :: xs).length = some 0 := by
  refine (ixN_seq (n := (x :: xs).length) (i := 0) (j := 0) ?_).1
  unfold ixN
  rw [if_pos (by decide), if_pos (by rw [List.length_cons]; omega)]
  rfl
theorem dpInts {K : PySem.W.Frag} {H : Hp} : ∀ cs : List Int, DpAll K H (cs.map V.int) (cs.map PyData.int)
  | [] => .nil
  | c :: r => .cons (.int c) (dpInts r)
theorem shInts (ns : List Int) : SeqAt.shaped (.list (ns.map PyData.int)) = true := by
  unfold SeqAt.shaped
  rw [Bool.and_eq_true]
  refine ⟨?_, ?_⟩
  · simp only [PyData.canLay0, canLayAll_ints]
  · simp only [PyData.depth, depthAll_ints]
    decide
theorem at_pick {xs : List V} {j : Int} (h0 : 0 ≤ j) (h1 : j < xs.length) : ∃ x, atI xs j = some x ∧ x ∈ xs := by
  obtain ⟨k, rfl⟩ : ∃ k : Nat, j = (k : Int) := ⟨j.toNat, (Int.toNat_of_nonneg h0).symm⟩
  have hk : k < xs.length := by omega
  exact ⟨xs[k], atI_nat (List.getElem?_eq_getElem hk), List.getElem_mem hk⟩
theorem units65 {k : Nat} {A : Around} (r : Room k A) : A.units + 65 < cLine := by have := r.un; omega
def rLenK (K : PySem.W.Frag) : List V → Hp → VK → Prop := fun xs H Q => ∃ p ys, xs = [.ref p] ∧ (SqL K H p ys ∨ SqT K H p ys) ∧ Q (.int ys.length) H
def rTupK (K : PySem.W.Frag) : List V → Hp → VK → Prop := fun xs H Q => ∃ p ys, xs = [.ref p] ∧ ((SqL K H p ys ∧ ∀ l, H l = none → Q (.ref l) (upd H l (.tup ys))) ∨ (SqT K H p ys ∧ Q (.ref p) H))
def rLstK (K : PySem.W.Frag) : List V → Hp → VK → Prop := fun xs H Q => ∃ p ys, xs = [.ref p] ∧ (SqL K H p ys ∨ SqT K H p ys) ∧ ∀ l, H l = none → Q (.ref l) (upd H l (.lst ys))
/-- joining ways behind a test, behind an expression -/
def tCutT (t : TT) : TT := fun σ H Q => ∃ Mid : Bool → Hp → Prop, t σ H Mid ∧ ∀ b H1, Mid b H1 → Q b H1
theorem pt_cut {X : Cx} {e : Expr} {t : TT} (h : PT X e t) : PT X e (tCutT t) := ⟨fun pins s σ H Q I hw => by
  obtain ⟨Mid, h1, q⟩ := hw
  exact thn (h.run pins s σ H _ I h1) fun c s1 ⟨H1, I1, m⟩ => ⟨H1, I1, q _ _ m⟩⟩
def tCutE (t : TE) : TE := fun σ H Q => ∃ Mid : VK, t σ H Mid ∧ ∀ v H1, Mid v H1 → Q v H1
theorem pe_cut {X : Cx} {e : Expr} {t : TE} (h : PE X e t) : PE X e (tCutE t) := ⟨fun pins s σ H Q I hw => by
  obtain ⟨Mid, h1, q⟩ := hw
  exact thn (h.run pins s σ H _ I h1) fun u s1 ⟨v, H1, I1, r, m⟩ => ⟨v, H1, I1, r, q _ _ m⟩⟩

/-! ### defs called where nothing is being shown (so that repr tells what stands there) -/
structure FnG (P : Program) (w : World) (K : PySem.W.Frag) (mg : Str → Option Value) (bs : Heap) (CX : CXT) (k : Nat) (f : Addr) (fd : FuncData) (ps : List Str) (sp : Sp) : Prop where
  many : ∀ vs H Q E, sp vs H Q E → vs.length = ps.length
  go : ∀ A : Around, A.guards = some [] → Room k A → ∀ (fr : List Env) (s : Shared) (H : Hp) (ar : Args) (us : List Value) (vs : List V) (Q : VK) (E : XK), Env0 P w K mg bs A fr s H → BindsTo s fd ar (ps.zip us) → Vals vs us → sp vs H Q E → codeAny (model P w) A (.call (.ref f) ar) (CR CX fr P w H s Q E) s
theorem FnG.of {P : Program} {w : World} {K : PySem.W.Frag} {mg : Str → Option Value} {bs : Heap} {CX : CXT} {k : Nat} {f : Addr} {fd : FuncData} {ps : List Str} {sp : Sp} (F : FnOk P w K mg bs CX k f fd ps sp) : FnG P w K mg bs CX k f fd ps sp :=
  ⟨F.len, fun A _ room fr s H ar us vs Q E e0 b r h => F.run A fr s H ar us vs Q E room e0 b r h⟩
theorem okG {CX : CXT} {P : Program} {w : World} {K : PySem.W.Frag} {mg : Str → Option Value} {bs : Heap} {x qual : Str} {st : Stmt} {f : Addr} {fd : FuncData} {N ps : List Str} {k : Nat} {sp : Sp} (F : Fun K x qual st f fd) (S : FnScope N ps (defScope st))
    (many : ∀ vs H Q E, sp vs H Q E → vs.length = ps.length)
    (body : ∀ (cdv : Value) (A : Around) (fr : List Env) (s : Shared) (H : Hp) (vs : List V) (Q : VK) (E : XK), A.guards = some [] → Room k (A.deeper (envOfC qual (defScope st) s.heap.objs.size f cdv)) → sp vs H Q E →
      ∃ t, PSs (cxOf CX P w K mg bs N qual (defScope st) f cdv A fr s H E) (defBody st) t ∧ t ⟨fun _ H' => Q .non H', Q, fun _ _ => False, fun _ _ => False⟩ (start N vs) H) : FnG P w K mg bs CX (k + 1) f fd ps sp := by
  obtain ⟨oc, od, kV, doc, pm, an, cdv, ct, osl, rfl, lk, code⟩ := F.ex
  refine ⟨many, fun A nothing room fr s H ar us vs Q E e0 bound rel told => ?_⟩
  have stays : ∀ b o, bs.get? b = some o → s.heap.get? b = some o := fun b o z => (e0.bs b o z).1
  have inK : K.In s.heap := e0.mod.kin.keeps stays
  have places : ∀ y ∈ ps.zip us, (defScope st).names.lookup y.1 = some .local ∨ ((defScope st).names.lookup y.1 = some .cell ∧ ((cellsFrom (s.heap.objs.size + 1) (defScope st).names []).lookup y.1).isSome = true) := by
    rintro ⟨n, v⟩ hy
    exact (S.par n (List.of_mem_zip hy).1).imp id fun c => ⟨c, PySem.W.cellsFrom_some _ _ _ (Or.inl c)⟩
  refine codeAny_call_function room.depth (inK _ _ lk) rfl S.co S.gen rfl (PySem.W.codeRec_of inK code) (bound _ _ _ _
    (wpAny_newFunctionEnv_cells S.kind places fun env he s1 made => ?_))
  subst he
  obtain ⟨t, runs, holds⟩ := body cdv A fr s H vs Q E nothing (room.deeper _) told
  refine ⟨(e0.mod.nolimit.keeps stays).keeps made.toInCall.keep, codeAny_func (wpAny_mono (runs.run [] s1 (start N vs) H _ (inv_start S room.hd e0 (many _ _ _ _ told) rel made) holds) (fun fl s2 z => ?_) fun _ _ z => z)⟩
  match fl, z with
  | .ret _, ⟨v, _, H', J, rv, q⟩ => exact ⟨v, H', J.os, J.bare, J.base, J.hok, rv, q⟩
  | .next, ⟨_, H', J, q⟩ => exact ⟨V.non, H', J.os, J.bare, J.base, J.hok, rfl, q⟩
  | .brk, ⟨_, _, _, q⟩ => exact q.elim
  | .cont, ⟨_, _, _, q⟩ => exact q.elim
theorem okG0 {P : Program} {w : World} {K : PySem.W.Frag} {mg : Str → Option Value} {bs : Heap} {x qual : Str} {st : Stmt} {f : Addr} {fd : FuncData} {N ps : List Str} {k : Nat} {sp : Sp} (F : Fun K x qual st f fd) (S : FnScope N ps (defScope st))
    (many : ∀ vs H Q E, sp vs H Q E → vs.length = ps.length)
    (body : ∀ (cdv : Value) (A : Around) (fr : List Env) (s : Shared) (H : Hp) (vs : List V) (Q : VK) (E : XK), A.guards = some [] → Room k (A.deeper (envOfC qual (defScope st) s.heap.objs.size f cdv)) → sp vs H Q E →
      ∃ t, PSs (cxOf CX0 P w K mg bs N qual (defScope st) f cdv A fr s H E).nox (defBody st) t ∧ t ⟨fun _ H' => Q .non H', Q, fun _ _ => False, fun _ _ => False⟩ (start N vs) H) : FnG P w K mg bs CX0 (k + 1) f fd ps sp :=
  okG F S many fun cdv A fr s H vs Q E g r h => by
    obtain ⟨t, p, q⟩ := body cdv A fr s H vs Q E g r h
    exact ⟨t, p.nox, q⟩
section
variable {X : Cx} {CX : CXT} {k : Nat} {f : Addr} {fd : FuncData} {ps : List Str} {sp : Sp} {ds : List Value} {dvs : List V} {E : XK}
theorem runG {pins : List (Addr × Obj)} {σ : L2.St} {H : Hp} {s : Shared} {Q : VK} {us : List Value} {vs : List V} (F : FnG X.prog X.w X.K X.mg X.base CX k f fd ps sp) (nothing : X.A.guards = some []) (room : Room k X.A) (hb : Binds X.K fd ps ds)
    (hd : Vals dvs ds) (out : Passes CX X E) (I : Inv X pins σ H s) (r : Vals vs us) (told : sp (vs ++ dvs) H Q E) : wpAny (model X.prog X.w) X.A (call (.ref f) us) (EP X pins σ Q) X.xe s := by
  have rel : Vals (vs ++ dvs) (us ++ ds) := r.append hd
  have size : (us ++ ds).length = ps.length := rel.length ▸ F.many _ _ _ _ told
  refine wpAny_call (codeAny_mono (F.go X.A nothing room X.stack s H _ _ _ Q E I.env0 (hb s us I.kIn size) rel told) fun res s2 z => ?_)
  match res, z with
  | .error e, z => exact out pins σ H s e s2 I z
  | .ok (.ret u), z => exact I.after z
  | .ok .next, z => exact z.elim
  | .ok .brk, z => exact z.elim
  | .ok .cont, z => exact z.elim
theorem pe_callG {x : Str} {p pos : Pos} {e : Expr} {es : List Expr} {t : TA} (F : FnG X.prog X.w X.K X.mg X.base CX k f fd ps sp) (nothing : X.A.guards = some []) (room : Room k X.A) (hg : Gl X x) (hm : X.mg x = some (.ref f)) (kp : PySem.W.keepIn X.K (.ref f) = true)
    (hb : Binds X.K fd ps ds) (hd : Vals dvs ds) (out : Passes CX X E) (ha : PA X (e :: es) t) (nd : (x == ("__debug__" : Str)) = false := by decide) (he : starEach (e :: es) X.env = (false, eval e X.env) :: starEach es X.env := by rfl)
    (hpl : (backTo pos (starEach es X.env)).any (·.1) = false := by rfl) : PE X (.Call (.Name x p) (e :: es) [] pos) (tCall sp dvs E t) := by
  refine ⟨fun pins s σ H Q I told => wpAny_Call_Name_kw (ld_glob I hg hm ?_ nd)⟩
  refine PySem.W.callWith_K (h₀ := X.base) I.ok.mod.kin kp (thn (ha.run pos pins s σ H _ I told) ?_) he hpl
  rintro us s1 ⟨vs, H1, J, r, q⟩
  exact ⟨J.kIn, runG F nothing room hb hd out J r q⟩
end
/-! ### what is shown by repr: plain data, whose lists and dicts were made by the law -/
def kD : Key → PyData
  | .inl i => .int i
  | .inr x => .str x
mutual
inductive Sh (H : Hp) : V → PyData → Prop
  | non : Sh H .non .none
  | bl (b : Bool) : Sh H (.bl b) (.bool b)
  | int (i : Int) : Sh H (.int i) (.int i)
  | str (x : Str) : Sh H (.str x) (.str x)
  | lst {a : Addr} {xs : List V} {ds : List PyData} : H a = some (.lst xs) → a ≠ sysModules → ShAll H xs ds → Sh H (.ref a) (.list ds)
  | tup {a : Addr} {xs : List V} {ds : List PyData} : H a = some (.tup xs) → ShAll H xs ds → Sh H (.ref a) (.tuple ds)
  | dic {a : Addr} {kvs : List (Key × V)} {ds : List PyData} : H a = some (.dK kvs) → ShAll H (kvs.map (·.2)) ds → Sh H (.ref a) (.dict ((kvs.map fun kv => kD kv.1).zip ds))
inductive ShAll (H : Hp) : List V → List PyData → Prop
  | nil : ShAll H [] []
  | cons {v : V} {vs : List V} {d : PyData} {ds : List PyData} : Sh H v d → ShAll H vs ds → ShAll H (v :: vs) (d :: ds)
end
theorem ShAll.length {H : Hp} : ∀ {vs : List V} {ds : List PyData}, ShAll H vs ds → vs.length = ds.length
  | _, _, .nil => rfl
  | _, _, .cons _ t => by rw [List.length_cons, List.length_cons, t.length]
mutual
theorem Sh.same {H H' : Hp} (s : Same H H') : ∀ {v : V} {d : PyData}, Sh H v d → Sh H' v d
  | _, _, .non => .non
  | _, _, .bl b => .bl b
  | _, _, .int i => .int i
  | _, _, .str x => .str x
  | _, _, .lst h n t => .lst (s _ _ h) n (t.same s)
  | _, _, .tup h t => .tup (s _ _ h) (t.same s)
  | _, _, .dic h t => .dic (s _ _ h) (t.same s)
theorem ShAll.same {H H' : Hp} (s : Same H H') : ∀ {vs : List V} {ds : List PyData}, ShAll H vs ds → ShAll H' vs ds
  | _, _, .nil => .nil
  | _, _, .cons h t => .cons (h.same s) (t.same s)
end
/-- the name of the class of such data -/
def tyD : PyData → String
  | .none => "NoneType"
  | .bool _ => "bool"
  | .int _ => "int"
  | .str _ => "str"
  | .list _ => "list"
  | .tuple _ => "tuple"
  | .dict _ => "dict"
theorem Sh.ty {K : PySem.W.Frag} {H : Hp} {v : V} {d : PyData} (h : Sh H v d) : TyX K H v (.type (tyD d)) := by
  cases h with
  | non => exact .base .non
  | bl b => exact .base (.bl b)
  | int i => exact .base (.int i)
  | str x => exact .base (.str x)
  | lst h _ _ => exact .base (.lst h)
  | tup h _ => exact .base (.tup h)
  | dic h _ => exact .base (.dK h)
section
variable {X : Cx} {pins : List (Addr × Obj)} {σ : L2.St} {H : Hp} {s : Shared}
theorem pairs_keys {P : Program} {w : World} {h : Heap} : ∀ {es : List DictEntry} {kvs : List (Key × Value)}, Pairs (mixKind P w) es kvs → ReadsAll h (es.map (·.key)) (kvs.map fun kv => kD kv.1) []
  | _, _, .nil => .nil
  | _, _, .cons (kv := kv) hk _ t => by
    have r := pairs_keys (h := h) t
    rcases keyIs_shape (k := kv.1) hk with ⟨i, u, e1, e2⟩ | ⟨x, u, e1, e2⟩
    · rw [List.map_cons, List.map_cons, e1, e2]
      exact ReadsAll.cons (as := []) (.int i u) r
    · rw [List.map_cons, List.map_cons, e1, e2]
      exact ReadsAll.cons (as := []) (.str x u) r
theorem pairs_vals {P : Program} {w : World} : ∀ {es : List DictEntry} {kvs : List (Key × Value)}, Pairs (mixKind P w) es kvs → es.map (·.val) = kvs.map (·.2)
  | _, _, .nil => rfl
  | _, _, .cons _ hv t => by rw [List.map_cons, List.map_cons, hv, pairs_vals t]
theorem kv_rel : ∀ {kvs : List (Key × V)} {vs : List (Key × Value)}, KV kvs vs → kvs.map (·.1) = vs.map (·.1) ∧ Vals (kvs.map (·.2)) (vs.map (·.2))
  | _, _, .nil => ⟨rfl, .nil⟩
  | _, _, .cons h t => by
    obtain ⟨a, b⟩ := kv_rel t
    exact ⟨by rw [List.map_cons, List.map_cons, a, h.1], .cons h.2 b⟩
mutual
theorem Sh.reads (I : Inv X pins σ H s) : ∀ (v : V) (d : PyData) (u : Value), Sh H v d → RelV v u → ∃ as, Reads s.heap u d as ∧ sysModules ∉ as
  | _, _, _, .non, r => by cases r; exact ⟨_, .none, List.not_mem_nil⟩
  | _, _, _, .bl b, r => by cases r; exact ⟨_, .bool b, List.not_mem_nil⟩
  | _, _, _, .int i, r => by obtain ⟨t, rfl⟩ := r; exact ⟨_, .int i t, List.not_mem_nil⟩
  | _, _, _, .str x, r => by obtain ⟨t, rfl⟩ := r; exact ⟨_, .str x t, List.not_mem_nil⟩
  | _, _, _, .lst (a := a) (xs := xs) h n t, r => by
    cases r
    obtain ⟨_, its, c, rv, ho⟩ := (show ObjOk X.prog X.w H s.heap a (.lst xs) from I.hok a _ h)
    obtain ⟨as, q, m⟩ := ShAll.reads I _ _ its t rv
    exact ⟨_, .list ho rfl rfl (by simpa using q), fun z => (List.mem_cons.mp z).elim (fun e => n e.symm) m⟩
  | _, _, _, .tup (a := a) (xs := xs) h t, r => by
    cases r
    obtain ⟨_, its, rv, o, ho, hc, c, hd⟩ := (show ObjOk X.prog X.w H s.heap a (.tup xs) from I.hok a _ h)
    obtain ⟨as, q, m⟩ := ShAll.reads I _ _ its t rv
    exact ⟨_, .tuple ho hc hd (by simpa using q), m⟩
  | _, _, _, .dic (a := a) (kvs := kvs) (ds := ds) h t, r => by
    cases r
    obtain ⟨_, low, vs, rel, o, es, ep, ho, hx, hd, _, hp, _⟩ := (show ObjOk X.prog X.w H s.heap a (.dK kvs) from I.hok a _ h)
    obtain ⟨rk, rv⟩ := kv_rel rel
    obtain ⟨as, q, m⟩ := ShAll.reads I _ _ (vs.map (·.2)) t rv
    have k1 : (kvs.map fun kv => kD kv.1) = vs.map fun kv => kD kv.1 := by
      have := congrArg (List.map kD) rk
      rw [List.map_map, List.map_map] at this
      exact this
    have ln : (kvs.map fun kv => kD kv.1).length = ds.length := by
      have := t.length
      rw [List.length_map] at this
      rw [List.length_map, this]
    refine ⟨_, .dict (as := []) (bs := as) ho hx.1 hd ?_ ?_, ?_⟩
    · rw [List.map_fst_zip (Nat.le_of_eq ln), k1]
      exact pairs_keys hp
    · rw [List.map_snd_zip (Nat.le_of_eq ln.symm), pairs_vals hp]
      exact q
    · intro z
      rcases List.mem_cons.mp z with e | e
      · exact absurd low (by rw [← e]; simp)
      · exact m e
theorem ShAll.reads (I : Inv X pins σ H s) : ∀ (vs : List V) (ds : List PyData) (us : List Value), ShAll H vs ds → Vals vs us → ∃ as, ReadsAll s.heap us ds as ∧ sysModules ∉ as
  | _, _, _, .nil, r => by cases r; exact ⟨_, .nil, List.not_mem_nil⟩
  | _, _, _, .cons h t, r => by
    cases r with
    | cons r1 r2 =>
      obtain ⟨as, q1, m1⟩ := Sh.reads I _ _ _ h r1
      obtain ⟨bs, q2, m2⟩ := ShAll.reads I _ _ _ t r2
      exact ⟨_, .cons q1 q2, fun z => (List.mem_append.mp z).elim m1 m2⟩
end
end
def rRepr : List V → Hp → VK → Prop := fun xs H Q => ∃ x d, xs = [x] ∧ Sh H x d ∧ d.showable = true ∧ d.shown.length ≤ sizeLine ∧ d.depth ≤ 50 ∧ Q (.str d.shown) H
theorem call_repr {X : Cx} (nothing : X.A.guards = some []) (hu : X.A.units + 64 < cLine) : CallR X (.builtin "repr") rRepr := by
  intro pins s σ H xs us Q I r h
  obtain ⟨x, d, rfl, sh, able, fits, deep, q⟩ := h
  cases r with
  | @cons _ u _ _ r1 r2 =>
    cases r2
    obtain ⟨as, rd, low⟩ := Sh.reads I _ _ _ sh r1
    have fin : ∀ h' t tk, (∀ b o, s.heap.get? b = some o → h'.get? b = some o) → EP X pins σ Q (.str d.shown t) { s with heap := h', toks := tk } := fun h' t tk kept => ⟨.str d.shown, H, I.kept kept, ⟨t, rfl⟩, q⟩
    cases sh with
    | non => cases r1; exact PySem.P.repr_of_none (fin _ _ _ fun _ _ z => z)
    | bl b => cases r1; exact PySem.P.repr_of_bool (fin _ _ _ fun _ _ z => z)
    | int i => obtain ⟨t, rfl⟩ := r1; exact PySem.P.repr_of_int (of_decide_eq_true able) (fin _ _ _ fun _ _ z => z)
    | str x => obtain ⟨t, rfl⟩ := r1; exact PySem.P.repr_of_str (fin _ _ _ fun _ _ z => z) fits
    | lst _ _ _ => cases r1; exact repr_of_reads' rd able (fun _ => low) nothing (by omega) (fun _ _ z => z) fin fits
    | tup _ _ => cases r1; exact repr_of_reads' rd able (fun _ => low) nothing (by omega) (fun _ _ z => z) fin fits
    | dic _ _ => cases r1; exact repr_of_reads' rd able (fun _ => low) nothing (by omega) (fun _ _ z => z) fin fits
/-- a display's list is none of the interpreter's own -/
def tLstN (t : TA) : TE := fun σ H Q => t σ H fun xs H1 => xs.length ≤ sizeLine ∧ ∀ p, H1 p = none → p ≠ sysModules → Q (.ref p) (upd H1 p (.lst xs))
theorem pe_lstN {X : Cx} {es : List Expr} {t : TA} {pos : Pos} (h : PA X es t) : PE X (.List es pos) (tLstN t) := by
  refine ⟨fun pins s σ H Q I told => wpAny_List_spliced (thn (h.run pos pins s σ H _ I told) ?_)⟩
  rintro us s1 ⟨xs, H1, J, r, small, q⟩
  have free : H1 s1.heap.objs.size = none := J.hok.fresh (Nat.le_refl _)
  refine ⟨by rw [← r.length]; exact small, .ref s1.heap.objs.size, upd H1 s1.heap.objs.size (.lst xs), J.laid (t' := s1.toks) (fun b u z => Heap.get?_push_of_some _ z) (Nat.le_refl _) ⟨small, us, 0, r, Heap.get?_push_size _ rfl⟩, rfl, q _ free (Nat.ne_of_gt J.big)⟩
/-! ### the end of a law whose defs are called where nothing is being shown -/
theorem law_G {P : Program} {w : World} {K : PySem.W.Frag} {mg mb : Str → Option Value} {CX : CXT} {k : Nat} {fa a : Addr} {fd : FuncData} {x : Str} {sp : Sp} {s : Shared} {vs : List Value} {ns : List Int}
    (inK : K.In s.heap) (gl : s.heap.Ns mainGlobals mg) (bl : s.heap.Ns builtinsNs mb) (boot : ∀ y : Str, y ≠ "__name__" → mb y = bootBuiltins y) (lim : s.heap.NoLimit) (ng : s.gens = #[])
    (at_ : s.heap.get? a = some { cls := .type "list", data := .seq vs.toArray }) (are : IntsAre vs ns) (small : ns.length ≤ sizeLine) (room : Room k callerA)
    (F : ∀ bs : Heap, K.In bs → bs.Ns mainGlobals mg → FnG P w K mg bs CX k fa fd [x] sp) (bound : ∀ (s : Shared) (u : Value), BindsTo s fd ⟨[u], []⟩ [(x, u)])
    (told : ∀ H : Hp, Only H → SqL K H a (ns.map V.int) → sp [.ref a] H (fun v _ => v = .bl true) fun _ _ _ => False)
    (noX : ∀ H e s', CX [] H s (fun _ _ _ => False) e s' → False) :
    codeAny (model P w) callerA (.call (.ref fa) ⟨[.ref a], []⟩) (fun r s' => r = .ok (.ret (.bool true)) ∧ OldK s.heap s'.heap ∧ s'.os = s.os ∧ AllBare s'.gens) s := by
  have main : ∀ H : Hp, Only H → SqL K H a (ns.map V.int) → HOk P w H s.heap → (∀ b, H b ≠ none → b = a) → (H a ≠ none → K.lookup a = none) →
      codeAny (model P w) callerA (.call (.ref fa) ⟨[.ref a], []⟩) (fun r s' => r = .ok (.ret (.bool true)) ∧ OldK s.heap s'.heap ∧ s'.os = s.os ∧ AllBare s'.gens) s := by
    intro H only list ok alone out
    have seen : ∀ {b : Addr} {o : Obj}, s.heap.get? b = some o → H b = none → (hidT s.heap H).get? b = some o := fun z n => hidT_get z n
    have dict : ∀ {b : Addr} {o : Obj} {es : Array DictEntry} {ep : Nat}, s.heap.get? b = some o → o.data = .dict es ep → H b = none := by
      intro b o es ep z dz
      refine Classical.byContradiction fun some_ => ?_
      have eb := alone b some_
      rw [eb, at_] at z
      cases z
      cases (show Data.seq vs.toArray _ = Data.dict es ep from dz)
    have names : ∀ {b : Addr} {m : Str → Option Value}, s.heap.Ns b m → (hidT s.heap H).Ns b m := by
      rintro b m ⟨o, es, ep, z, dz, rest⟩
      exact ⟨o, es, ep, seen z (dict z dz), dz, rest⟩
    have inB : K.In (hidT s.heap H) := by
      intro b o z
      refine seen (inK b o z) (Classical.byContradiction fun some_ => ?_)
      have eb := alone b some_
      subst eb
      rw [out some_] at z
      cases z
    obtain ⟨ml, l1, l2⟩ := lim
    have mod : Mod K mg (hidT s.heap H) := ⟨inB, names gl, ⟨mb, names bl, boot⟩, ⟨ml, names l1, l2⟩⟩
    have env : Env0 P w K mg (hidT s.heap H) callerA [] s H := { frames := rfl, mod := mod, bs := fun b o z => of_hidT z, bsz := Nat.le_of_eq (hidT_size _ _), funs := trivial, frf := (fun b hb => by cases (show b ∈ ([] : List Addr) from hb)), hok := ok, bare := .of_eq ng }
    refine codeAny_mono ((F _ inB (names gl)).go callerA rfl room [] s H _ [.ref a] [.ref a] _ _ env (bound s (.ref a)) (.cons rfl .nil) (told H only list)) fun r s2 z => ?_
    match r, z with
    | .error e, z => exact (noX H e s2 z).elim
    | .ok .next, z => exact z.elim
    | .ok .brk, z => exact z.elim
    | .ok .cont, z => exact z.elim
    | .ok (.ret u), ⟨v, H2, os, bare, un, ok2, rel, q⟩ =>
      cases (show v = V.bl true from q)
      cases (show u = Value.bool true from rel)
      refine ⟨rfl, OldK.of_keep fun b o z => ?_, os, bare⟩
      by_cases hb : H b = none
      · exact un.keep b o z hb (fun m => by cases (show b ∈ ([] : List Addr) from m)) (fun m => by cases m)
      · rcases only b with n | ⟨ob, xs, f⟩
        · exact absurd n hb
        · have o1 := (ok b _ f).1
          have o2 := (ok2 b _ (un.frzs b ob _ f)).1
          rw [z] at o1
          rw [Option.some.inj o1]
          exact o2
  have rel := vals_ints are
  cases hk : K.lookup a with
  | some o =>
    have z := inK a o hk
    rw [at_] at z
    cases z
    exact main (fun _ => none) (fun _ => .inl rfl) (.inr ⟨_, vs.toArray, _, hk, rfl, rfl, rfl, by rw [List.size_toArray, are.length]; exact small, by simpa using rel⟩) (fun b u z => by cases z) (fun b z => absurd rfl z) fun z => absurd rfl z
  | none =>
    have on : ∀ b : Addr, b = a → (if b = a then some (HO.frz { cls := .type "list", data := .seq vs.toArray } (.lst (ns.map V.int))) else none) = some (HO.frz { cls := .type "list", data := .seq vs.toArray } (.lst (ns.map V.int))) := fun b e => if_pos e
    refine main (fun b => if b = a then some (.frz { cls := .type "list", data := .seq vs.toArray } (.lst (ns.map V.int))) else none) (fun b => ?_) (.inl (.inr ⟨_, on a rfl⟩)) (fun b u z => ?_) (fun b z => ?_) fun _ => hk
    · rcases Classical.em (b = a) with e | e
      · exact .inr ⟨_, _, on b e⟩
      · exact .inl (if_neg e)
    · rcases Classical.em (b = a) with e | e
      · have := (on b e).symm.trans z
        cases this
        subst e
        exact ⟨at_, by rw [List.length_map]; exact small, vs, _, rel, at_⟩
      · have := (if_neg e).symm.trans z
        cases this
    · exact Classical.byContradiction fun e => z (if_neg e)
theorem walk_G {l : PySem.W.OpenLaw} {n k : Nat} {q : Program} {loose : List Str} {XP : (Str → Option Value) → Heap → Prop} {YP : World → Heap → Prop} {d : DefRec} {K : Params → PySem.W.Frag} {CX : World → CXT} {sp : World → Sp} {x : Str}
    (most : l.most = some n) (small : n ≤ sizeLine) (nodef : d.params.defaults = []) (room : Room k callerA) (inK : ∀ (w : World) (h : Heap), YP w h → (K w.params).In h)
    (F : ∀ (w : World) (mg : Str → Option Value) (fa : Addr) (h : Heap), (K w.params).In h → h.Ns mainGlobals mg → mg d.name = some (.ref fa) →
      ∃ fd : FuncData, (∀ (s : Shared) (u : Value), BindsTo s fd ⟨[u], []⟩ [(x, u)]) ∧ ∀ bs : Heap, (K w.params).In bs → bs.Ns mainGlobals mg → FnG l.prog w (K w.params) mg bs (CX w) k fa fd [x] (sp w))
    (told : ∀ (w : World) (H : Hp) (a : Addr) (ns : List Int), ns.length ≤ n → Only H → SqL (K w.params) H a (ns.map V.int) → sp w [.ref a] H (fun v _ => v = .bl true) fun _ _ _ => False)
    (noX : ∀ (w : World) (H : Hp) (s : Shared) (e : Value) (s' : Shared), CX w [] H s (fun _ _ _ => False) e s' → False) :
    PySem.W.WalkO q loose XP YP l.row.toRowW d [] (fun f vs => PySem.call f vs) := by
  refine Att.attach_call most nodef fun w s₀ s₁ mg mb fa o pm cd doc a vs ns G Y ho hd hcd hmg hobj hints hlen hg => ?_
  obtain ⟨fd, bound, FG⟩ := F w mg fa _ (inK w _ Y) G.T.g hmg
  exact law_G (inK w _ Y) G.T.g G.T.b G.T.builtins G.T.nolimit hg hobj hints (Nat.le_trans hlen small) room FG bound (fun H only list => told w H a ns hlen only list) fun H e s2 => noX w H s₁ e s2

/-! ### data made by the law or the program: numbers, truths, texts, lists and tuples of these -/
mutual
inductive Tk (H : Hp) : V → PyData → Prop
  | bl (b : Bool) : Tk H (.bl b) (.bool b)
  | int (i : Int) : Tk H (.int i) (.int i)
  | str (x : Str) : Tk H (.str x) (.str x)
  | lst {a : Addr} {xs : List V} {ds : List PyData} : H a = some (.lst xs) → TkAll H xs ds → Tk H (.ref a) (.list ds)
  | tup {a : Addr} {xs : List V} {ds : List PyData} : H a = some (.tup xs) → TkAll H xs ds → Tk H (.ref a) (.tuple ds)
inductive TkAll (H : Hp) : List V → List PyData → Prop
  | nil : TkAll H [] []
  | cons {v : V} {vs : List V} {d : PyData} {ds : List PyData} : Tk H v d → TkAll H vs ds → TkAll H (v :: vs) (d :: ds)
end
theorem TkAll.length {H : Hp} : ∀ {vs : List V} {ds : List PyData}, TkAll H vs ds → vs.length = ds.length
  | _, _, .nil => rfl
  | _, _, .cons _ t => by rw [List.length_cons, List.length_cons, t.length]
mutual
theorem Tk.same {H H' : Hp} (s : Same H H') : ∀ {v : V} {d : PyData}, Tk H v d → Tk H' v d
  | _, _, .bl b => .bl b
  | _, _, .int i => .int i
  | _, _, .str x => .str x
  | _, _, .lst h t => .lst (s _ _ h) (t.same s)
  | _, _, .tup h t => .tup (s _ _ h) (t.same s)
theorem TkAll.same {H H' : Hp} (s : Same H H') : ∀ {vs : List V} {ds : List PyData}, TkAll H vs ds → TkAll H' vs ds
  | _, _, .nil => .nil
  | _, _, .cons h t => .cons (h.same s) (t.same s)
end
theorem TkAll.get {H : Hp} : ∀ {xs : List V} {ds : List PyData} {j : Nat} {x : V}, TkAll H xs ds → xs[j]? = some x → ∃ d, ds[j]? = some d ∧ Tk H x d
  | _, _, _, _, .nil, h => by simp at h
  | _, _, 0, _, .cons (d := d) a _, h => by
    cases (Option.some.inj h)
    exact ⟨d, rfl, a⟩
  | _, _, j + 1, _, .cons _ t, h => t.get h
theorem TkAll.append {H : Hp} : ∀ {xs ys : List V} {ds es : List PyData}, TkAll H xs ds → TkAll H ys es → TkAll H (xs ++ ys) (ds ++ es)
  | _, _, _, _, .nil, t => t
  | _, _, _, _, .cons a r, t => .cons a (r.append t)
theorem TkAll.ints {H : Hp} : ∀ ns : List Int, TkAll H (ns.map V.int) (ns.map PyData.int)
  | [] => .nil
  | n :: r => .cons (.int n) (TkAll.ints r)
theorem Tk.int_inv {H : Hp} {v : V} {i : Int} (h : Tk H v (.int i)) : v = .int i := by cases h; rfl
theorem Tk.tup_inv {H : Hp} {v : V} {ds : List PyData} (h : Tk H v (.tuple ds)) : ∃ a xs, v = .ref a ∧ H a = some (.tup xs) ∧ TkAll H xs ds := by
  cases h with
  | tup h t => exact ⟨_, _, rfl, h, t⟩
theorem Tk.lst_inv {H : Hp} {v : V} {ds : List PyData} (h : Tk H v (.list ds)) : ∃ a xs, v = .ref a ∧ H a = some (.lst xs) ∧ TkAll H xs ds := by
  cases h with
  | lst h t => exact ⟨_, _, rfl, h, t⟩
theorem TkAll.int_inv {H : Hp} : ∀ {vs : List V} {ns : List Int}, TkAll H vs (ns.map PyData.int) → vs = ns.map V.int
  | _, [], .nil => rfl
  | _, n :: r, .cons h t => by rw [List.map_cons, h.int_inv, t.int_inv]
/-- heaps without one place -/
def hd1 (p : Addr) (H : Hp) : Hp := fun b => if b = p then none else H b
theorem hd1_le {p : Addr} {H : Hp} : Same (hd1 p H) H := fun b o e => by
  unfold hd1 at e
  by_cases h : b = p
  · rw [if_pos h] at e; cases e
  · rw [if_neg h] at e; exact e
theorem hd1_same {p : Addr} {H H' : Hp} (s : Same H H') : Same (hd1 p H) (hd1 p H') := fun b o e => by
  unfold hd1 at e ⊢
  by_cases h : b = p
  · rw [if_pos h] at e; cases e
  · rw [if_neg h] at e ⊢; exact s _ _ e
theorem hd1_upd {p : Addr} {H : Hp} {o : HO} : Same (hd1 p H) (hd1 p (upd H p o)) := fun b x e => by
  unfold hd1 at e ⊢
  by_cases h : b = p
  · rw [if_pos h] at e; cases e
  · rw [if_neg h] at e ⊢; rw [upd_ne h]; exact e
theorem hd1_at {p b : Addr} {H : Hp} (h : b ≠ p) : hd1 p H b = H b := if_neg h
theorem hd1_of {p : Addr} {H H' : Hp} (s : Same H H') (n : H p = none) : Same H (hd1 p H') := fun b o e => by
  rw [hd1_at (ne_of_none e n)]
  exact s _ _ e
theorem same_of_hd1 {p : Addr} {H H' : Hp} {o : HO} (s : Same H (hd1 p H')) : Same H (upd H' p o) := fun b x e => by
  have z := s b x e
  unfold hd1 at z
  by_cases h : b = p
  · rw [if_pos h] at z; cases z
  · rw [if_neg h] at z; rw [upd_ne h]; exact z

/-! ### tables and gates -/
def tabOf (bs : List Bool) : Str := ⟨(bs.map fun b => if b = true then 49 else 48).toArray⟩
def plc (ws : List Int) : Int := ws.foldl (fun p w => 2 * p + w) 0
def gateM (bs : List Bool) (ws : List Int) : Int := if bs.getD (plc ws).toNat false = true then 1 else 0
theorem plc_snoc (ws : List Int) (w : Int) : plc (ws ++ [w]) = 2 * plc ws + w := by
  unfold plc
  rw [List.foldl_append]
  rfl
theorem plc_take {ws : List Int} {i : Nat} {u : Int} (h : ws[i]? = some u) : plc (ws.take (i + 1)) = 2 * plc (ws.take i) + u := by
  rw [List.take_add_one, h]
  exact plc_snoc _ _
theorem plc_bd : ∀ (n : Nat) (ws : List Int), ws.length = n → (∀ w ∈ ws, w = 0 ∨ w = 1) → 0 ≤ plc ws ∧ plc ws < 2 ^ n := by
  intro n
  induction n with
  | zero =>
    intro ws h _
    cases List.eq_nil_of_length_eq_zero h
    decide
  | succ n ih =>
    intro ws h hw
    have hne : ws ≠ [] := fun z => by rw [z] at h; cases h
    obtain ⟨r, x, rfl⟩ : ∃ r x, ws = r ++ [x] := ⟨ws.dropLast, ws.getLast hne, (List.dropLast_concat_getLast hne).symm⟩
    have hr := ih r (by rw [List.length_append] at h; simpa using h) fun w h' => hw w (List.mem_append_left _ h')
    have hx := hw x (by simp)
    rw [plc_snoc, Int.pow_succ]
    omega
theorem gate01 (bs : List Bool) (ws : List Int) : gateM bs ws = 0 ∨ gateM bs ws = 1 := by
  unfold gateM
  split
  · exact .inr rfl
  · exact .inl rfl
theorem int_sign (b : Bool) : PySem.intText? ⟨#[if b = true then 49 else 48]⟩ = some (if b = true then 1 else 0) := by
  cases b <;> decide +kernel
def spGate (K : PySem.W.Frag) : Sp := fun vs H Q _ => ∃ (bs : List Bool) (la : Addr) (ws : List Int), vs = [.str (tabOf bs), .ref la] ∧ SqL K H la (ws.map V.int) ∧ (∀ w ∈ ws, w = 0 ∨ w = 1) ∧ bs.length = 2 ^ ws.length ∧ ws.length ≤ 3 ∧ Q (.int (gateM bs ws)) H
theorem gate_read {bs : List Bool} {ws : List Int} (hw : ∀ w ∈ ws, w = 0 ∨ w = 1) (hb : bs.length = 2 ^ ws.length) (h3 : ws.length ≤ 3) : ∃ b : Bool, 0 ≤ plc ws ∧ plc ws < 2 ^ 63 ∧ plc ws < (tabOf bs).length ∧ (tabOf bs).cps[(plc ws).toNat]? = some (if b = true then 49 else 48) ∧ gateM bs ws = if b = true then 1 else 0 := by
  obtain ⟨p0, p1⟩ := plc_bd _ ws rfl hw
  have p8 : plc ws < 8 := by
    have : (2 : Int) ^ ws.length ≤ 8 := by
      have : ws.length = 0 ∨ ws.length = 1 ∨ ws.length = 2 ∨ ws.length = 3 := by omega
      rcases this with h | h | h | h <;> rw [h] <;> decide
    omega
  have hlt : (plc ws).toNat < bs.length := by
    have : ((2 ^ ws.length : Nat) : Int) = (2 : Int) ^ ws.length := by simp
    omega
  refine ⟨bs[(plc ws).toNat], p0, by omega, ?_, ?_, ?_⟩
  · have : (tabOf bs).length = bs.length := by simp [tabOf, Str.length]
    rw [this]
    omega
  · simp [tabOf, List.getElem?_eq_getElem hlt]
  · unfold gateM
    rw [List.getD_eq_getElem?_getD, List.getElem?_eq_getElem hlt]
    rfl

/-! ### walks -/
theorem gx_tup {α : Type} {K : PySem.W.Frag} {a : Addr} {xs : List V} {g : TG} {tt : TT} {te : TE} {vs : List Nat} {σ0 : L2.St} {End : α → Hp → Prop} {Yd : α → V → Hp → (α → Hp → Prop) → Prop} {a0 : α} {H0 : Hp} (Pv : Nat → α → Hp → Prop) (h0 : Pv 0 a0 H0)
    (hl : ∀ i c H, i ≤ xs.length → Pv i c H → SqT K H a xs)
    (hs : ∀ i x c H, xs[i]? = some x → Pv i c H → g x σ0 H fun σ2 H2 => wipe σ2 vs = σ0 ∧ tt σ2 H2 fun b H3 => if b = true then te σ2 H3 fun y H4 => Yd c y H4 (Pv (i + 1)) else Pv (i + 1) c H3) (hd : ∀ c H, Pv xs.length c H → End c H) :
    ∃ W : Nat → Nat → α → Hp → Prop, (∃ m, W 0 m a0 H0) ∧ tGx (Itt K a) g tt te σ0 vs End Yd W := by
  refine ⟨fun i m c H => m = xs.length - i ∧ i ≤ xs.length ∧ Pv i c H, ⟨xs.length, rfl, Nat.zero_le _, h0⟩, ?_⟩
  rintro i m c H ⟨rfl, hi, p⟩
  by_cases hlt : i < xs.length
  · have hx : xs[i]? = some xs[i] := List.getElem?_eq_getElem hlt
    refine .inr ⟨⟨xs, xs[i], hl i c H hi p, hx⟩, Pv (i + 1), fun c' H' p' => ⟨xs.length - (i + 1), by omega, rfl, hlt, p'⟩, fun x H' y => ?_⟩
    obtain ⟨rfl, y⟩ := y
    exact hs i x c _ (y xs (hl i c _ hi p)) p
  · have e : i = xs.length := by omega
    subst e
    exact .inl ⟨⟨xs, hl _ c H hi p, Nat.le_refl _⟩, hd c H p⟩
theorem lc_zipT {K : PySem.W.Frag} {a b : Addr} {xs ys : List V} {g : TG} {tt : TT} {te : TE} {vs : List Nat} {σ : L2.St} {H1 : Hp} {D : Addr} {Qd : Hp → Prop} (el : xs.length = ys.length) (Pv : Nat → Hp → Prop) (h0 : Pv 0 (upd H1 D (.lst []))) (hl : ∀ i H, i ≤ xs.length → Pv i H → SqT K H a xs ∧ SqT K H b ys)
    (hs : ∀ i x y T H, xs[i]? = some x → ys[i]? = some y → H T = none → Pv i H → g (.ref T) (wipe σ vs) (upd H T (.tup [x, y])) fun σ2 H2 => wipe σ2 vs = wipe σ vs ∧ tt σ2 H2 fun b H3 =>
      if b = true then te σ2 H3 fun y H4 => ∃ acc, H4 D = some (.lst acc) ∧ acc.length < sizeLine ∧ Pv (i + 1) (upd H4 D (.lst (acc ++ [y]))) else Pv (i + 1) H3) (hd : ∀ H, Pv xs.length H → Qd H) :
    ∃ W : Nat → Nat → Hp → Prop, (∃ m, W 0 m (upd H1 D (.lst []))) ∧ ∀ i m H, W i m H →
      ((RZ.ItzT K a b).stop i H ∧ Qd H) ∨ ((RZ.ItzT K a b).go i H ∧ ∃ Nx : Hp → Prop, (∀ H', Nx H' → ∃ m', m' < m ∧ W (i + 1) m' H') ∧ ∀ x H', (RZ.ItzT K a b).yld i H x H' → g x (wipe σ vs) H' fun σ2 H2 => wipe σ2 vs = wipe σ vs ∧ tt σ2 H2 fun b H3 =>
        if b = true then te σ2 H3 fun y H4 => ∃ acc, H4 D = some (.lst acc) ∧ acc.length < sizeLine ∧ Nx (upd H4 D (.lst (acc ++ [y]))) else Nx H3) := by
  refine ⟨fun i m H => m = xs.length - i ∧ i ≤ xs.length ∧ Pv i H, ⟨xs.length, by simp, Nat.zero_le _, h0⟩, ?_⟩
  rintro i m H ⟨rfl, hi, p⟩
  obtain ⟨qx, qy⟩ := hl i H hi p
  by_cases hlt : i < xs.length
  · have hx : xs[i]? = some xs[i] := List.getElem?_eq_getElem hlt
    have hy : ys[i]? = some (ys[i]'(by omega)) := List.getElem?_eq_getElem _
    refine .inr ⟨⟨xs, ys, _, _, qx, qy, hx, hy⟩, Pv (i + 1), fun H' p' => ⟨xs.length - (i + 1), by omega, rfl, hlt, p'⟩, fun x H' y => ?_⟩
    obtain ⟨T, x1, y1, rfl, nT, rfl, e1, e2⟩ := y
    exact hs i x1 y1 T H (e1 xs qx) (e2 ys qy) nT p
  · have e : i = xs.length := by omega
    subst e
    exact .inl ⟨⟨xs, ys, qx, qy, .inl (Nat.le_refl _)⟩, hd H p⟩

/-! ### nets, and the words of nets -/
abbrev Gt := List Bool × List Nat
def gD (g : Gt) : PyData := .tuple [.str (tabOf g.1), .tuple ((g.2.map Int.ofNat).map PyData.int)]
def netD (many : Int) (gs : List Gt) : PyData := .tuple [.int many, .tuple (gs.map gD)]
def rowD (r : List Int) : PyData := .tuple (r.map PyData.int)
def chD (a b : List Int) : PyData := .tuple [rowD a, rowD b]
def GtOk (n : Nat) (g : Gt) : Prop := g.1.length = 2 ^ g.2.length ∧ 1 ≤ g.2.length ∧ g.2.length ≤ 3 ∧ ∀ i ∈ g.2, i < n
def NetOk (n : Nat) (gs : List Gt) : Prop := ∀ k g, gs[k]? = some g → GtOk (n + k) g
def Row01 (r : List Int) : Prop := ∀ x ∈ r, x = 0 ∨ x = 1
mutual
theorem Tk.gr {H H' : Hp} (s : Gr H H') : ∀ {v : V} {d : PyData}, Tk H v d → Tk H' v d
  | _, _, .bl b => .bl b
  | _, _, .int i => .int i
  | _, _, .str x => .str x
  | _, _, .lst h t => .lst (s.lst h) (t.gr s)
  | _, _, .tup h t => .tup (s.tup h) (t.gr s)
theorem TkAll.gr {H H' : Hp} (s : Gr H H') : ∀ {vs : List V} {ds : List PyData}, TkAll H vs ds → TkAll H' vs ds
  | _, _, .nil => .nil
  | _, _, .cons h t => .cons (h.gr s) (t.gr s)
end
theorem Tk.row_inv {H : Hp} {v : V} {r : List Int} (h : Tk H v (rowD r)) : ∃ a, v = .ref a ∧ H a = some (.tup (r.map V.int)) := by
  obtain ⟨a, xs, rfl, ha, t⟩ := h.tup_inv
  rw [t.int_inv] at ha
  exact ⟨a, rfl, ha⟩
theorem Tk.ch_inv {H : Hp} {v : V} {a b : List Int} (h : Tk H v (chD a b)) : ∃ c ra rb, v = .ref c ∧ H c = some (.tup [.ref ra, .ref rb]) ∧ H ra = some (.tup (a.map V.int)) ∧ H rb = some (.tup (b.map V.int)) := by
  obtain ⟨c, xs, rfl, hc, t⟩ := h.tup_inv
  cases t with
  | cons h1 t => cases t with
    | cons h2 t =>
      cases t
      obtain ⟨ra, rfl, ha⟩ := h1.row_inv
      obtain ⟨rb, rfl, hb⟩ := h2.row_inv
      exact ⟨c, ra, rb, rfl, hc, ha, hb⟩
theorem Tk.net_inv {H : Hp} {v : V} {m : Int} {gs : List Gt} (h : Tk H v (netD m gs)) : ∃ n g xs, v = .ref n ∧ H n = some (.tup [.int m, .ref g]) ∧ H g = some (.tup xs) ∧ TkAll H xs (gs.map gD) := by
  obtain ⟨n, xs, rfl, hn, t⟩ := h.tup_inv
  cases t with
  | cons h1 t => cases t with
    | cons h2 t =>
      cases t
      cases h1
      obtain ⟨g, ys, rfl, hg, t2⟩ := h2.tup_inv
      exact ⟨n, g, ys, rfl, hn, hg, t2⟩
theorem Tk.gt_inv {H : Hp} {v : V} {g : Gt} (h : Tk H v (gD g)) : ∃ a i, v = .ref a ∧ H a = some (.tup [.str (tabOf g.1), .ref i]) ∧ H i = some (.tup ((g.2.map Int.ofNat).map V.int)) := by
  obtain ⟨a, xs, rfl, ha, t⟩ := h.tup_inv
  cases t with
  | cons h1 t => cases t with
    | cons h2 t =>
      cases t
      cases h1
      obtain ⟨i, rfl, hi⟩ := (show Tk H _ (rowD (g.2.map Int.ofNat)) from h2).row_inv
      exact ⟨a, i, rfl, ha, hi⟩
theorem TkAll.at {H : Hp} {α : Type} {f : α → PyData} {xs : List V} {ds : List α} (t : TkAll H xs (ds.map f)) {j : Nat} {v : V} (h : xs[j]? = some v) : ∃ x, ds[j]? = some x ∧ Tk H v (f x) := by
  obtain ⟨dx, hdx, tx⟩ := t.get h
  rw [List.getElem?_map] at hdx
  cases hz : ds[j]? with
  | none => rw [hz] at hdx; cases hdx
  | some x =>
    rw [hz] at hdx
    cases Option.some.inj hdx
    exact ⟨x, rfl, tx⟩
theorem TkAll.at' {H : Hp} {α : Type} {f : α → PyData} {xs : List V} {ds : List α} (t : TkAll H xs (ds.map f)) {j : Nat} {x : α} (h : ds[j]? = some x) : ∃ v, xs[j]? = some v ∧ Tk H v (f x) := by
  have hl := t.length
  rw [List.length_map] at hl
  have hj := (List.getElem?_eq_some_iff.mp h).1
  obtain ⟨y, hy, ty⟩ := t.at (List.getElem?_eq_getElem (l := xs) (i := j) (by omega))
  cases Option.some.inj (h.symm.trans hy)
  exact ⟨_, List.getElem?_eq_getElem _, ty⟩
theorem grow_upd {H H' : Hp} {p : Addr} {o : HO} (g : Gr H H') (n : H' p = none) : Gr H (upd H' p o) := g.trans (Gr.none n)
/-- no table, no older list: only the list at D is written -/
def GrD (D : Addr) (H H' : Hp) : Prop := Gr H (hd1 D H')
theorem GrD.gr {D : Addr} {H H' : Hp} (g : GrD D H H') : Gr H H' := g.trans (Gr.of hd1_le)
theorem TabG_hd1 {D P : Addr} {H : Hp} (h : GxR.TabG H P) (n : D ≠ P) : GxR.TabG (hd1 D H) P := by
  obtain ⟨ps, e, t⟩ := h
  exact ⟨ps, by rw [hd1_at (Ne.symm n)]; exact e, t⟩
theorem GrD.new {D : Addr} {H : Hp} {o : HO} (n : H D = none) : GrD D H (upd H D o) := Gr.of (hd1_of (same_upd n) n)
theorem hd1_gr {D : Addr} {H H' : Hp} (g : Gr H H') (hD : ∀ P, GxR.TabG H P → D ≠ P) : Gr (hd1 D H) (hd1 D H') := by
  refine ⟨fun b o n e => ?_, fun b t => ?_⟩
  · have hb : b ≠ D := fun z => by
      unfold hd1 at e
      rw [if_pos z] at e; cases e
    rw [hd1_at hb] at e ⊢
    exact g.1 b o n e
  · obtain ⟨ps, e, t⟩ := t
    have e' := hd1_le _ _ e
    exact TabG_hd1 (g.2 b ⟨ps, e', t⟩) (hD b ⟨ps, e', t⟩)
theorem GrD.then {D : Addr} {H H1 H2 : Hp} {xs : List V} (a : GrD D H H1) (hD : H1 D = some (.lst xs)) (b : Gr H1 H2) : GrD D H H2 := a.trans (hd1_gr b fun P ⟨ps, e, _⟩ z => by
  rw [← z, hD] at e
  cases e)
theorem GrD.set {D : Addr} {H H1 : Hp} {o : HO} (a : GrD D H H1) : GrD D H (upd H1 D o) := a.trans (Gr.of hd1_upd)

end Gk

set_option Elab.async false
set_option linter.all false
set_option maxRecDepth 100000
set_option maxHeartbeats 1000000
set_option pp.maxSteps 1500
namespace Gk
open PySem PySem.Spec PyProof.Rows L2
/-! ### zip of two or three texts, tuples, lists -/
namespace ZpG
open PySem PySem.Spec PyProof.Rows L2
inductive ZS where
  | tx (x : PySem.Str)
  | tu (a : Addr)
  | li (a : Addr)
def ZS.val : ZS → V
  | .tx x => .str x
  | .tu a => .ref a
  | .li a => .ref a
def ZS.at (K : PySem.W.Frag) : ZS → Hp → List V → Prop
  | .tx x, _, xs => xs = x.cps.toList.map fun c => V.str ⟨#[c]⟩
  | .tu a, H, xs => SqT K H a xs
  | .li a, H, xs => SqL K H a xs
def ZS.it : ZS → Addr → Nat → Heap → Prop
  | .tx x, it, i, h => ∃ t, h.IsStrIter it (strIterType x) x t i
  | .tu a, it, i, h => h.IsTupleIter it a i
  | .li a, it, i, h => h.IsListIter it a i
def ZS.lt : ZS → Nat → Prop
  | .tx _, _ => True
  | .tu a, n => a < n
  | .li a, n => a < n
def ZS.off : ZS → Addr → Prop
  | .tx _, _ => True
  | .tu a, c => a ≠ c
  | .li a, c => a ≠ c
theorem ne' {a b : Nat} (h : a ≠ b) : @Ne Addr a b := h
theorem ZS.off_of {n c : Nat} (hc : n ≤ c) : ∀ {z : ZS}, z.lt n → z.off c
  | .tx _, _ => trivial
  | .tu _, h => Nat.ne_of_lt (Nat.lt_of_lt_of_le h hc)
  | .li _, h => Nat.ne_of_lt (Nat.lt_of_lt_of_le h hc)
theorem ZS.obj {it : Addr} {i : Nat} {h : Heap} : ∀ {z : ZS}, z.it it i h → ∃ o, h.get? it = some o ∧ ∀ v, o.data ≠ .cell v
  | .tx _, ⟨_, o, e, _, d⟩ => ⟨o, e, fun v q => by rw [d] at q; cases q⟩
  | .tu _, ⟨o, e, _, d⟩ => ⟨o, e, fun v q => by rw [d] at q; cases q⟩
  | .li _, ⟨o, e, _, d⟩ => ⟨o, e, fun v q => by rw [d] at q; cases q⟩
theorem ZS.move {it : Addr} {i : Nat} {h h' : Heap} (k : ∀ o, h.get? it = some o → h'.get? it = some o) : ∀ {z : ZS}, z.it it i h → z.it it i h'
  | .tx _, ⟨t, o, e, r⟩ => ⟨t, o, k o e, r⟩
  | .tu _, ⟨o, e, r⟩ => ⟨o, k o e, r⟩
  | .li _, ⟨o, e, r⟩ => ⟨o, k o e, r⟩
section
variable {X : Cx} {pins : List (Addr × Obj)} {σ : L2.St} {H : Hp} {s : Shared}
theorem ZS.inj (I : Inv X pins σ H s) {z : ZS} {xs ys : List V} (h1 : z.at X.K H xs) (h2 : z.at X.K H ys) : xs = ys := by
  cases z with
  | tx x =>
    have e1 : xs = _ := h1
    have e2 : ys = _ := h2
    rw [e1, e2]
  | tu a => exact I.tuple_inj h1 h2
  | li a => exact I.list_inj h1 h2
theorem ZS.draws {A : Around} {it : Addr} {i : Nat} {xs : List V} (z : ZS) (I : Inv X pins σ H s) (hq : z.at X.K H xs) (hh : A.handled = none) (off : z.off it) (st : z.it it i s.heap) :
    ∃ (fp : List Addr) (P : Nat → Value → Prop) (St : Nat → Heap → Prop), Draws X.prog X.w A it fp xs.length P St ∧ it ∈ fp ∧ (∀ c, c ∈ fp → c = it ∨ ¬ z.off c) ∧ St i s.heap ∧ (∀ j h, St j h → z.it it j h) ∧ ∀ j v, P j v → ∃ x, xs[j]? = some x ∧ RelV x v := by
  cases z with
  | tx x =>
    obtain ⟨t, st⟩ := st
    have e : xs = x.cps.toList.map fun c => V.str ⟨#[c]⟩ := hq
    have el : xs.length = x.cps.size := by rw [e, List.length_map, Array.length_toList]
    refine ⟨[it], fun i v => ∃ c u, x.cps[i]? = some c ∧ v = .str ⟨#[c]⟩ u, fun i h => h.IsStrIter it (strIterType x) x t i, ?_, List.mem_cons_self, fun c hc => .inl (List.mem_singleton.mp hc), st, fun j h q => ⟨t, q⟩, fun j v p => ?_⟩
    · rw [el]
      exact Draws.text hh it x t
    · obtain ⟨c, u, hc, rfl⟩ := p
      refine ⟨.str ⟨#[c]⟩, ?_, ⟨u, rfl⟩⟩
      rw [e, List.getElem?_map, Array.getElem?_toList, hc]
      rfl
  | tu a =>
    obtain ⟨its, rv, p, _⟩ := I.tuple hq
    have hl := rv.length
    refine ⟨[it, a], fun i v => its.toArray[i]? = some v, fun i h => h.IsTupleIter it a i ∧ h.IsTuple a its.toArray, ?_, List.mem_cons_self, fun c hc => ?_, ⟨st, p⟩, fun j h q => q.1, fun j v q => ?_⟩
    · rw [hl, ← List.size_toArray]
      exact Draws.tuple hh it a off its.toArray
    · rcases List.mem_cons.mp hc with e | e
      · exact .inl e
      · refine .inr fun q => ?_
        rw [List.mem_singleton.mp e] at q
        exact q rfl
    · have q : its[j]? = some v := by simpa using q
      have hj := (List.getElem?_eq_some_iff.mp q).1
      have hx : xs[j]? = some (xs[j]'(by omega)) := List.getElem?_eq_getElem _
      obtain ⟨u, hu, ru⟩ := rv.get hx
      rw [q] at hu
      cases Option.some.inj hu
      exact ⟨_, hx, ru⟩
  | li a =>
    obtain ⟨its, rv, p, _⟩ := I.list hq
    have hl := rv.length
    refine ⟨[it, a], fun i v => its.toArray[i]? = some v, fun i h => h.IsListIter it a i ∧ h.IsList a its.toArray, ?_, List.mem_cons_self, fun c hc => ?_, ⟨st, p.isList⟩, fun j h q => q.1, fun j v q => ?_⟩
    · rw [hl, ← List.size_toArray]
      exact Draws.list hh it a off its.toArray
    · rcases List.mem_cons.mp hc with e | e
      · exact .inl e
      · refine .inr fun q => ?_
        rw [List.mem_singleton.mp e] at q
        exact q rfl
    · have q : its[j]? = some v := by simpa using q
      have hj := (List.getElem?_eq_some_iff.mp q).1
      have hx : xs[j]? = some (xs[j]'(by omega)) := List.getElem?_eq_getElem _
      obtain ⟨u, hu, ru⟩ := rv.get hx
      rw [q] at hu
      cases Option.some.inj hu
      exact ⟨_, hx, ru⟩
theorem ZS.begins {v : Value} {xs : List V} (z : ZS) (I : Inv X pins σ H s) (hq : z.at X.K H xs) (r : RelV z.val v) : ∃ o Hh, Begins v o Hh ∧ Hh s.heap ∧ (∀ it h, h.get? it = some o → z.it it 0 h) ∧ z.lt s.heap.objs.size := by
  cases z with
  | tx x =>
    obtain ⟨t, rfl⟩ := (show ∃ t, v = Value.str x t from r)
    exact ⟨_, _, begins_text x t, trivial, fun it h e => ⟨t, _, e, rfl, rfl⟩, trivial⟩
  | tu a =>
    cases (show v = Value.ref a from r)
    obtain ⟨its, rv, p, _⟩ := I.tuple hq
    obtain ⟨o1, ho1, _⟩ := id p
    exact ⟨_, _, begins_tuple a its.toArray, p, fun it h e => ⟨_, e, rfl, rfl⟩, Heap.lt_size ho1⟩
  | li a =>
    cases (show v = Value.ref a from r)
    obtain ⟨its, rv, p, _⟩ := I.list hq
    exact ⟨_, _, begins_list a its.toArray, p.isList, fun it h e => ⟨_, e, rfl, rfl⟩, p.lt⟩
end
def Itz2 (K : PySem.W.Frag) (z1 z2 : ZS) : It :=
  ⟨fun i H => ∃ (xs1 xs2 : List V) (x1 x2 : V), z1.at K H xs1 ∧ z2.at K H xs2 ∧ xs1[i]? = some x1 ∧ xs2[i]? = some x2,
    fun i H v H' => ∃ T x1 x2, v = .ref T ∧ H T = none ∧ H' = upd H T (.tup [x1, x2]) ∧ (∀ xs, z1.at K H xs → xs[i]? = some x1) ∧ (∀ xs, z2.at K H xs → xs[i]? = some x2),
    fun i H => ∃ xs1 xs2 : List V, z1.at K H xs1 ∧ z2.at K H xs2 ∧ i ≤ xs1.length ∧ i ≤ xs2.length ∧ (i = xs1.length ∨ i = xs2.length)⟩
theorem turn_zip2 {P : Program} {w : World} {K : PySem.W.Frag} {elts : List Expr} {kk : Nat} {tpos : Pos} {z1 z2 : ZS} {n : Nat} (l1 : z1.lt n) (l2 : z2.lt n) :
    Turn P w K (.Tuple elts kk tpos) (Itz2 K z1 z2) [n + 4, n + 2, n + 3, n, n + 1] (n + 4) (fun i h => IsZip h (n + 4) (n + 2) (n + 3) .none ∧ IsTupOf2 h (n + 2) (.ref (n)) (.ref (n + 1)) ∧ (∃ x1 x2, IsTupOf2 h (n + 3) x1 x2) ∧ z1.it (n) i h ∧ z2.it (n + 1) i h) where
  mem := List.mem_cons_self
  obj := fun i h st c hc => by
    obtain ⟨hz, hTI, ⟨x1, x2, hTO⟩, st1, st2⟩ := st
    have e' : c = n + 4 ∨ c = n + 2 ∨ c = n + 3 ∨ c = n ∨ c = n + 1 := by simpa using hc
    rcases e' with q | q | q | q | q
    · rw [q]; exact ⟨_, hz, fun v q => nomatch q⟩
    · rw [q]; exact ⟨_, hTI, fun v q => nomatch q⟩
    · rw [q]; exact ⟨_, hTO, fun v q => nomatch q⟩
    · rw [q]; exact ZS.obj (z := z1) st1
    · rw [q]; exact ZS.obj (z := z2) st2
  keep := fun i h h' st k => by
    obtain ⟨hz, hTI, ⟨x1, x2, hTO⟩, st1, st2⟩ := st
    exact ⟨k _ (by simp) _ hz, k _ (by simp) _ hTI, ⟨x1, x2, k _ (by simp) _ hTO⟩, ZS.move (z := z1) (fun o q => k _ (by simp) o q) st1, ZS.move (z := z2) (fun o q => k _ (by simp) o q) st2⟩
  item := by
    intro X hP hw hK hc i pins s σ H E I hf st hg
    subst hP hw hK
    obtain ⟨hz, hTI, ⟨y1, y2, hTO⟩, st1, st2⟩ := st
    obtain ⟨xs1, xs2, x1, x2, q1, q2, h1, h2⟩ := hg
    have hh : X.A.in1.handled = none := I.ok.hd hc
    obtain ⟨fp1, P1, St1, D1, m1, f1, s1, b1, p1⟩ := z1.draws (A := X.A.in1) I q1 hh (ZS.off_of (by omega) l1) st1
    have nf1 : ∀ c, n ≤ c → c ≠ n → c ∉ fp1 := fun c h1 h2 h3 => by
      rcases f1 c h3 with e | e
      · exact h2 e
      · exact e (ZS.off_of h1 l1)
    obtain ⟨fp2, P2, St2, D2, m2, f2, s2, b2, p2⟩ := z2.draws (A := X.A.in1) I q2 hh (ZS.off_of (by omega) l2) st2
    have nf2 : ∀ c, n ≤ c → c ≠ n + 1 → c ∉ fp2 := fun c h1 h2 h3 => by
      rcases f2 c h3 with e | e
      · exact h2 e
      · exact e (ZS.off_of h1 l2)
    have t1 : i < xs1.length := (List.getElem?_eq_some_iff.mp h1).1
    have t2 : i < xs2.length := (List.getElem?_eq_some_iff.mp h2).1
    have hzl : n + 4 < s.heap.objs.size := Heap.lt_size hz
    have S : ZipSep2 (n + 4) (n + 2) (n + 3) (n) (n + 1) fp1 fp2 := { TIz := (ne' (a := n + 2) (b := n + 4) (by omega)), TOz := (ne' (a := n + 3) (b := n + 4) (by omega)), TITO := (ne' (a := n + 2) (b := n + 3) (by omega)), TIi1 := (ne' (a := n + 2) (b := n) (by omega)), mem1 := m1, zf1 := nf1 (n + 4) (by omega) (ne' (a := n + 4) (b := n) (by omega)), Tf1 := nf1 (n + 3) (by omega) (ne' (a := n + 3) (b := n) (by omega)), TIi2 := (ne' (a := n + 2) (b := n + 1) (by omega)), mem2 := m2, zf2 := nf2 (n + 4) (by omega) (ne' (a := n + 4) (b := n + 1) (by omega)), Tf2 := nf2 (n + 3) (by omega) (ne' (a := n + 3) (b := n + 1) (by omega)), sep1_2 := nf2 (n) (by omega) (ne' (a := n) (b := n + 1) (by omega)), sep2_1 := nf1 (n + 1) (by omega) (ne' (a := n + 1) (b := n) (by omega)) }
    refine wpAny_pyNext_zipD2_item S D1 D2 hz hTI hTO s1 s2 t1 t2 fun u1 u2 h' tk g1 g2 z' TO' w1 w2 hT hsz hk => ?_
    refine ⟨_, rfl, wpAny_letOwnedTupleGo_zip (s := { s with heap := h', toks := tk }) z' fun h'' z'' sb => ?_⟩
    obtain ⟨x1', e1, ru1⟩ := p1 i u1 g1
    rw [h1] at e1
    cases Option.some.inj e1
    obtain ⟨x2', e2, ru2⟩ := p2 i u2 g2
    rw [h2] at e2
    cases Option.some.inj e2
    have hT2 : h''.get? s.heap.objs.size = some { cls := .type "tuple", data := .seq #[u1, u2] } := (sb.2 _ (Nat.ne_of_gt hzl)).trans hT
    have new : ObjOk X.prog X.w (upd H s.heap.objs.size (.tup [x1, x2])) h'' s.heap.objs.size (.tup [x1, x2]) :=
      ⟨by show 2 ≤ sizeLine; decide, [u1, u2], .cons ru1 (.cons ru2 (.nil)), ⟨_, hT2, rfl, _, rfl⟩⟩
    have out5 : ∀ c, c ∉ [n + 4, n + 2, n + 3, n, n + 1] → c ≠ n + 4 ∧ c ≠ n + 3 ∧ c ≠ n ∧ c ≠ n + 1 := fun c hb => ⟨fun q' => hb (by simp [q']), fun q' => hb (by simp [q']), fun q' => hb (by simp [q']), fun q' => hb (by simp [q'])⟩
    have I1 : Inv X pins σ (upd H s.heap.objs.size (.tup [x1, x2])) { s with heap := h'', toks := tk } :=
      I.turnedNew (t' := tk) (ch := [n + 4, n + 2, n + 3, n, n + 1]) (fun c o hb q => by
        obtain ⟨a1, a2, b1', b2'⟩ := out5 c hb
        exact (sb.2 c a1).trans (hk c o a1 a2 b1' b2' q)) hf (Nat.le_refl _) new
    refine ⟨.ref s.heap.objs.size, _, I1, rfl, ⟨_, x1, x2, rfl, I.hok.fresh (Nat.le_refl _), rfl, fun l hl => by rw [ZS.inj I hl q1]; exact h1, fun l hl => by rw [ZS.inj I hl q2]; exact h2⟩, ⟨z'', ?_, ⟨u1, u2, ?_⟩, ?_, ?_⟩, fun c hcm => ?_⟩
    · exact (sb.2 (n + 2) (ne' (a := n + 2) (b := n + 4) (by omega))).trans (hk (n + 2) _ (ne' (a := n + 2) (b := n + 4) (by omega)) (ne' (a := n + 2) (b := n + 3) (by omega)) (ne' (a := n + 2) (b := n) (by omega)) (ne' (a := n + 2) (b := n + 1) (by omega)) hTI)
    · exact (sb.2 (n + 3) (ne' (a := n + 3) (b := n + 4) (by omega))).trans TO'
    · exact ZS.move (z := z1) (fun o q => (sb.2 (n) (ne' (a := n) (b := n + 4) (by omega))).trans q) (b1 _ _ w1)
    · exact ZS.move (z := z2) (fun o q => (sb.2 (n + 1) (ne' (a := n + 1) (b := n + 4) (by omega))).trans q) (b2 _ _ w2)
    · have hlt : c < s.heap.objs.size := by
        have e' : c = n + 4 ∨ c = n + 2 ∨ c = n + 3 ∨ c = n ∨ c = n + 1 := by simpa using hcm
        rcases e' with q | q | q | q | q
        · rw [q]; exact (show (n + 4 : Nat) < s.heap.objs.size by omega)
        · rw [q]; exact (show (n + 2 : Nat) < s.heap.objs.size by omega)
        · rw [q]; exact (show (n + 3 : Nat) < s.heap.objs.size by omega)
        · rw [q]; exact (show (n : Nat) < s.heap.objs.size by omega)
        · rw [q]; exact (show (n + 1 : Nat) < s.heap.objs.size by omega)
      rw [upd_ne (Nat.ne_of_lt hlt)]
      exact (hf c hcm).1
  done := by
    intro X hP hw hK hc i pins s σ H E I hf st hg
    subst hP hw hK
    obtain ⟨hz, hTI, ⟨y1, y2, hTO⟩, st1, st2⟩ := st
    obtain ⟨xs1, xs2, q1, q2, t1, t2, hend⟩ := hg
    have hh : X.A.in1.handled = none := I.ok.hd hc
    obtain ⟨fp1, P1, St1, D1, m1, f1, s1, b1, p1⟩ := z1.draws (A := X.A.in1) I q1 hh (ZS.off_of (by omega) l1) st1
    have nf1 : ∀ c, n ≤ c → c ≠ n → c ∉ fp1 := fun c h1 h2 h3 => by
      rcases f1 c h3 with e | e
      · exact h2 e
      · exact e (ZS.off_of h1 l1)
    obtain ⟨fp2, P2, St2, D2, m2, f2, s2, b2, p2⟩ := z2.draws (A := X.A.in1) I q2 hh (ZS.off_of (by omega) l2) st2
    have nf2 : ∀ c, n ≤ c → c ≠ n + 1 → c ∉ fp2 := fun c h1 h2 h3 => by
      rcases f2 c h3 with e | e
      · exact h2 e
      · exact e (ZS.off_of h1 l2)
    have S : ZipSep2 (n + 4) (n + 2) (n + 3) (n) (n + 1) fp1 fp2 := { TIz := (ne' (a := n + 2) (b := n + 4) (by omega)), TOz := (ne' (a := n + 3) (b := n + 4) (by omega)), TITO := (ne' (a := n + 2) (b := n + 3) (by omega)), TIi1 := (ne' (a := n + 2) (b := n) (by omega)), mem1 := m1, zf1 := nf1 (n + 4) (by omega) (ne' (a := n + 4) (b := n) (by omega)), Tf1 := nf1 (n + 3) (by omega) (ne' (a := n + 3) (b := n) (by omega)), TIi2 := (ne' (a := n + 2) (b := n + 1) (by omega)), mem2 := m2, zf2 := nf2 (n + 4) (by omega) (ne' (a := n + 4) (b := n + 1) (by omega)), Tf2 := nf2 (n + 3) (by omega) (ne' (a := n + 3) (b := n + 1) (by omega)), sep1_2 := nf2 (n) (by omega) (ne' (a := n) (b := n + 1) (by omega)), sep2_1 := nf1 (n + 1) (by omega) (ne' (a := n + 1) (b := n) (by omega)) }
    exact wpAny_pyNext_zipD2_end S D1 D2 hz hTI hTO s1 s2 t1 t2 hend fun h' tk hk => ⟨rfl, I.turnedL (t' := tk) (ch := [n + 4, n + 2, n + 3, n, n + 1]) (fun c o hb q =>
      hk c o (fun q' => hb (by simp [q'])) (fun q' => hb (by simp [q'])) (fun q' => hb (by simp [q'])) (fun q' => hb (by simp [q'])) q) hf⟩
  self := fun A i s Q E st h => wpAny_pyIter_zip st.1 h
def iZip2 (K : PySem.W.Frag) (ta : TA) : TI := fun σ H R => ta σ H fun vs H1 => ∃ (z1 z2 : ZS) (xs1 xs2 : List V), vs = [z1.val, z2.val] ∧ z1.at K H1 xs1 ∧ z2.at K H1 xs2 ∧ R (Itz2 K z1 z2) H1
theorem pi_zip2 {X : Cx} {e e2 : Expr} {ta : TA} {p pos tpos : Pos} {elts : List Expr} {kk : Nat} (hg : Gl X "zip") (hm : X.mg "zip" = none) (ha : PA X [e, e2] ta)
    (hs : starEach [e, e2] X.env = (false, eval e X.env) :: starEach [e2] X.env := by rfl) (hpl : (backTo pos (starEach [e2] X.env)).any (·.1) = false := by rfl) :
    PI X (.Tuple elts kk tpos) (.Call (.Name "zip" p) [e, e2] [] pos) (iZip2 X.K ta) := by
  refine ⟨fun pins s σ H R I h => ?_⟩
  refine Call_ (ld_blt I hg hm PyProof.Rows.boot_zip (PyProof.Rows.callWith_type1 (thn (ha.run pos pins s σ H _ I h) fun us s1 ⟨vs, H1, I1, r1, q1⟩ => ?_) hs hpl))
  obtain ⟨z1, z2, xs1, xs2, ex, q1, q2, q⟩ := q1
  subst ex
  cases r1 with
  | cons r1 rr =>
    cases rr with
    | cons r2 rr =>
      cases rr
      obtain ⟨o1, G1, B1, h1, i1, l1⟩ := z1.begins I1 q1 r1
      obtain ⟨o2, G2, B2, h2, i2, l2⟩ := z2.begins I1 q2 r2
      have fresh5 : ∀ c, c ∈ [s1.heap.objs.size + 4, s1.heap.objs.size + 2, s1.heap.objs.size + 3, s1.heap.objs.size, s1.heap.objs.size + 1] → FpOk X pins H1 c := fun c hcm => by
        have e' : c = s1.heap.objs.size + 4 ∨ c = s1.heap.objs.size + 2 ∨ c = s1.heap.objs.size + 3 ∨ c = s1.heap.objs.size ∨ c = s1.heap.objs.size + 1 := by simpa using hcm
        have hle : s1.heap.objs.size ≤ c := by omega
        exact I1.fpOk hle (I1.hok.fresh hle)
      refine zip_begins2 B1 B2 h1 h2 fun h' hz hTI hTO g1 g2 hsz hk => wpAny_pyIter_zip hz ?_
      have I2 : Inv X pins σ H1 { s1 with heap := h' } := I1.kept (t' := s1.toks) hk
      exact ⟨s1.heap.objs.size + 4, [s1.heap.objs.size + 4, s1.heap.objs.size + 2, s1.heap.objs.size + 3, s1.heap.objs.size, s1.heap.objs.size + 1], _, _, H1, rfl, I2, turn_zip2 l1 l2, ⟨hz, hTI, ⟨_, _, hTO⟩, i1 _ _ g1, i2 _ _ g2⟩, fresh5, q⟩
theorem for_zip2 {K : PySem.W.Frag} {z1 z2 : ZS} {xs1 xs2 : List V} {n : Nat} {g : TG} {tb : TS} {D : Ends} {σ : L2.St} {H : Hp} (n1 : xs1.length = n) (n2 : xs2.length = n) (Pv : Nat → L2.St → Hp → Prop) (h0 : Pv 0 σ H) (hl : ∀ i σ H, i ≤ n → Pv i σ H → z1.at K H xs1 ∧ z2.at K H xs2)
    (hs : ∀ (i : Nat) (x1 x2 : V) (T : Addr) (σ : L2.St) (H : Hp), xs1[i]? = some x1 → xs2[i]? = some x2 → H T = none → Pv i σ H → g (.ref T) σ (upd H T (.tup [x1, x2])) fun σ2 H2 => tb { D with nx := Pv (i + 1), ct := Pv (i + 1), bk := D.nx } σ2 H2) (hd : ∀ σ H, Pv n σ H → D.nx σ H) :
    ∃ W : Nat → Nat → L2.St → Hp → Prop, (∃ m, W 0 m σ H) ∧ ∀ i m σ H, W i m σ H →
      ((Itz2 K z1 z2).stop i H ∧ D.nx σ H) ∨ ((Itz2 K z1 z2).go i H ∧ ∃ N : L2.St → Hp → Prop, (∀ σ' H', N σ' H' → ∃ m', m' < m ∧ W (i + 1) m' σ' H') ∧ ∀ v H', (Itz2 K z1 z2).yld i H v H' → g v σ H' fun σ2 H2 => tb { D with nx := N, ct := N, bk := D.nx } σ2 H2) := by
  refine ⟨fun i m σ H => m = n - i ∧ i ≤ n ∧ Pv i σ H, ⟨n, rfl, Nat.zero_le _, h0⟩, ?_⟩
  rintro i m σ H ⟨rfl, hi, p⟩
  obtain ⟨q1, q2⟩ := hl i σ H hi p
  by_cases hlt : i < n
  · have e1 : xs1[i]? = some (xs1[i]'(by omega)) := List.getElem?_eq_getElem _
    have e2 : xs2[i]? = some (xs2[i]'(by omega)) := List.getElem?_eq_getElem _
    refine .inr ⟨⟨xs1, xs2, _, _, q1, q2, e1, e2⟩, Pv (i + 1), fun σ' H' p' => ⟨n - (i + 1), by omega, rfl, hlt, p'⟩, fun v H' y => ?_⟩
    obtain ⟨T, y1, y2, rfl, hT, rfl, f1, f2⟩ := y
    exact hs i y1 y2 T σ H (f1 xs1 q1) (f2 xs2 q2) hT p
  · have e : i = n := by omega
    subst e
    exact .inl ⟨⟨xs1, xs2, q1, q2, by omega, by omega, .inl (by omega)⟩, hd σ H p⟩
theorem lc_zip2 {K : PySem.W.Frag} {z1 z2 : ZS} {xs1 xs2 : List V} {n : Nat} {g : TG} {tt : TT} {te : TE} {vs : List Nat} {σ : L2.St} {H1 : Hp} {D : Addr} {Qd : Hp → Prop} (n1 : xs1.length = n) (n2 : xs2.length = n) (Pv : Nat → Hp → Prop) (h0 : Pv 0 (upd H1 D (.lst []))) (hl : ∀ i H, i ≤ n → Pv i H → z1.at K H xs1 ∧ z2.at K H xs2)
    (hs : ∀ (i : Nat) (x1 x2 : V) (T : Addr) (H : Hp), xs1[i]? = some x1 → xs2[i]? = some x2 → H T = none → Pv i H → g (.ref T) (wipe σ vs) (upd H T (.tup [x1, x2])) fun σ2 H2 => wipe σ2 vs = wipe σ vs ∧ tt σ2 H2 fun b H3 =>
      if b = true then te σ2 H3 fun y H4 => ∃ acc, H4 D = some (.lst acc) ∧ acc.length < sizeLine ∧ Pv (i + 1) (upd H4 D (.lst (acc ++ [y]))) else Pv (i + 1) H3) (hd : ∀ H, Pv n H → Qd H) :
    ∃ W : Nat → Nat → Hp → Prop, (∃ m, W 0 m (upd H1 D (.lst []))) ∧ ∀ i m H, W i m H →
      ((Itz2 K z1 z2).stop i H ∧ Qd H) ∨ ((Itz2 K z1 z2).go i H ∧ ∃ Nx : Hp → Prop, (∀ H', Nx H' → ∃ m', m' < m ∧ W (i + 1) m' H') ∧ ∀ x H', (Itz2 K z1 z2).yld i H x H' → g x (wipe σ vs) H' fun σ2 H2 => wipe σ2 vs = wipe σ vs ∧ tt σ2 H2 fun b H3 =>
        if b = true then te σ2 H3 fun y H4 => ∃ acc, H4 D = some (.lst acc) ∧ acc.length < sizeLine ∧ Nx (upd H4 D (.lst (acc ++ [y]))) else Nx H3) := by
  refine ⟨fun i m H => m = n - i ∧ i ≤ n ∧ Pv i H, ⟨n, by simp, Nat.zero_le _, h0⟩, ?_⟩
  rintro i m H ⟨rfl, hi, p⟩
  obtain ⟨q1, q2⟩ := hl i H hi p
  by_cases hlt : i < n
  · have e1 : xs1[i]? = some (xs1[i]'(by omega)) := List.getElem?_eq_getElem _
    have e2 : xs2[i]? = some (xs2[i]'(by omega)) := List.getElem?_eq_getElem _
    refine .inr ⟨⟨xs1, xs2, _, _, q1, q2, e1, e2⟩, Pv (i + 1), fun H' p' => ⟨n - (i + 1), by omega, rfl, hlt, p'⟩, fun v H' y => ?_⟩
    obtain ⟨T, y1, y2, rfl, hT, rfl, f1, f2⟩ := y
    exact hs i y1 y2 T H (f1 xs1 q1) (f2 xs2 q2) hT p
  · have e : i = n := by omega
    subst e
    exact .inl ⟨⟨xs1, xs2, q1, q2, by omega, by omega, .inl (by omega)⟩, hd H p⟩
theorem gx_zip2 {α : Type} {K : PySem.W.Frag} {z1 z2 : ZS} {xs1 xs2 : List V} {n : Nat} {g : TG} {tt : TT} {te : TE} {vs : List Nat} {σ0 : L2.St} {End : α → Hp → Prop} {Yd : α → V → Hp → (α → Hp → Prop) → Prop} {a0 : α} {H0 : Hp} (n1 : xs1.length = n) (n2 : xs2.length = n) (Pv : Nat → α → Hp → Prop) (h0 : Pv 0 a0 H0) (hl : ∀ i c H, i ≤ n → Pv i c H → z1.at K H xs1 ∧ z2.at K H xs2)
    (hs : ∀ (i : Nat) (x1 x2 : V) (T : Addr) (c : α) (H : Hp), xs1[i]? = some x1 → xs2[i]? = some x2 → H T = none → Pv i c H → g (.ref T) σ0 (upd H T (.tup [x1, x2])) fun σ2 H2 => wipe σ2 vs = σ0 ∧ tt σ2 H2 fun b H3 => if b = true then te σ2 H3 fun y H4 => Yd c y H4 (Pv (i + 1)) else Pv (i + 1) c H3) (hd : ∀ c H, Pv n c H → End c H) :
    ∃ W : Nat → Nat → α → Hp → Prop, (∃ m, W 0 m a0 H0) ∧ tGx (Itz2 K z1 z2) g tt te σ0 vs End Yd W := by
  refine ⟨fun i m c H => m = n - i ∧ i ≤ n ∧ Pv i c H, ⟨n, rfl, Nat.zero_le _, h0⟩, ?_⟩
  rintro i m c H ⟨rfl, hi, p⟩
  obtain ⟨q1, q2⟩ := hl i c H hi p
  by_cases hlt : i < n
  · have e1 : xs1[i]? = some (xs1[i]'(by omega)) := List.getElem?_eq_getElem _
    have e2 : xs2[i]? = some (xs2[i]'(by omega)) := List.getElem?_eq_getElem _
    refine .inr ⟨⟨xs1, xs2, _, _, q1, q2, e1, e2⟩, Pv (i + 1), fun c' H' p' => ⟨n - (i + 1), by omega, rfl, hlt, p'⟩, fun v H' y => ?_⟩
    obtain ⟨T, y1, y2, rfl, hT, rfl, f1, f2⟩ := y
    exact hs i y1 y2 T c H (f1 xs1 q1) (f2 xs2 q2) hT p
  · have e : i = n := by omega
    subst e
    exact .inl ⟨⟨xs1, xs2, q1, q2, by omega, by omega, .inl (by omega)⟩, hd c H p⟩
def Itz3 (K : PySem.W.Frag) (z1 z2 z3 : ZS) : It :=
  ⟨fun i H => ∃ (xs1 xs2 xs3 : List V) (x1 x2 x3 : V), z1.at K H xs1 ∧ z2.at K H xs2 ∧ z3.at K H xs3 ∧ xs1[i]? = some x1 ∧ xs2[i]? = some x2 ∧ xs3[i]? = some x3,
    fun i H v H' => ∃ T x1 x2 x3, v = .ref T ∧ H T = none ∧ H' = upd H T (.tup [x1, x2, x3]) ∧ (∀ xs, z1.at K H xs → xs[i]? = some x1) ∧ (∀ xs, z2.at K H xs → xs[i]? = some x2) ∧ (∀ xs, z3.at K H xs → xs[i]? = some x3),
    fun i H => ∃ xs1 xs2 xs3 : List V, z1.at K H xs1 ∧ z2.at K H xs2 ∧ z3.at K H xs3 ∧ i ≤ xs1.length ∧ i ≤ xs2.length ∧ i ≤ xs3.length ∧ (i = xs1.length ∨ i = xs2.length ∨ i = xs3.length)⟩
theorem turn_zip3 {P : Program} {w : World} {K : PySem.W.Frag} {elts : List Expr} {kk : Nat} {tpos : Pos} {z1 z2 z3 : ZS} {n : Nat} (l1 : z1.lt n) (l2 : z2.lt n) (l3 : z3.lt n) :
    Turn P w K (.Tuple elts kk tpos) (Itz3 K z1 z2 z3) [n + 5, n + 3, n + 4, n, n + 1, n + 2] (n + 5) (fun i h => IsZip h (n + 5) (n + 3) (n + 4) .none ∧ IsTupOf3 h (n + 3) (.ref (n)) (.ref (n + 1)) (.ref (n + 2)) ∧ (∃ x1 x2 x3, IsTupOf3 h (n + 4) x1 x2 x3) ∧ z1.it (n) i h ∧ z2.it (n + 1) i h ∧ z3.it (n + 2) i h) where
  mem := List.mem_cons_self
  obj := fun i h st c hc => by
    obtain ⟨hz, hTI, ⟨x1, x2, x3, hTO⟩, st1, st2, st3⟩ := st
    have e' : c = n + 5 ∨ c = n + 3 ∨ c = n + 4 ∨ c = n ∨ c = n + 1 ∨ c = n + 2 := by simpa using hc
    rcases e' with q | q | q | q | q | q
    · rw [q]; exact ⟨_, hz, fun v q => nomatch q⟩
    · rw [q]; exact ⟨_, hTI, fun v q => nomatch q⟩
    · rw [q]; exact ⟨_, hTO, fun v q => nomatch q⟩
    · rw [q]; exact ZS.obj (z := z1) st1
    · rw [q]; exact ZS.obj (z := z2) st2
    · rw [q]; exact ZS.obj (z := z3) st3
  keep := fun i h h' st k => by
    obtain ⟨hz, hTI, ⟨x1, x2, x3, hTO⟩, st1, st2, st3⟩ := st
    exact ⟨k _ (by simp) _ hz, k _ (by simp) _ hTI, ⟨x1, x2, x3, k _ (by simp) _ hTO⟩, ZS.move (z := z1) (fun o q => k _ (by simp) o q) st1, ZS.move (z := z2) (fun o q => k _ (by simp) o q) st2, ZS.move (z := z3) (fun o q => k _ (by simp) o q) st3⟩
  item := by
    intro X hP hw hK hc i pins s σ H E I hf st hg
    subst hP hw hK
    obtain ⟨hz, hTI, ⟨y1, y2, y3, hTO⟩, st1, st2, st3⟩ := st
    obtain ⟨xs1, xs2, xs3, x1, x2, x3, q1, q2, q3, h1, h2, h3⟩ := hg
    have hh : X.A.in1.handled = none := I.ok.hd hc
    obtain ⟨fp1, P1, St1, D1, m1, f1, s1, b1, p1⟩ := z1.draws (A := X.A.in1) I q1 hh (ZS.off_of (by omega) l1) st1
    have nf1 : ∀ c, n ≤ c → c ≠ n → c ∉ fp1 := fun c h1 h2 h3 => by
      rcases f1 c h3 with e | e
      · exact h2 e
      · exact e (ZS.off_of h1 l1)
    obtain ⟨fp2, P2, St2, D2, m2, f2, s2, b2, p2⟩ := z2.draws (A := X.A.in1) I q2 hh (ZS.off_of (by omega) l2) st2
    have nf2 : ∀ c, n ≤ c → c ≠ n + 1 → c ∉ fp2 := fun c h1 h2 h3 => by
      rcases f2 c h3 with e | e
      · exact h2 e
      · exact e (ZS.off_of h1 l2)
    obtain ⟨fp3, P3, St3, D3, m3, f3, s3, b3, p3⟩ := z3.draws (A := X.A.in1) I q3 hh (ZS.off_of (by omega) l3) st3
    have nf3 : ∀ c, n ≤ c → c ≠ n + 2 → c ∉ fp3 := fun c h1 h2 h3 => by
      rcases f3 c h3 with e | e
      · exact h2 e
      · exact e (ZS.off_of h1 l3)
    have t1 : i < xs1.length := (List.getElem?_eq_some_iff.mp h1).1
    have t2 : i < xs2.length := (List.getElem?_eq_some_iff.mp h2).1
    have t3 : i < xs3.length := (List.getElem?_eq_some_iff.mp h3).1
    have hzl : n + 5 < s.heap.objs.size := Heap.lt_size hz
    have S : ZipSep3 (n + 5) (n + 3) (n + 4) (n) (n + 1) (n + 2) fp1 fp2 fp3 := { TIz := (ne' (a := n + 3) (b := n + 5) (by omega)), TOz := (ne' (a := n + 4) (b := n + 5) (by omega)), TITO := (ne' (a := n + 3) (b := n + 4) (by omega)), TIi1 := (ne' (a := n + 3) (b := n) (by omega)), mem1 := m1, zf1 := nf1 (n + 5) (by omega) (ne' (a := n + 5) (b := n) (by omega)), Tf1 := nf1 (n + 4) (by omega) (ne' (a := n + 4) (b := n) (by omega)), TIi2 := (ne' (a := n + 3) (b := n + 1) (by omega)), mem2 := m2, zf2 := nf2 (n + 5) (by omega) (ne' (a := n + 5) (b := n + 1) (by omega)), Tf2 := nf2 (n + 4) (by omega) (ne' (a := n + 4) (b := n + 1) (by omega)), TIi3 := (ne' (a := n + 3) (b := n + 2) (by omega)), mem3 := m3, zf3 := nf3 (n + 5) (by omega) (ne' (a := n + 5) (b := n + 2) (by omega)), Tf3 := nf3 (n + 4) (by omega) (ne' (a := n + 4) (b := n + 2) (by omega)), sep1_2 := nf2 (n) (by omega) (ne' (a := n) (b := n + 1) (by omega)), sep1_3 := nf3 (n) (by omega) (ne' (a := n) (b := n + 2) (by omega)), sep2_1 := nf1 (n + 1) (by omega) (ne' (a := n + 1) (b := n) (by omega)), sep2_3 := nf3 (n + 1) (by omega) (ne' (a := n + 1) (b := n + 2) (by omega)), sep3_1 := nf1 (n + 2) (by omega) (ne' (a := n + 2) (b := n) (by omega)), sep3_2 := nf2 (n + 2) (by omega) (ne' (a := n + 2) (b := n + 1) (by omega)) }
    refine wpAny_pyNext_zipD3_item S D1 D2 D3 hz hTI hTO s1 s2 s3 t1 t2 t3 fun u1 u2 u3 h' tk g1 g2 g3 z' TO' w1 w2 w3 hT hsz hk => ?_
    refine ⟨_, rfl, wpAny_letOwnedTupleGo_zip (s := { s with heap := h', toks := tk }) z' fun h'' z'' sb => ?_⟩
    obtain ⟨x1', e1, ru1⟩ := p1 i u1 g1
    rw [h1] at e1
    cases Option.some.inj e1
    obtain ⟨x2', e2, ru2⟩ := p2 i u2 g2
    rw [h2] at e2
    cases Option.some.inj e2
    obtain ⟨x3', e3, ru3⟩ := p3 i u3 g3
    rw [h3] at e3
    cases Option.some.inj e3
    have hT2 : h''.get? s.heap.objs.size = some { cls := .type "tuple", data := .seq #[u1, u2, u3] } := (sb.2 _ (Nat.ne_of_gt hzl)).trans hT
    have new : ObjOk X.prog X.w (upd H s.heap.objs.size (.tup [x1, x2, x3])) h'' s.heap.objs.size (.tup [x1, x2, x3]) :=
      ⟨by show 3 ≤ sizeLine; decide, [u1, u2, u3], .cons ru1 (.cons ru2 (.cons ru3 (.nil))), ⟨_, hT2, rfl, _, rfl⟩⟩
    have out5 : ∀ c, c ∉ [n + 5, n + 3, n + 4, n, n + 1, n + 2] → c ≠ n + 5 ∧ c ≠ n + 4 ∧ c ≠ n ∧ c ≠ n + 1 ∧ c ≠ n + 2 := fun c hb => ⟨fun q' => hb (by simp [q']), fun q' => hb (by simp [q']), fun q' => hb (by simp [q']), fun q' => hb (by simp [q']), fun q' => hb (by simp [q'])⟩
    have I1 : Inv X pins σ (upd H s.heap.objs.size (.tup [x1, x2, x3])) { s with heap := h'', toks := tk } :=
      I.turnedNew (t' := tk) (ch := [n + 5, n + 3, n + 4, n, n + 1, n + 2]) (fun c o hb q => by
        obtain ⟨a1, a2, b1', b2', b3'⟩ := out5 c hb
        exact (sb.2 c a1).trans (hk c o a1 a2 b1' b2' b3' q)) hf (Nat.le_refl _) new
    refine ⟨.ref s.heap.objs.size, _, I1, rfl, ⟨_, x1, x2, x3, rfl, I.hok.fresh (Nat.le_refl _), rfl, fun l hl => by rw [ZS.inj I hl q1]; exact h1, fun l hl => by rw [ZS.inj I hl q2]; exact h2, fun l hl => by rw [ZS.inj I hl q3]; exact h3⟩, ⟨z'', ?_, ⟨u1, u2, u3, ?_⟩, ?_, ?_, ?_⟩, fun c hcm => ?_⟩
    · exact (sb.2 (n + 3) (ne' (a := n + 3) (b := n + 5) (by omega))).trans (hk (n + 3) _ (ne' (a := n + 3) (b := n + 5) (by omega)) (ne' (a := n + 3) (b := n + 4) (by omega)) (ne' (a := n + 3) (b := n) (by omega)) (ne' (a := n + 3) (b := n + 1) (by omega)) (ne' (a := n + 3) (b := n + 2) (by omega)) hTI)
    · exact (sb.2 (n + 4) (ne' (a := n + 4) (b := n + 5) (by omega))).trans TO'
    · exact ZS.move (z := z1) (fun o q => (sb.2 (n) (ne' (a := n) (b := n + 5) (by omega))).trans q) (b1 _ _ w1)
    · exact ZS.move (z := z2) (fun o q => (sb.2 (n + 1) (ne' (a := n + 1) (b := n + 5) (by omega))).trans q) (b2 _ _ w2)
    · exact ZS.move (z := z3) (fun o q => (sb.2 (n + 2) (ne' (a := n + 2) (b := n + 5) (by omega))).trans q) (b3 _ _ w3)
    · have hlt : c < s.heap.objs.size := by
        have e' : c = n + 5 ∨ c = n + 3 ∨ c = n + 4 ∨ c = n ∨ c = n + 1 ∨ c = n + 2 := by simpa using hcm
        rcases e' with q | q | q | q | q | q
        · rw [q]; exact (show (n + 5 : Nat) < s.heap.objs.size by omega)
        · rw [q]; exact (show (n + 3 : Nat) < s.heap.objs.size by omega)
        · rw [q]; exact (show (n + 4 : Nat) < s.heap.objs.size by omega)
        · rw [q]; exact (show (n : Nat) < s.heap.objs.size by omega)
        · rw [q]; exact (show (n + 1 : Nat) < s.heap.objs.size by omega)
        · rw [q]; exact (show (n + 2 : Nat) < s.heap.objs.size by omega)
      rw [upd_ne (Nat.ne_of_lt hlt)]
      exact (hf c hcm).1
  done := by
    intro X hP hw hK hc i pins s σ H E I hf st hg
    subst hP hw hK
    obtain ⟨hz, hTI, ⟨y1, y2, y3, hTO⟩, st1, st2, st3⟩ := st
    obtain ⟨xs1, xs2, xs3, q1, q2, q3, t1, t2, t3, hend⟩ := hg
    have hh : X.A.in1.handled = none := I.ok.hd hc
    obtain ⟨fp1, P1, St1, D1, m1, f1, s1, b1, p1⟩ := z1.draws (A := X.A.in1) I q1 hh (ZS.off_of (by omega) l1) st1
    have nf1 : ∀ c, n ≤ c → c ≠ n → c ∉ fp1 := fun c h1 h2 h3 => by
      rcases f1 c h3 with e | e
      · exact h2 e
      · exact e (ZS.off_of h1 l1)
    obtain ⟨fp2, P2, St2, D2, m2, f2, s2, b2, p2⟩ := z2.draws (A := X.A.in1) I q2 hh (ZS.off_of (by omega) l2) st2
    have nf2 : ∀ c, n ≤ c → c ≠ n + 1 → c ∉ fp2 := fun c h1 h2 h3 => by
      rcases f2 c h3 with e | e
      · exact h2 e
      · exact e (ZS.off_of h1 l2)
    obtain ⟨fp3, P3, St3, D3, m3, f3, s3, b3, p3⟩ := z3.draws (A := X.A.in1) I q3 hh (ZS.off_of (by omega) l3) st3
    have nf3 : ∀ c, n ≤ c → c ≠ n + 2 → c ∉ fp3 := fun c h1 h2 h3 => by
      rcases f3 c h3 with e | e
      · exact h2 e
      · exact e (ZS.off_of h1 l3)
    have S : ZipSep3 (n + 5) (n + 3) (n + 4) (n) (n + 1) (n + 2) fp1 fp2 fp3 := { TIz := (ne' (a := n + 3) (b := n + 5) (by omega)), TOz := (ne' (a := n + 4) (b := n + 5) (by omega)), TITO := (ne' (a := n + 3) (b := n + 4) (by omega)), TIi1 := (ne' (a := n + 3) (b := n) (by omega)), mem1 := m1, zf1 := nf1 (n + 5) (by omega) (ne' (a := n + 5) (b := n) (by omega)), Tf1 := nf1 (n + 4) (by omega) (ne' (a := n + 4) (b := n) (by omega)), TIi2 := (ne' (a := n + 3) (b := n + 1) (by omega)), mem2 := m2, zf2 := nf2 (n + 5) (by omega) (ne' (a := n + 5) (b := n + 1) (by omega)), Tf2 := nf2 (n + 4) (by omega) (ne' (a := n + 4) (b := n + 1) (by omega)), TIi3 := (ne' (a := n + 3) (b := n + 2) (by omega)), mem3 := m3, zf3 := nf3 (n + 5) (by omega) (ne' (a := n + 5) (b := n + 2) (by omega)), Tf3 := nf3 (n + 4) (by omega) (ne' (a := n + 4) (b := n + 2) (by omega)), sep1_2 := nf2 (n) (by omega) (ne' (a := n) (b := n + 1) (by omega)), sep1_3 := nf3 (n) (by omega) (ne' (a := n) (b := n + 2) (by omega)), sep2_1 := nf1 (n + 1) (by omega) (ne' (a := n + 1) (b := n) (by omega)), sep2_3 := nf3 (n + 1) (by omega) (ne' (a := n + 1) (b := n + 2) (by omega)), sep3_1 := nf1 (n + 2) (by omega) (ne' (a := n + 2) (b := n) (by omega)), sep3_2 := nf2 (n + 2) (by omega) (ne' (a := n + 2) (b := n + 1) (by omega)) }
    exact wpAny_pyNext_zipD3_end S D1 D2 D3 hz hTI hTO s1 s2 s3 t1 t2 t3 hend fun h' tk hk => ⟨rfl, I.turnedL (t' := tk) (ch := [n + 5, n + 3, n + 4, n, n + 1, n + 2]) (fun c o hb q =>
      hk c o (fun q' => hb (by simp [q'])) (fun q' => hb (by simp [q'])) (fun q' => hb (by simp [q'])) (fun q' => hb (by simp [q'])) (fun q' => hb (by simp [q'])) q) hf⟩
  self := fun A i s Q E st h => wpAny_pyIter_zip st.1 h
def iZip3 (K : PySem.W.Frag) (ta : TA) : TI := fun σ H R => ta σ H fun vs H1 => ∃ (z1 z2 z3 : ZS) (xs1 xs2 xs3 : List V), vs = [z1.val, z2.val, z3.val] ∧ z1.at K H1 xs1 ∧ z2.at K H1 xs2 ∧ z3.at K H1 xs3 ∧ R (Itz3 K z1 z2 z3) H1
theorem pi_zip3 {X : Cx} {e e2 e3 : Expr} {ta : TA} {p pos tpos : Pos} {elts : List Expr} {kk : Nat} (hg : Gl X "zip") (hm : X.mg "zip" = none) (ha : PA X [e, e2, e3] ta)
    (hs : starEach [e, e2, e3] X.env = (false, eval e X.env) :: starEach [e2, e3] X.env := by rfl) (hpl : (backTo pos (starEach [e2, e3] X.env)).any (·.1) = false := by rfl) :
    PI X (.Tuple elts kk tpos) (.Call (.Name "zip" p) [e, e2, e3] [] pos) (iZip3 X.K ta) := by
  refine ⟨fun pins s σ H R I h => ?_⟩
  refine Call_ (ld_blt I hg hm PyProof.Rows.boot_zip (PyProof.Rows.callWith_type1 (thn (ha.run pos pins s σ H _ I h) fun us s1 ⟨vs, H1, I1, r1, q1⟩ => ?_) hs hpl))
  obtain ⟨z1, z2, z3, xs1, xs2, xs3, ex, q1, q2, q3, q⟩ := q1
  subst ex
  cases r1 with
  | cons r1 rr =>
    cases rr with
    | cons r2 rr =>
      cases rr with
      | cons r3 rr =>
        cases rr
        obtain ⟨o1, G1, B1, h1, i1, l1⟩ := z1.begins I1 q1 r1
        obtain ⟨o2, G2, B2, h2, i2, l2⟩ := z2.begins I1 q2 r2
        obtain ⟨o3, G3, B3, h3, i3, l3⟩ := z3.begins I1 q3 r3
        have fresh5 : ∀ c, c ∈ [s1.heap.objs.size + 5, s1.heap.objs.size + 3, s1.heap.objs.size + 4, s1.heap.objs.size, s1.heap.objs.size + 1, s1.heap.objs.size + 2] → FpOk X pins H1 c := fun c hcm => by
          have e' : c = s1.heap.objs.size + 5 ∨ c = s1.heap.objs.size + 3 ∨ c = s1.heap.objs.size + 4 ∨ c = s1.heap.objs.size ∨ c = s1.heap.objs.size + 1 ∨ c = s1.heap.objs.size + 2 := by simpa using hcm
          have hle : s1.heap.objs.size ≤ c := by omega
          exact I1.fpOk hle (I1.hok.fresh hle)
        refine zip_begins3 B1 B2 B3 h1 h2 h3 fun h' hz hTI hTO g1 g2 g3 hsz hk => wpAny_pyIter_zip hz ?_
        have I2 : Inv X pins σ H1 { s1 with heap := h' } := I1.kept (t' := s1.toks) hk
        exact ⟨s1.heap.objs.size + 5, [s1.heap.objs.size + 5, s1.heap.objs.size + 3, s1.heap.objs.size + 4, s1.heap.objs.size, s1.heap.objs.size + 1, s1.heap.objs.size + 2], _, _, H1, rfl, I2, turn_zip3 l1 l2 l3, ⟨hz, hTI, ⟨_, _, _, hTO⟩, i1 _ _ g1, i2 _ _ g2, i3 _ _ g3⟩, fresh5, q⟩
theorem for_zip3 {K : PySem.W.Frag} {z1 z2 z3 : ZS} {xs1 xs2 xs3 : List V} {n : Nat} {g : TG} {tb : TS} {D : Ends} {σ : L2.St} {H : Hp} (n1 : xs1.length = n) (n2 : xs2.length = n) (n3 : xs3.length = n) (Pv : Nat → L2.St → Hp → Prop) (h0 : Pv 0 σ H) (hl : ∀ i σ H, i ≤ n → Pv i σ H → z1.at K H xs1 ∧ z2.at K H xs2 ∧ z3.at K H xs3)
    (hs : ∀ (i : Nat) (x1 x2 x3 : V) (T : Addr) (σ : L2.St) (H : Hp), xs1[i]? = some x1 → xs2[i]? = some x2 → xs3[i]? = some x3 → H T = none → Pv i σ H → g (.ref T) σ (upd H T (.tup [x1, x2, x3])) fun σ2 H2 => tb { D with nx := Pv (i + 1), ct := Pv (i + 1), bk := D.nx } σ2 H2) (hd : ∀ σ H, Pv n σ H → D.nx σ H) :
    ∃ W : Nat → Nat → L2.St → Hp → Prop, (∃ m, W 0 m σ H) ∧ ∀ i m σ H, W i m σ H →
      ((Itz3 K z1 z2 z3).stop i H ∧ D.nx σ H) ∨ ((Itz3 K z1 z2 z3).go i H ∧ ∃ N : L2.St → Hp → Prop, (∀ σ' H', N σ' H' → ∃ m', m' < m ∧ W (i + 1) m' σ' H') ∧ ∀ v H', (Itz3 K z1 z2 z3).yld i H v H' → g v σ H' fun σ2 H2 => tb { D with nx := N, ct := N, bk := D.nx } σ2 H2) := by
  refine ⟨fun i m σ H => m = n - i ∧ i ≤ n ∧ Pv i σ H, ⟨n, rfl, Nat.zero_le _, h0⟩, ?_⟩
  rintro i m σ H ⟨rfl, hi, p⟩
  obtain ⟨q1, q2, q3⟩ := hl i σ H hi p
  by_cases hlt : i < n
  · have e1 : xs1[i]? = some (xs1[i]'(by omega)) := List.getElem?_eq_getElem _
    have e2 : xs2[i]? = some (xs2[i]'(by omega)) := List.getElem?_eq_getElem _
    have e3 : xs3[i]? = some (xs3[i]'(by omega)) := List.getElem?_eq_getElem _
    refine .inr ⟨⟨xs1, xs2, xs3, _, _, _, q1, q2, q3, e1, e2, e3⟩, Pv (i + 1), fun σ' H' p' => ⟨n - (i + 1), by omega, rfl, hlt, p'⟩, fun v H' y => ?_⟩
    obtain ⟨T, y1, y2, y3, rfl, hT, rfl, f1, f2, f3⟩ := y
    exact hs i y1 y2 y3 T σ H (f1 xs1 q1) (f2 xs2 q2) (f3 xs3 q3) hT p
  · have e : i = n := by omega
    subst e
    exact .inl ⟨⟨xs1, xs2, xs3, q1, q2, q3, by omega, by omega, by omega, .inl (by omega)⟩, hd σ H p⟩
theorem lc_zip3 {K : PySem.W.Frag} {z1 z2 z3 : ZS} {xs1 xs2 xs3 : List V} {n : Nat} {g : TG} {tt : TT} {te : TE} {vs : List Nat} {σ : L2.St} {H1 : Hp} {D : Addr} {Qd : Hp → Prop} (n1 : xs1.length = n) (n2 : xs2.length = n) (n3 : xs3.length = n) (Pv : Nat → Hp → Prop) (h0 : Pv 0 (upd H1 D (.lst []))) (hl : ∀ i H, i ≤ n → Pv i H → z1.at K H xs1 ∧ z2.at K H xs2 ∧ z3.at K H xs3)
    (hs : ∀ (i : Nat) (x1 x2 x3 : V) (T : Addr) (H : Hp), xs1[i]? = some x1 → xs2[i]? = some x2 → xs3[i]? = some x3 → H T = none → Pv i H → g (.ref T) (wipe σ vs) (upd H T (.tup [x1, x2, x3])) fun σ2 H2 => wipe σ2 vs = wipe σ vs ∧ tt σ2 H2 fun b H3 =>
      if b = true then te σ2 H3 fun y H4 => ∃ acc, H4 D = some (.lst acc) ∧ acc.length < sizeLine ∧ Pv (i + 1) (upd H4 D (.lst (acc ++ [y]))) else Pv (i + 1) H3) (hd : ∀ H, Pv n H → Qd H) :
    ∃ W : Nat → Nat → Hp → Prop, (∃ m, W 0 m (upd H1 D (.lst []))) ∧ ∀ i m H, W i m H →
      ((Itz3 K z1 z2 z3).stop i H ∧ Qd H) ∨ ((Itz3 K z1 z2 z3).go i H ∧ ∃ Nx : Hp → Prop, (∀ H', Nx H' → ∃ m', m' < m ∧ W (i + 1) m' H') ∧ ∀ x H', (Itz3 K z1 z2 z3).yld i H x H' → g x (wipe σ vs) H' fun σ2 H2 => wipe σ2 vs = wipe σ vs ∧ tt σ2 H2 fun b H3 =>
        if b = true then te σ2 H3 fun y H4 => ∃ acc, H4 D = some (.lst acc) ∧ acc.length < sizeLine ∧ Nx (upd H4 D (.lst (acc ++ [y]))) else Nx H3) := by
  refine ⟨fun i m H => m = n - i ∧ i ≤ n ∧ Pv i H, ⟨n, by simp, Nat.zero_le _, h0⟩, ?_⟩
  rintro i m H ⟨rfl, hi, p⟩
  obtain ⟨q1, q2, q3⟩ := hl i H hi p
  by_cases hlt : i < n
  · have e1 : xs1[i]? = some (xs1[i]'(by omega)) := List.getElem?_eq_getElem _
    have e2 : xs2[i]? = some (xs2[i]'(by omega)) := List.getElem?_eq_getElem _
    have e3 : xs3[i]? = some (xs3[i]'(by omega)) := List.getElem?_eq_getElem _
    refine .inr ⟨⟨xs1, xs2, xs3, _, _, _, q1, q2, q3, e1, e2, e3⟩, Pv (i + 1), fun H' p' => ⟨n - (i + 1), by omega, rfl, hlt, p'⟩, fun v H' y => ?_⟩
    obtain ⟨T, y1, y2, y3, rfl, hT, rfl, f1, f2, f3⟩ := y
    exact hs i y1 y2 y3 T H (f1 xs1 q1) (f2 xs2 q2) (f3 xs3 q3) hT p
  · have e : i = n := by omega
    subst e
    exact .inl ⟨⟨xs1, xs2, xs3, q1, q2, q3, by omega, by omega, by omega, .inl (by omega)⟩, hd H p⟩
theorem gx_zip3 {α : Type} {K : PySem.W.Frag} {z1 z2 z3 : ZS} {xs1 xs2 xs3 : List V} {n : Nat} {g : TG} {tt : TT} {te : TE} {vs : List Nat} {σ0 : L2.St} {End : α → Hp → Prop} {Yd : α → V → Hp → (α → Hp → Prop) → Prop} {a0 : α} {H0 : Hp} (n1 : xs1.length = n) (n2 : xs2.length = n) (n3 : xs3.length = n) (Pv : Nat → α → Hp → Prop) (h0 : Pv 0 a0 H0) (hl : ∀ i c H, i ≤ n → Pv i c H → z1.at K H xs1 ∧ z2.at K H xs2 ∧ z3.at K H xs3)
    (hs : ∀ (i : Nat) (x1 x2 x3 : V) (T : Addr) (c : α) (H : Hp), xs1[i]? = some x1 → xs2[i]? = some x2 → xs3[i]? = some x3 → H T = none → Pv i c H → g (.ref T) σ0 (upd H T (.tup [x1, x2, x3])) fun σ2 H2 => wipe σ2 vs = σ0 ∧ tt σ2 H2 fun b H3 => if b = true then te σ2 H3 fun y H4 => Yd c y H4 (Pv (i + 1)) else Pv (i + 1) c H3) (hd : ∀ c H, Pv n c H → End c H) :
    ∃ W : Nat → Nat → α → Hp → Prop, (∃ m, W 0 m a0 H0) ∧ tGx (Itz3 K z1 z2 z3) g tt te σ0 vs End Yd W := by
  refine ⟨fun i m c H => m = n - i ∧ i ≤ n ∧ Pv i c H, ⟨n, rfl, Nat.zero_le _, h0⟩, ?_⟩
  rintro i m c H ⟨rfl, hi, p⟩
  obtain ⟨q1, q2, q3⟩ := hl i c H hi p
  by_cases hlt : i < n
  · have e1 : xs1[i]? = some (xs1[i]'(by omega)) := List.getElem?_eq_getElem _
    have e2 : xs2[i]? = some (xs2[i]'(by omega)) := List.getElem?_eq_getElem _
    have e3 : xs3[i]? = some (xs3[i]'(by omega)) := List.getElem?_eq_getElem _
    refine .inr ⟨⟨xs1, xs2, xs3, _, _, _, q1, q2, q3, e1, e2, e3⟩, Pv (i + 1), fun c' H' p' => ⟨n - (i + 1), by omega, rfl, hlt, p'⟩, fun v H' y => ?_⟩
    obtain ⟨T, y1, y2, y3, rfl, hT, rfl, f1, f2, f3⟩ := y
    exact hs i y1 y2 y3 T c H (f1 xs1 q1) (f2 xs2 q2) (f3 xs3 q3) hT p
  · have e : i = n := by omega
    subst e
    exact .inl ⟨⟨xs1, xs2, xs3, q1, q2, q3, by omega, by omega, by omega, .inl (by omega)⟩, hd c H p⟩
end ZpG

end Gk

set_option Elab.async false
set_option linter.all false
set_option maxRecDepth 100000
set_option maxHeartbeats 1000000
namespace Gk
open PySem PySem.Spec PyProof.Rows L2
namespace SrtS
open PySem PyProof.Rows Srt SrtO
section
variable {prog : Program} {w : World} {A : Around} {E : Value → Shared → Prop} {s : Shared}
def ss : Value → PySem.Str
  | .str x _ => x
  | _ => PySem.Str.empty
def ltC (a b : PySem.Str) : Bool := decide (a.cps.toList < b.cps.toList)
def ltSv (v u : Value) : Bool := ltC (ss v) (ss u)
theorem swo_str : Swo ltSv := by
  refine ⟨fun x y h => ?_, fun x y z h1 h2 => ?_⟩
  · exact decide_eq_false (List.lt_asymm (of_decide_eq_true h))
  · have a := of_decide_eq_false h1
    have b := of_decide_eq_false h2
    exact decide_eq_false (List.not_lt.mpr (List.le_trans (List.not_lt.mp a) (List.not_lt.mp b)))
theorem strs_mem : ∀ {vs : List Value} {ns : List PySem.Str}, StrsAre vs ns → ∀ v ∈ vs, ∃ i t, v = Value.str i t
  | _, _, .nil, v, h => absurd h (by simp)
  | _, _, .cons n t r, v, h => by
    rcases List.mem_cons.mp h with e | h
    · exact ⟨n, t, e⟩
    · exact strs_mem r v h
theorem strs_ss : ∀ {vs : List Value}, (∀ v ∈ vs, ∃ i t, v = Value.str i t) → StrsAre vs (vs.map ss)
  | [], _ => .nil
  | v :: vs, h => by
    obtain ⟨i, t, e⟩ := h v List.mem_cons_self
    subst e
    exact .cons i t (strs_ss fun u hu => h u (List.mem_cons_of_mem _ hu))
theorem ss_strs : ∀ {vs : List Value} {ns : List PySem.Str}, StrsAre vs ns → vs.map ss = ns
  | _, _, .nil => rfl
  | _, _, .cons n t r => congrArg (n :: ·) (ss_strs r)
theorem str_cmp {vs : List Value} {ns : List PySem.Str} (hI : StrsAre vs ns) : SrtO.Cmp prog w A s oneType' (fun p => p.1 ∈ vs) (lt2 ltSv) := by
  intro p q hm hm'
  obtain ⟨a, t, e⟩ := strs_mem hI _ hm
  obtain ⟨b, u, e'⟩ := strs_mem hI _ hm'
  show wpAny (model prog w) A (keyLt' oneType' p.1 q.1) (fun r s' => s' = s ∧ r = ltSv p.1 q.1) (fun _ _ => False) s
  rw [e, e', keyLt'_oneType]
  exact oneLt_str ⟨rfl, rfl⟩
theorem strs_sortable {a : Addr} {vs : List Value} {ns : List PySem.Str} (hI : StrsAre vs ns) (h2 : 2 ≤ vs.length) : SortableO prog w A s a vs ltSv := by
  intro h' _
  refine ⟨oneType', fun Q E hq => ?_, str_cmp hI⟩
  match vs, hI, h2 with
  | v1 :: v2 :: rest, hI, _ =>
    rw [keyKind_strs hI]
    exact wpAny_pure hq
  | [], _, h => exact absurd h (by decide)
  | [v], _, h => exact absurd h (by simp)
theorem strs_out {vs out : List Value} {ns : List PySem.Str} (hI : StrsAre vs ns) (hs : Srtd ltSv out) (hb : Stb ltSv out vs) : StrsAre out (out.map ss) ∧ (out.map ss).Perm ns ∧ (out.map ss).Pairwise (fun x y => ltC y x = false) := by
  refine ⟨strs_ss fun v hv => strs_mem hI v (hb.perm.mem_iff.mp hv), ?_, ?_⟩
  · have q := hb.perm.map ss
    rw [ss_strs hI] at q
    exact q
  · exact List.pairwise_map.mpr (hs.imp fun {x y} h => h)
end
end SrtS
/-- sorted(xs), texts, any number of them -/
def rSortedTx (K : PySem.W.Frag) : List V → Hp → VK → Prop := fun vs H Q => ∃ (a : Addr) (xs : List Str), vs = [V.ref a] ∧ SqL K H a (xs.map V.str) ∧
  ∀ (ys : List Str) (p : Addr), ys.Perm xs → ys.Pairwise (fun x y => SrtS.ltC y x = false) → H p = none → Q (.ref p) (upd H p (.lst (ys.map V.str)))
theorem cr_sortedTx {X : Cx} : CallR X (.builtin "sorted") (rSortedTx X.K) := by
  intro pins s σ H vs us Q I r h
  obtain ⟨a, ns, rfl, hs, q⟩ := h
  obtain ⟨its, rv, hl, hz⟩ := I.list hs
  rw [Vals.ref1 r]
  have hi := rv.strs
  refine SrtO.sorted_ord SrtS.swo_str hl.isList (by rw [← rv.length]; exact hz) (fun h2 h₁ a' _ _ => SrtS.strs_sortable hi h2) fun out h1 h2 => ?_
  obtain ⟨k1, k2, k3⟩ := SrtS.strs_out hi h1 h2
  obtain ⟨ep, he'⟩ := PyProof.Rows.sortedAll_at s.heap its out.toArray
  have hlen : ((out.map SrtS.ss).map V.str).length ≤ sizeLine := by
    rw [List.length_map, k2.length_eq]
    rw [List.length_map] at hz
    exact hz
  exact ⟨.ref _, upd H (s.heap.objs.size + 1) (.lst ((out.map SrtS.ss).map V.str)), I.laid (t' := s.toks) (fun _ _ => PyProof.Rows.sortedAll_old) (Nat.le_succ _) ⟨hlen, out, ep, vals_of_strs k1, he'⟩, rfl, q _ _ k2 k3 (I.hok.fresh (Nat.le_succ _))⟩
/-- two sorted lists of the same texts are one -/
theorem ltC_antisymm {x y : Str} (h1 : SrtS.ltC x y = false) (h2 : SrtS.ltC y x = false) : x = y := by
  have a := List.not_lt.mp (of_decide_eq_false h1)
  have b := List.not_lt.mp (of_decide_eq_false h2)
  have e := List.le_antisymm b a
  cases x; cases y
  congr 1
  exact Array.toList_inj.mp e
theorem sorted_uniq {ys zs : List Str} (p : ys.Perm zs) (h1 : ys.Pairwise (fun x y => SrtS.ltC y x = false)) (h2 : zs.Pairwise (fun x y => SrtS.ltC y x = false)) : ys = zs :=
  List.Perm.eq_of_pairwise (fun a b _ _ u v => (ltC_antisymm v u)) h1 h2 p

end Gk

set_option Elab.async false
set_option linter.all false
set_option maxRecDepth 100000
set_option maxHeartbeats 1000000
set_option pp.maxSteps 1500
set_option pp.deepTerms false
namespace Gk
open PySem PySem.Spec PyProof.Rows L2
/-! ### data of tuples alone: no list that is written can harm it -/
mutual
def noL : PyData → Bool
  | .list _ => false
  | .tuple ds => noLs ds
  | _ => true
def noLs : List PyData → Bool
  | [] => true
  | d :: r => noL d && noLs r
end
def Ts (H H' : Hp) : Prop := ∀ b xs, H b = some (HO.tup xs) → H' b = some (.tup xs)
theorem Ts.refl {H : Hp} : Ts H H := fun _ _ e => e
theorem Ts.trans {H H1 H2 : Hp} (a : Ts H H1) (b : Ts H1 H2) : Ts H H2 := fun c xs e => b c xs (a c xs e)
theorem Ts.same {H H' : Hp} (s : Same H H') : Ts H H' := fun b xs e => s _ _ e
theorem Ts.gr {H H' : Hp} (s : Gr H H') : Ts H H' := fun b xs e => s.tup e
theorem Ts.new {H : Hp} {p : Addr} {o : HO} (h : H p = none) : Ts H (upd H p o) := Ts.same (same_upd h)
theorem Ts.set {H : Hp} {p : Addr} {xs ys : List V} (h : H p = some (.lst xs)) : Ts H (upd H p (.lst ys)) := fun b zs e => by
  rw [upd_ne (ne_of e h (by intro z; cases z))]
  exact e
mutual
theorem Tk.ts {H H' : Hp} (s : Ts H H') : ∀ {v : V} {d : PyData}, Tk H v d → noL d = true → Tk H' v d
  | _, _, .bl b, _ => .bl b
  | _, _, .int i, _ => .int i
  | _, _, .str x, _ => .str x
  | _, _, .lst h t, n => by cases n
  | _, _, .tup h t, n => .tup (s _ _ h) (t.ts s n)
theorem TkAll.ts {H H' : Hp} (s : Ts H H') : ∀ {vs : List V} {ds : List PyData}, TkAll H vs ds → noLs ds = true → TkAll H' vs ds
  | _, _, .nil, _ => .nil
  | _, _, .cons (d := d) (ds := ds) h t, n => by
    have n' : noL d = true ∧ noLs ds = true := Bool.and_eq_true_iff.mp n
    exact .cons (h.ts s n'.1) (t.ts s n'.2)
end
theorem noLs_map {α : Type} {f : α → PyData} (h : ∀ x, noL (f x) = true) : ∀ l : List α, noLs (l.map f) = true
  | [] => rfl
  | x :: r => by
    show (noL (f x) && noLs (r.map f)) = true
    rw [h x, noLs_map h r]
    rfl
theorem noL_row (r : List Int) : noL (rowD r) = true := noLs_map (fun _ => rfl) r
theorem noL_gate (g : Gt) : noL (gD g) = true := by
  show (true && (noLs ((g.2.map Int.ofNat).map PyData.int) && true)) = true
  rw [noLs_map (fun _ => rfl)]
  rfl
theorem noL_gates (gs : List Gt) : noLs (gs.map gD) = true := noLs_map noL_gate gs
theorem noL_net (m : Int) (gs : List Gt) : noL (netD m gs) = true := by
  show (true && (noLs (gs.map gD) && true)) = true
  rw [noL_gates]
  rfl
theorem noL_ch (a b : List Int) : noL (chD a b) = true := by
  show (noL (rowD a) && (noL (rowD b) && true)) = true
  rw [noL_row, noL_row]
  rfl

/-! ### slices and sums of tuples: what is told stands in a heap that has grown -/
theorem cut_all {xs : List V} {lo hi : Option Int} (h : HT.sIx xs.length 0 lo = 0 ∧ HT.sIx xs.length xs.length hi = xs.length) : cutV xs lo hi = xs := by
  unfold cutV
  rw [h.1, h.2, List.drop_zero, Nat.sub_zero, List.take_length]
theorem same_refl {H : Hp} : Same H H := fun _ _ e => e
theorem slA {K : PySem.W.Frag} {a : Addr} {xs : List V} {lo hi : Option Int} {H : Hp} {Q : VK} (h : H a = some (.tup xs)) (q : ∀ p H', Same H H' → H' p = some (.tup (cutV xs lo hi)) → Q (.ref p) H') : rSlA K (.ref a) lo hi H Q :=
  ⟨a, xs, rfl, SqT.of h, fun w => q a H same_refl (by rw [cut_all w]; exact h), fun _ p np => q p _ (same_upd np) upd_same⟩
theorem slAn {K : PySem.W.Frag} {a : Addr} {xs : List V} {lo : Option Int} {H : Hp} {Q : VK} {σ : L2.St} (h : H a = some (.tup xs)) (q : ∀ p H', Same H H' → H' p = some (.tup (cutV xs lo none)) → Q (.ref p) H') : tNoPart σ H (fun u H3 => rSlA K (.ref a) lo u H3 Q) := slA h q
theorem catA {K : PySem.W.Frag} {a b : Addr} {xs ys : List V} {H : Hp} {Q : VK} (ha : H a = some (.tup xs)) (hb : H b = some (.tup ys)) (hl : xs.length + ys.length ≤ sizeLine) (q : ∀ p H', Same H H' → H' p = some (.tup (xs ++ ys)) → Q (.ref p) H') : rCatA K (.ref a) (.ref b) H Q :=
  ⟨a, b, xs, ys, rfl, rfl, SqT.of ha, SqT.of hb, hl, fun e => q b H same_refl (by rw [e]; exact hb), fun _ e => q a H same_refl (by rw [e, List.append_nil]; exact ha), fun _ _ p np => q p _ (same_upd np) upd_same⟩
theorem cut_to {xs : List V} {k : Nat} : cutV xs none (some (k : Int)) = xs.take k := by
  unfold cutV
  rw [HT.sIx_none, HT.sIx_nat, List.drop_zero, Nat.sub_zero]
  apply List.ext_getElem?
  intro i
  rw [List.getElem?_take, List.getElem?_take]
  by_cases h : i < k
  · rw [if_pos h]
    by_cases h2 : i < xs.length
    · rw [if_pos (by omega)]
    · rw [List.getElem?_eq_none (by omega)]
      split <;> rfl
  · rw [if_neg h, if_neg (by omega)]
theorem cut_from {xs : List V} {k : Nat} : cutV xs (some (k : Int)) none = xs.drop k := by
  unfold cutV
  rw [HT.sIx_none, HT.sIx_nat]
  by_cases h : k ≤ xs.length
  · rw [Nat.min_eq_left h]
    exact List.take_of_length_le (by rw [List.length_drop]; exact Nat.le_refl _)
  · rw [Nat.min_eq_right (by omega), Nat.sub_self, List.take_zero, List.drop_eq_nil_of_le (by omega)]
theorem TkAll.take {H : Hp} : ∀ {xs : List V} {ds : List PyData} (k : Nat), TkAll H xs ds → TkAll H (xs.take k) (ds.take k)
  | _, _, 0, _ => by rw [List.take_zero, List.take_zero]; exact .nil
  | _, _, _ + 1, .nil => .nil
  | _, _, k + 1, .cons a t => .cons a (t.take k)
theorem TkAll.drop {H : Hp} : ∀ {xs : List V} {ds : List PyData} (k : Nat), TkAll H xs ds → TkAll H (xs.drop k) (ds.drop k)
  | _, _, 0, t => t
  | _, _, _ + 1, .nil => .nil
  | _, _, k + 1, .cons _ t => t.drop k
theorem set_put {α : Type} {l : List α} {i : Nat} {x : α} (h : i < l.length) : (l.take i ++ [x]) ++ l.drop (i + 1) = l.set i x := by
  rw [List.set_eq_take_append_cons_drop, if_pos h, List.append_assoc]
  rfl
def rJoinK (K : PySem.W.Frag) : V → List V → Hp → VK → Prop := fun x xs H Q => ∃ a p, ∃ ys : List Str, x = .str a ∧ xs = [.ref p] ∧ (SqL K H p (ys.map V.str) ∨ SqT K H p (ys.map V.str)) ∧ (ys.map (·.length)).sum + ys.length * a.length ≤ 16777216 ∧ Q (.str (Txt.join a ys)) H

/-! ### walks over texts -/
theorem lc_str {z : Str} {g : TG} {tt : TT} {te : TE} {vs : List Nat} {σ : L2.St} {H1 : Hp} {D : Addr} {Qd : Hp → Prop} (Pv : Nat → Hp → Prop) (h0 : Pv 0 (upd H1 D (.lst [])))
    (hs : ∀ i x H, z.cps[i]? = some x → Pv i H → g (.str ⟨#[x]⟩) (wipe σ vs) H fun σ2 H2 => wipe σ2 vs = wipe σ vs ∧ tt σ2 H2 fun b H3 =>
      if b = true then te σ2 H3 fun y H4 => ∃ acc, H4 D = some (.lst acc) ∧ acc.length < sizeLine ∧ Pv (i + 1) (upd H4 D (.lst (acc ++ [y]))) else Pv (i + 1) H3) (hd : ∀ H, Pv z.cps.size H → Qd H) :
    ∃ W : Nat → Nat → Hp → Prop, (∃ m, W 0 m (upd H1 D (.lst []))) ∧ ∀ i m H, W i m H →
      ((Its z).stop i H ∧ Qd H) ∨ ((Its z).go i H ∧ ∃ Nx : Hp → Prop, (∀ H', Nx H' → ∃ m', m' < m ∧ W (i + 1) m' H') ∧ ∀ x H', (Its z).yld i H x H' → g x (wipe σ vs) H' fun σ2 H2 => wipe σ2 vs = wipe σ vs ∧ tt σ2 H2 fun b H3 =>
        if b = true then te σ2 H3 fun y H4 => ∃ acc, H4 D = some (.lst acc) ∧ acc.length < sizeLine ∧ Nx (upd H4 D (.lst (acc ++ [y]))) else Nx H3) := by
  refine ⟨fun i m H => m = z.cps.size - i ∧ i ≤ z.cps.size ∧ Pv i H, ⟨z.cps.size, by simp, Nat.zero_le _, h0⟩, ?_⟩
  rintro i m H ⟨rfl, hi, p⟩
  by_cases hlt : i < z.cps.size
  · refine .inr ⟨hlt, Pv (i + 1), fun H' p' => ⟨z.cps.size - (i + 1), by omega, rfl, hlt, p'⟩, fun x H' y => ?_⟩
    obtain ⟨rfl, ch, hc, rfl⟩ := y
    exact hs i ch _ hc p
  · have e : i = z.cps.size := by omega
    subst e
    exact .inl ⟨Nat.le_refl _, hd H p⟩
theorem for_str {z : Str} {g : TG} {tb : TS} {D : Ends} {σ : L2.St} {H : Hp} (Pv : Nat → L2.St → Hp → Prop) (h0 : Pv 0 σ H)
    (hs : ∀ i x σ H, z.cps[i]? = some x → Pv i σ H → g (.str ⟨#[x]⟩) σ H fun σ2 H2 => tb { D with nx := Pv (i + 1), ct := Pv (i + 1), bk := D.nx } σ2 H2) (hd : ∀ σ H, Pv z.cps.size σ H → D.nx σ H) :
    ∃ W : Nat → Nat → L2.St → Hp → Prop, (∃ m, W 0 m σ H) ∧ ∀ i m σ H, W i m σ H →
      ((Its z).stop i H ∧ D.nx σ H) ∨ ((Its z).go i H ∧ ∃ N : L2.St → Hp → Prop, (∀ σ' H', N σ' H' → ∃ m', m' < m ∧ W (i + 1) m' σ' H') ∧ ∀ x H', (Its z).yld i H x H' → g x σ H' fun σ2 H2 => tb { D with nx := N, ct := N, bk := D.nx } σ2 H2) := by
  refine ⟨fun i m σ H => m = z.cps.size - i ∧ i ≤ z.cps.size ∧ Pv i σ H, ⟨z.cps.size, by simp, Nat.zero_le _, h0⟩, ?_⟩
  rintro i m σ H ⟨rfl, hi, p⟩
  by_cases hlt : i < z.cps.size
  · refine .inr ⟨hlt, Pv (i + 1), fun σ' H' p' => ⟨z.cps.size - (i + 1), by omega, rfl, hlt, p'⟩, fun x H' y => ?_⟩
    obtain ⟨rfl, ch, hc, rfl⟩ := y
    exact hs i ch σ _ hc p
  · have e : i = z.cps.size := by omega
    subst e
    exact .inl ⟨Nat.le_refl _, hd σ H p⟩
theorem S_at {p : List Nat} {i x : Nat} (h : (SX.S p).cps[i]? = some x) : p[i]? = some x := by
  have : (SX.S p).cps = p.toArray := rfl
  rw [this, List.getElem?_toArray] at h
  exact h
theorem S_size (p : List Nat) : (SX.S p).cps.size = p.length := by
  show p.toArray.size = _
  simp

section
variable {P : Program} {w : World} {K : PySem.W.Frag} {mg : Str → Option Value} {base : Heap}
/-! ### the deck of k42 to k49: a dict with cells, a seed, a count -/
def kC : Key := .inr (Str.ofString "cells")
def kS : Key := .inr (Str.ofString "seed")
def kN : Key := .inr (Str.ofString "count")
def GO (l : Addr) (y z : Int) : HO := .dK [(kC, .ref l), (kS, .int y), (kN, .int z)]
def DeckG (H : Hp) (d l : Addr) (n : Int) : Prop := d ≠ l ∧ ∃ (cs : List Int) (y z : Int), H d = some (GO l y z) ∧ H l = some (.lst (cs.map V.int)) ∧ cs.length ≤ 63 ∧ 0 ≤ z ∧ z ≤ n
theorem DeckG.mono {H : Hp} {d l : Addr} {n m : Int} (D : DeckG H d l n) (h : n ≤ m) : DeckG H d l m := by
  obtain ⟨ne, cs, y, z, h1, h2, h3, h4, h5⟩ := D
  exact ⟨ne, cs, y, z, h1, h2, h3, h4, Int.le_trans h5 h⟩
theorem DeckG.same {H H' : Hp} {d l : Addr} {n : Int} (D : DeckG H d l n) (s : Same H H') : DeckG H' d l n := by
  obtain ⟨ne, cs, y, z, hd, hl, r⟩ := D
  exact ⟨ne, cs, y, z, s _ _ hd, s _ _ hl, r⟩
theorem DeckG.gr {H H' : Hp} {d l : Addr} {n : Int} (D : DeckG H d l n) (s : Gr H H') : DeckG H' d l n := by
  obtain ⟨ne, cs, y, z, hd, hl, r⟩ := D
  exact ⟨ne, cs, y, z, s.1 d _ (fun _ z => by cases z) hd, s.lst hl, r⟩
theorem DeckG.upd {H : Hp} {d l p : Addr} {n : Int} {o : HO} (D : DeckG H d l n) (h1 : p ≠ d) (h2 : p ≠ l) : DeckG (upd H p o) d l n := by
  obtain ⟨ne, cs, y, z, hd, hl, r⟩ := D
  exact ⟨ne, cs, y, z, by rw [upd_ne h1.symm]; exact hd, by rw [upd_ne h2.symm]; exact hl, r⟩
theorem DeckG.off {H : Hp} {d l p : Addr} {n : Int} (D : DeckG H d l n) (h : H p = none) : p ≠ d ∧ p ≠ l := by
  obtain ⟨ne, cs, y, z, hd, hl, r⟩ := D
  exact ⟨(ne_of_none hd h).symm, (ne_of_none hl h).symm⟩
theorem dgC {H : Hp} {d l : Addr} {y z : Int} (h : H d = some (GO l y z)) : DGet H d (.str (Str.ofString "cells")) (some (.ref l)) := DGet.k (k := kC) h
theorem dgS {H : Hp} {d l : Addr} {y z : Int} (h : H d = some (GO l y z)) : DGet H d (.str (Str.ofString "seed")) (some (.int y)) := DGet.k (k := kS) h
theorem dgN {H : Hp} {d l : Addr} {y z : Int} (h : H d = some (GO l y z)) : DGet H d (.str (Str.ofString "count")) (some (.int z)) := DGet.k (k := kN) h
theorem dpS {H : Hp} {d l : Addr} {y z : Int} (v : Int) (h : H d = some (GO l y z)) : DPut H d (.str (Str.ofString "seed")) (.int v) (upd H d (GO l v z)) := DPut.k (k := kS) h (by show 3 < sizeLine; decide)
theorem dpN {H : Hp} {d l : Addr} {y z : Int} (v : Int) (h : H d = some (GO l y z)) : DPut H d (.str (Str.ofString "count")) (.int v) (upd H d (GO l y v)) := DPut.k (k := kN) h (by show 3 < sizeLine; decide)
theorem cut63 {ns : List Int} (h : ns.length ≤ 63) : cutV (ns.map V.int) none (some 63) = ns.map V.int := by
  unfold cutV
  have e : HT.sIx (ns.map V.int).length (ns.map V.int).length (some 63) = min 63 (ns.map V.int).length := HT.sIx_nat _ _ 63
  rw [HT.sIx_none, e, List.length_map, List.drop_zero]
  apply List.take_of_length_le
  rw [List.length_map]
  omega
theorem sq_same {K : PySem.W.Frag} {H H' : Hp} {a : Addr} {xs : List V} (s : Same H H') (h : SqL K H a xs) : SqL K H' a xs := h.imp (fun r => r.imp (fun e => s _ _ e) (fun ⟨ob, e⟩ => ⟨ob, s _ _ e⟩)) id
theorem at_hd {c : Int} {r : List Int} : atI ((c :: r).map V.int) 0 = some (.int c) := by
  show atI _ ((0 : Nat) : Int) = _
  exact atI_nat rfl
def sp_deck (K : PySem.W.Frag) : Sp := fun vs H Q _ => ∃ (a : Addr) (ns : List Int), vs = [.ref a] ∧ SqL K H a (ns.map V.int) ∧ ns.length ≤ 63 ∧ ∀ H' d l, Same H H' → DeckG H' d l 0 → Q (.ref d) H'
theorem ok_deck (T : Tx K mg) : FnOk P w K mg base CX0 1 T.f_deck T.fd_deck ["_law_script"] (sp_deck K) := by
  refine T.F_deck.ok sc_deck (fun vs H Q E h => ?_) (fun cdv A outer s H vs Q E hr h => ?_)
  · obtain ⟨a, ns, rfl, _⟩ := h
    rfl
  · obtain ⟨a, ns, rfl, hS, hlen, q⟩ := h
    refine ⟨_, (pss_one (ps_ret (pe_disp (pps_cons pe_str (pe_callTy call_list_of (by rfl) T.m_list (by decide +kernel) (pa_cons (pe_slice sl_list (pv 0) po_none (po_some pe_int)) pa_nil)) (pps_cons pe_str (pe_op op_add (pe_op op_mod (pe_callB (cr_sum rfl) (by rfl) T.m_sum (by decide +kernel) (pa_cons (pv 0) pa_nil)) pe_int) pe_int) (pps_cons pe_str pe_int pps_nil))) (by rfl) (by rfl) (fun z => by cases z) (by decide)))), ?_⟩
    refine fun d nd => ?_
    have s1 := same_upd (o := (HO.dK [])) nd
    have h1 : upd H d (HO.dK []) d = some (HO.dK []) := upd_same
    generalize upd H d (HO.dK []) = H1 at s1 h1 ⊢
    refine ⟨.ref a, rfl, 63, rfl, a, _, rfl, sq_same s1 hS, fun c1 n1 => ?_⟩
    rw [cut63 hlen]
    have s2 := same_upd (o := (HO.lst (ns.map V.int))) n1
    have h2 : upd H1 c1 (HO.lst (ns.map V.int)) c1 = some (HO.lst (ns.map V.int)) := upd_same
    generalize upd H1 c1 (HO.lst (ns.map V.int)) = H2 at s2 h2 ⊢
    refine ⟨c1, _, rfl, .inl (SqL.of h2), fun l nl => ?_⟩
    have s3 := same_upd (o := (HO.lst (ns.map V.int))) nl
    have h3 : upd H2 l (HO.lst (ns.map V.int)) l = some (HO.lst (ns.map V.int)) := upd_same
    generalize upd H2 l (HO.lst (ns.map V.int)) = H3 at s3 h3 ⊢
    have s13 := s2.trans s3
    refine ⟨.ref a, rfl, a, ns, rfl, sq_same (s1.trans s13) hS, _, _, rfl, rfl, (show (0 : Int) < 2147483629 by decide), _, _, rfl, rfl, ?_⟩
    have hd3 := s13 _ _ h1
    refine ⟨hd3, [(kC, .ref l), (kS, _), (kN, .int 0)], rfl, (show 3 ≤ 15 by decide), ?_⟩
    have em : ∀ v1 v2 v3 : V, mergeK [] [(kC, v1), (kS, v2), (kN, v3)] = [(kC, v1), (kS, v2), (kN, v3)] := fun v1 v2 v3 => rfl
    rw [em]
    have ndl : l ≠ d := (ne_of_none (s2 _ _ h1) nl).symm
    refine q _ d l (fun b o e => ?_) ⟨ndl.symm, ns, _, 0, upd_same, by rw [upd_ne ndl]; exact h3, hlen, Int.le_refl _, Int.le_refl _⟩
    rw [upd_ne (ne_of_none e nd)]
    exact s13 _ _ (s1 _ _ e)
/-! ### the next number -/
def sp_next (K : PySem.W.Frag) : Sp := fun vs H Q _ => ∃ (d l : Addr) (m n : Int), vs = [.ref d, .int m] ∧ DeckG H d l n ∧ n < 1000000000 ∧ 0 < m ∧ m < 1073741824 ∧ ∀ H' v, DeckG H' d l (n + 1) → Fr d l H H' → 0 ≤ v → v < m → Q (.int v) H'
theorem ok_next (T : Tx K mg) : FnOk P w K mg base CX0 1 T.f_next T.fd_next ["_law_deck_here", "_law_most"] (sp_next K) := by
  refine T.F_next.ok sc_next (fun vs H Q E h => ?_) (fun cdv A outer s H vs Q E hr h => ?_)
  · obtain ⟨d, l, m, n, rfl, _⟩ := h
    rfl
  · obtain ⟨d, l, m, n, rfl, D, hn, hm0, hm1, q⟩ := h
    obtain ⟨ne, cs, y, z, hd, hl, hcs, hz0, hz1⟩ := D
    refine ⟨_, (pss_cons (ps_dput (hu_of hr) (pv 0) pe_str (pe_op op_add (pe_dget (hu_of hr) (pv 0) pe_str (fun _ _ => rfl)) pe_int) rfl) (pss_cons (ps_set (i := 2) sc_next.nd rfl (by first | exact .inl rfl | exact .inr rfl) (pe_dget (hu_of hr) (pv 0) pe_str (fun _ _ => rfl))) (pss_cons (ps_set (i := 3) sc_next.nd rfl (by first | exact .inl rfl | exact .inr rfl) pe_int) (pss_cons (ps_if (pt_cut (pw_and (pt_cmpR (op_neD hr.units) (pv 2) (pe_lst pa_nil) (nomark _)) (pw_and1 (pt_cmpR op_ge (pe_ix ix_list (pv 2) pe_int (fun _ _ => rfl)) (pe_op op_pow pe_int pe_int) (nomark _)))).pt) (pss_cons (ps_set (i := 3) sc_next.nd rfl (by first | exact .inl rfl | exact .inr rfl) (pe_op op_mod (pe_ix ix_list (pv 2) pe_int (fun _ _ => rfl)) (pv 1))) (pss_cons (ps_asg (pe_op op_fdiv (pe_ix ix_list (pv 2) pe_int (fun _ _ => rfl)) (pv 1)) (pg_sub (pv 2) pe_int set_list)) (pss_one (ps_ret (pv 3))))) pss_nil) (C8.pss_cut (ps_if (pt_cmpR (op_neD hr.units) (pv 2) (pe_lst pa_nil) (nomark _)) (pss_one (ps_set (i := 3) sc_next.nd rfl (by first | exact .inl rfl | exact .inr rfl) (pe_bm PySem.F.plainAttrs_list PySem.F.slot_list_pop PySem.F.type_list_pop mt_popAt (pv 2) (pa_cons pe_int pa_nil)))) pss_nil) (pss_cons (ps_set (i := 4) sc_next.nd rfl (by first | exact .inl rfl | exact .inr rfl) (pe_op op_mod (pe_op op_add (pe_op op_add (pe_op op_mul (pe_dget (hu_of hr) (pv 0) pe_str (fun _ _ => rfl)) pe_int) (pe_op op_mul pe_int (pe_dget (hu_of hr) (pv 0) pe_str (fun _ _ => rfl)))) (pv 3)) pe_int)) (pss_cons (ps_dput (hu_of hr) (pv 0) pe_str (pv 4) rfl) (pss_one (ps_ret (pe_op op_mod (pe_op op_fdiv (pe_op op_mod (pe_op op_mul (pv 4) (pe_op op_add (pe_op op_fdiv (pv 4) pe_int) pe_int)) pe_int) pe_int) (pv 1))))))))))), ?_⟩
    refine ⟨.ref d, rfl, d, .int z, rfl, dgN hd, _, _, rfl, rfl, .ref d, rfl, d, _, rfl, dpN (z + 1) hd, ?_⟩
    have hd1 : upd H d (GO l y (z + 1)) d = some (GO l y (z + 1)) := upd_same
    have hl1 : upd H d (GO l y (z + 1)) l = some (.lst (cs.map V.int)) := by rw [upd_ne ne.symm]; exact hl
    have fr1 : Fr d l H (upd H d (GO l y (z + 1))) := Fr.d
    generalize upd H d (GO l y (z + 1)) = H1 at hd1 hl1 fr1 ⊢
    have hz2 : 0 ≤ z + 1 := by omega
    have hz3 : z + 1 ≤ n + 1 := by omega
    have hz4 : z + 1 < 2000000000 := by omega
    revert hz2 hz3 hz4 hd1
    generalize z + 1 = z'
    intro hd1 hz2 hz3 hz4
    refine ⟨.ref d, rfl, d, .ref l, rfl, dgC hd1, ?_⟩
    refine ⟨fun b H' => Same H1 H' ∧ (b = true → cs ≠ []), ?_, ?_⟩
    · refine ⟨.ref l, rfl, Nat.zero_le _, fun p np => ?_⟩
      have s2 := same_upd (o := (HO.lst [])) np
      have h2 : upd H1 p (HO.lst []) p = some (HO.lst []) := upd_same
      generalize upd H1 p (HO.lst []) = H2 at s2 h2 ⊢
      have hl2 := s2 _ _ hl1
      refine ⟨.list (cs.map .int), .list [], .lst (SqL.of hl2) (dpInts cs), .lst (SqL.of h2) .nil, shInts cs, rfl, _, rfl, ?_⟩
      cases cs with
      | nil => exact iteF ⟨s2, fun z => by cases z⟩
      | cons c r =>
        refine iteT ?_
        exact ⟨.ref l, rfl, l, _, 0, .int c, rfl, rfl, SqL.of hl2, at_hd, _, _, rfl, rfl, ⟨by decide, by decide, by decide⟩, _, _, rfl, rfl, _, rfl, s2, fun _ => List.cons_ne_nil _ _⟩
    rintro b H2 ⟨s2, hb⟩
    have hd2 := s2 _ _ hd1
    have hl2 := s2 _ _ hl1
    have fr2 : Fr d l H H2 := fr1.trans (Fr.of s2)
    refine ite2 (fun e => ?_) (fun e => ?_)
    · have hne := hb e
      cases cs with
      | nil => exact absurd rfl hne
      | cons c r =>
        refine ⟨.ref l, rfl, l, _, 0, .int c, rfl, rfl, SqL.of hl2, at_hd, .int m, rfl, _, _, rfl, rfl, hm0, ?_⟩
        refine ⟨.ref l, rfl, l, _, 0, .int c, rfl, rfl, SqL.of hl2, at_hd, .int m, rfl, _, _, rfl, rfl, (⟨hm0, hm1⟩ : 0 < m ∧ m < 1073741824), .ref l, rfl, l, _, 0, 0, rfl, rfl, hl2, by unfold ixN; rw [if_pos (by decide), List.length_map, if_pos (by rw [List.length_cons]; omega)]; rfl, ?_⟩
        refine ⟨.int (c % m), rfl, ?_⟩
        exact q _ _ ⟨ne, (c / m) :: r, y, z', by rw [upd_ne ne]; exact hd2, upd_same, hcs, hz2, hz3⟩ (fr2.trans Fr.l) (Int.emod_nonneg _ (by omega)) (Int.emod_lt_of_pos _ hm0)
    · refine ⟨fun σ H' => ∃ (c : Int) (cs' : List Int), σ = [some (.ref d), some (.int m), some (.ref l), some (.int c), none] ∧ H' d = some (GO l y z') ∧ H' l = some (.lst (cs'.map V.int)) ∧ cs'.length ≤ 63 ∧ Fr d l H H', ?_, ?_⟩
      · refine ⟨.ref l, rfl, Nat.zero_le _, fun p np => ?_⟩
        have s3 := same_upd (o := (HO.lst [])) np
        have h3 : upd H2 p (HO.lst []) p = some (HO.lst []) := upd_same
        generalize upd H2 p (HO.lst []) = H3 at s3 h3 ⊢
        have hl3 := s3 _ _ hl2
        have hd3 := s3 _ _ hd2
        refine ⟨.list (cs.map .int), .list [], .lst (SqL.of hl3) (dpInts cs), .lst (SqL.of h3) .nil, shInts cs, rfl, _, rfl, ?_⟩
        have fr3 := fr2.trans (Fr.of (d := d) (l := l) s3)
        cases cs with
        | nil => exact iteF ⟨0, [], rfl, hd3, hl3, hcs, fr3⟩
        | cons c r =>
          refine iteT ?_
          refine ⟨.ref l, rfl, .inl ⟨rfl, _, SqL.of hl3⟩, l, _, 0, 0, .int c, rfl, rfl, hl3, by decide, by decide, seqIx0 _ _, rfl, ?_⟩
          exact ⟨c, r, rfl, by rw [upd_ne ne]; exact hd3, upd_same, by simp at hcs; omega, fr3.trans Fr.l⟩
      · rintro σ H3 ⟨c, cs', rfl, hd3, hl3, hc3, fr3⟩
        have p87 : (0 : Int) < 2147483587 := by decide
        have p63 : (0 : Int) < 2147483563 := by decide
        refine ⟨.ref d, rfl, d, .int y, rfl, dgS hd3, _, _, rfl, rfl, .inr ⟨by decide, by decide⟩, .ref d, rfl, d, .int z', rfl, dgN hd3, _, _, rfl, rfl, .inl ⟨by decide, by decide⟩, _, _, rfl, rfl, .int c, rfl, _, _, rfl, rfl, _, _, rfl, rfl, p87, ?_⟩
        dsimp only
        have v0 := Int.emod_nonneg (y * 48271 + 69621 * z' + c) (show (2147483587 : Int) ≠ 0 by decide)
        have v1 := Int.emod_lt_of_pos (y * 48271 + 69621 * z' + c) (show (0 : Int) < 2147483587 by decide)
        revert v0 v1
        generalize (y * 48271 + 69621 * z' + c) % 2147483587 = v
        intro v0 v1
        refine ⟨.int v, rfl, .ref d, rfl, d, _, rfl, dpS v hd3, ?_⟩
        refine ⟨.int v, rfl, .int v, rfl, _, _, rfl, rfl, (⟨by decide, by decide⟩ : (0 : Int) < 7 ∧ (7 : Int) < 1073741824), _, _, rfl, rfl, _, _, rfl, rfl, .inl ⟨by omega, by omega⟩, _, _, rfl, rfl, p63, _, _, rfl, rfl, (⟨by decide, by decide⟩ : (0 : Int) < 64 ∧ (64 : Int) < 1073741824), .int m, rfl, _, _, rfl, rfl, hm0, ?_⟩
        exact q _ _ ⟨ne, cs', v, z', upd_same, by rw [upd_ne ne.symm]; exact hl3, hc3, hz2, hz3⟩ (fr3.trans Fr.d) (Int.emod_nonneg _ (by omega)) (Int.emod_lt_of_pos _ hm0)

end
end Gk

set_option Elab.async false
set_option linter.all false
set_option maxRecDepth 100000
set_option maxHeartbeats 1000000
set_option pp.maxSteps 1500
set_option pp.deepTerms false
namespace Gk
open PySem PySem.Spec PyProof.Rows L2
section
variable {P : Program} {w : World} {K : PySem.W.Frag} {mg : Str → Option Value} {base : Heap}
/-! ### products -/
def one (c : Nat) : Str := SX.S [c]
theorem one_len (c : Nat) : (one c).length = 1 := rfl
theorem joinL_nil : ∀ l : List (List Nat), TL.joinL [] l = l.flatten
  | [] => rfl
  | [p] => by simp [TL.joinL]
  | p :: q :: r => by
    show p ++ ([] ++ TL.joinL [] (q :: r)) = _
    rw [joinL_nil (q :: r)]
    rfl
theorem join_one (cs : List Nat) : Txt.join (Str.ofString "") (cs.map one) = SX.S cs := by
  have e : cs.map one = (cs.map fun c => [c]).map SX.S := by rw [List.map_map]; rfl
  have z : Str.ofString "" = SX.S [] := by decide +kernel
  rw [e, z, SX.join_S, joinL_nil]
  have : (cs.map fun c => [c]).flatten = cs := by
    clear e z
    induction cs with
    | nil => rfl
    | cons b r ih => rw [List.map_cons, List.flatten_cons, ih]; rfl
  rw [this]
theorem ones_sum (cs : List Nat) : ((cs.map one).map (·.length)).sum = cs.length := by
  induction cs with
  | nil => rfl
  | cons b r ih =>
    rw [List.map_cons, List.map_cons, List.sum_cons, ih, List.length_cons, one_len]
    omega
theorem join_fit {cs : List Nat} (h : cs.length ≤ 64) : ((cs.map one).map (·.length)).sum + (cs.map one).length * (Str.ofString "").length ≤ 16777216 := by
  rw [ones_sum]
  show cs.length + (cs.map one).length * 0 ≤ _
  omega
def SgOk (c : Nat) : Prop := c = 45 ∨ c = 48 ∨ c = 49
def ProdOk (m : Nat) (p : List Nat) : Prop := p.length = m ∧ ∀ c ∈ p, SgOk c
theorem dash_S : Str.ofString "-" = one 45 := by decide +kernel
theorem s8_S : Str.ofString "01-01---" = SX.S [48, 49, 45, 48, 49, 45, 45, 45] := by decide +kernel
theorem it8 : ∀ k : Nat, k < 8 → ∃ c, (SX.S [48, 49, 45, 48, 49, 45, 45, 45]).cps[k]? = some c ∧ SgOk c := by
  intro k h
  rcases k with _ | _ | _ | _ | _ | _ | _ | _ | k
  · exact ⟨48, rfl, .inr (.inl rfl)⟩
  · exact ⟨49, rfl, .inr (.inr rfl)⟩
  · exact ⟨45, rfl, .inl rfl⟩
  · exact ⟨48, rfl, .inr (.inl rfl)⟩
  · exact ⟨49, rfl, .inr (.inr rfl)⟩
  · exact ⟨45, rfl, .inl rfl⟩
  · exact ⟨45, rfl, .inl rfl⟩
  · exact ⟨45, rfl, .inl rfl⟩
  · omega
theorem at6 {x : Int} (h0 : 0 ≤ x) (h1 : x < 6) : ∃ v : Int, atI [V.int 6, .int 4, .int 3, .int 8, .int 8, .int 5] x = some (.int v) ∧ 0 < v ∧ v ≤ 8 := by
  obtain ⟨k, rfl⟩ := Int.eq_ofNat_of_zero_le h0
  have hk : k < 6 := by omega
  rcases k with _ | _ | _ | _ | _ | _ | k
  · exact ⟨6, rfl, by decide, by decide⟩
  · exact ⟨4, rfl, by decide, by decide⟩
  · exact ⟨3, rfl, by decide, by decide⟩
  · exact ⟨8, rfl, by decide, by decide⟩
  · exact ⟨8, rfl, by decide, by decide⟩
  · exact ⟨5, rfl, by decide, by decide⟩
  · omega
theorem mul_dash {m : Nat} (h1 : 1 ≤ m) (h6 : m ≤ 6) : Txt.mul (one 45) (m : Int) = SX.S (List.replicate m 45) := by
  rcases m with _ | _ | _ | _ | _ | _ | _ | m
  · omega
  all_goals first | decide +kernel | omega
def wS (b : Int) : Nat := if b = 1 then 49 else 48
theorem str01 {b : Int} (h : b = 0 ∨ b = 1) : (toString b : Str) = one (wS b) := by
  rcases h with rfl | rfl <;> decide +kernel
def rRepS : V → V → Hp → VK → Prop := fun x y H Q => ∃ (z : Str) (n : Int), x = .str z ∧ y = .int n ∧ z.length ≤ 16 ∧ 0 ≤ n ∧ n ≤ 1048576 ∧ Q (.str (Txt.mul z n)) H
theorem op_repS {X : Cx} : OpR X (binaryOp .Mult) rRepS := by
  intro pins s σ H x y v u Q I rx ry h
  obtain ⟨i, j, rfl, rfl, h1, h2, h3, q⟩ := h
  obtain ⟨t, rfl⟩ := rx
  obtain ⟨t', rfl⟩ := ry
  exact SB.mul (mulOk_of 16 1048576 h1 h3 (by omega) (by decide) (by decide)) fun t' tk => ⟨.str _, H, I.tok _, ⟨_, rfl⟩, q⟩

def Row01' (r : List Int) : Prop := ∀ x ∈ r, x = 0 ∨ x = 1
def hall (p q : List Nat) : Bool := (p.zip q).all fun z => decide (z.1 = 45) || decide (z.1 = z.2)
def meetM (p q : List Nat) : Bool := (p.zip q).all fun z => decide (z.1 = 45) || decide (z.2 = 45) || decide (z.1 = z.2)
def rowS (r : List Int) : List Nat := r.map wS
def hrow (p : List Nat) (r : List Int) : Bool := hall p (rowS r)
def cubeM (a b : List Int) : List Nat := (a.zip b).map fun z => if z.1 = z.2 then wS z.1 else 45
theorem S_list (p : List Nat) : (SX.S p).cps.toList.map (fun c => V.str ⟨#[c]⟩) = p.map fun c => V.str (one c) := by
  show (p.toArray.toList).map _ = _
  rw [List.toList_toArray]
  rfl
theorem one_at {p : List Nat} {i : Nat} {x : V} (h : (p.map fun c => V.str (one c))[i]? = some x) : ∃ c, p[i]? = some c ∧ x = V.str (one c) := by
  rw [List.getElem?_map] at h
  cases hz : p[i]? with
  | none => rw [hz] at h; cases h
  | some u => rw [hz] at h; exact ⟨u, rfl, (Option.some.inj h).symm⟩
theorem eqV_one (a b : Nat) : eqV (.str (one a)) (.str (one b)) = decide (a = b) := by
  show (one a == one b) = _
  by_cases z : a = b
  · subst z
    simp
  · rw [decide_eq_false z]
    refine beq_eq_false_iff_ne.mpr fun k => z ?_
    have := SX.S_inj k
    simpa using this
theorem zip_take_succ {α β : Type} {p : List α} {q : List β} {i : Nat} {a : α} {b : β} (h1 : p[i]? = some a) (h2 : q[i]? = some b) : (p.zip q).take (i + 1) = (p.zip q).take i ++ [(a, b)] := by
  rw [List.take_add_one]
  have : (p.zip q)[i]? = some (a, b) := by
    rw [List.getElem?_zip_eq_some]
    exact ⟨h1, h2⟩
  rw [this]
  rfl
theorem all_stop {α : Type} {l : List α} {f : α → Bool} {i : Nat} {a : α} (h : l.take (i + 1) = l.take i ++ [a]) (e : f a = false) : l.all f = false := by
  rw [← List.take_append_drop (i + 1) l, List.all_append, h, List.all_append]
  simp [e]

/-! ### a product drawn -/
theorem s01_S : Str.ofString "01" = SX.S [48, 49] := by decide +kernel
theorem it2 : ∀ k : Nat, k < 2 → ∃ c, (SX.S [48, 49]).cps[k]? = some c ∧ SgOk c := by
  intro k h
  rcases k with _ | _ | k
  · exact ⟨48, rfl, .inr (.inl rfl)⟩
  · exact ⟨49, rfl, .inr (.inr rfl)⟩
  · omega
theorem S_app (a b : List Nat) : SX.S a ++ SX.S b = SX.S (a ++ b) := by
  show (⟨a.toArray ++ b.toArray⟩ : Str) = ⟨(a ++ b).toArray⟩
  congr 1
  simp
def sp_product (K : PySem.W.Frag) : Sp := fun vs H Q _ => ∃ (d l : Addr) (n : Int) (m : Nat), vs = [.ref d, .int m] ∧ DeckG H d l n ∧ n < 900000000 ∧ m ≤ 6 ∧ ∀ (p : List Nat) (H' : Hp), DeckG H' d l (n + 13) → Fr d l H H' → ProdOk m p → Q (.str (SX.S p)) H'
theorem ok_product (T : Tx K mg) : FnOk P w K mg base CX0 2 T.f_product T.fd_product ["_law_deck_here", "_law_many"] (sp_product K) := by
  refine T.F_product.ok sc_product (fun vs H Q E h => ?_) (fun cdv A outer s H vs Q E hr h => ?_)
  · obtain ⟨d, l, n, m, rfl, _⟩ := h
    rfl
  · obtain ⟨d, l, n, m, rfl, D, hn, m6, q⟩ := h
    refine ⟨_, (pss_cons (ps_set (i := 2) sc_product.nd rfl (by first | exact .inl rfl | exact .inr rfl) (pe_call (ok_next T) (hr.mono (by decide)) (by rfl) T.g_next T.F_next.kp T.b_next .nil pass0 (pa_cons (pv 0) (pa_cons pe_int pa_nil)))) (pss_cons (ps_set (i := 3) sc_product.nd rfl (by first | exact .inl rfl | exact .inr rfl) pe_str) (pss_cons (ps_for PassesOwn.never rfl (pi_range1 (by rfl) T.m_range (pa_cons (pv 1) pa_nil)) (pg_name (i := 4) sc_product.nd rfl (by first | exact .inl rfl | exact .inr rfl)) (pss_cons (ps_set (i := 5) sc_product.nd rfl (by first | exact .inl rfl | exact .inr rfl) (pe_item_str pe_str (pe_call (ok_next T) (hr.mono (by decide)) (by rfl) T.g_next T.F_next.kp T.b_next .nil pass0 (pa_cons (pv 0) (pa_cons pe_int pa_nil))) (fun _ _ => rfl))) (pss_one (ps_set (i := 3) sc_product.nd rfl (by first | exact .inl rfl | exact .inr rfl) (pe_op op_add_str (pv 3) (pe_ix ix_list (pe_lst (pa_cons (pv 5) (pa_cons pe_str pa_nil))) (pe_callTy call_int1 (by rfl) T.m_int (by decide +kernel) (pa_cons (pe_cmpR op_lt (pe_call (ok_next T) (hr.mono (by decide)) (by rfl) T.g_next T.F_next.kp T.b_next .nil pass0 (pa_cons (pv 0) (pa_cons pe_int pa_nil))) (pv 2) (nomark _)) pa_nil)) (fun _ _ => rfl))))))) (pss_one (ps_ret (pv 3)))))), ?_⟩
    refine ⟨.ref d, rfl, d, l, 4, _, rfl, D, by omega, by decide, by decide, fun H1 ba D1 fr1 b0 b1 => ?_⟩
    refine ⟨.int m, rfl, (m : Int), rfl, by omega, by omega, ?_⟩
    refine for_range (lo := 0) (n := (m : Int).toNat) (fun i σ H' => ∃ (acc : List Nat) (y4 y5 : Option V), σ = [some (.ref d), some (.int m), some (.int ba), some (.str (SX.S acc)), y4, y5] ∧ DeckG H' d l (n + 1 + 2 * i) ∧ Fr d l H H' ∧ acc.length = i ∧ ∀ c ∈ acc, SgOk c)
      ⟨[], _, _, by rw [show Str.ofString "" = SX.S [] from by decide +kernel]; rfl, D1.mono (by omega), fr1, rfl, fun c hc => by cases hc⟩ ?_ ?_
    · rintro i σ H2 hi ⟨acc, y4, y5, rfl, D2, fr2, la, oka⟩
      have hi' : i < m := by simpa using hi
      refine ⟨.ref d, rfl, d, l, 2, _, rfl, D2, by omega, by decide, by decide, fun H3 v D3 fr3 v0 v1 => ?_⟩
      obtain ⟨c, hc, okc⟩ := it2 v.toNat (by omega)
      refine ⟨Str.ofString "01", v, c, rfl, rfl, v0, by omega, by rw [s01_S, SX.S_len]; show v < 2; omega, by rw [s01_S]; exact hc, ?_⟩
      refine ⟨.str (SX.S acc), rfl, .str ⟨#[c]⟩, rfl, sl2, fun p np => ?_⟩
      have s4 := same_upd (o := (HO.lst [V.str ⟨#[c]⟩, V.str (Str.ofString "-")])) np
      have h4 : upd H3 p (HO.lst [V.str ⟨#[c]⟩, V.str (Str.ofString "-")]) p = some (HO.lst [V.str ⟨#[c]⟩, V.str (Str.ofString "-")]) := upd_same
      generalize upd H3 p (HO.lst [V.str ⟨#[c]⟩, V.str (Str.ofString "-")]) = A1 at s4 h4 ⊢
      have D4 := D3.same s4
      have o4 := D3.off np
      refine ⟨.ref d, rfl, d, l, 4, _, rfl, D4, by omega, by decide, by decide, fun H5 u D5 fr5 u0 u1 => ?_⟩
      have h5 := fr5 _ _ o4.1 o4.2 h4
      have pick : ∃ c' : Nat, SgOk c' ∧ atI [V.str ⟨#[c]⟩, V.str (Str.ofString "-")] (if decide (u < ba) = true then 1 else 0) = some (.str (one c')) := by
        split
        · exact ⟨45, .inl rfl, by rw [dash_S]; rfl⟩
        · exact ⟨c, okc, rfl⟩
      obtain ⟨c', okc', hat⟩ := pick
      refine ⟨.int ba, rfl, _, _, rfl, rfl, .inr ⟨_, rfl, p, _, _, .str (one c'), rfl, rfl, SqL.of h5, hat, ?_⟩⟩
      refine ⟨SX.S acc, one c', rfl, rfl, ?_, ?_⟩
      · rw [SX.S_len]
        show acc.length + 1 ≤ sizeLine
        exact Nat.le_trans (show acc.length + 1 ≤ 64 by omega) (by decide)
      have e1 : SX.S acc ++ one c' = SX.S (acc ++ [c']) := S_app acc [c']
      rw [e1]
      refine ⟨acc ++ [c'], _, _, rfl, D5.mono (by push_cast; omega), ((fr2.trans fr3).trans (Fr.of s4)).trans fr5, by rw [List.length_append, la]; rfl, fun x hx => ?_⟩
      rcases List.mem_append.mp hx with h | h
      · exact oka x h
      · rw [List.mem_singleton.mp h]; exact okc'
    · rintro σ H2 ⟨acc, y4, y5, rfl, D2, fr2, la, oka⟩
      have em : (m : Int).toNat = m := by omega
      rw [em] at la D2
      exact ⟨.str (SX.S acc), rfl, q acc H2 (D2.mono (by omega)) fr2 ⟨la, oka⟩⟩

end
end Gk

set_option Elab.async false
set_option linter.all false
set_option maxRecDepth 100000
set_option maxHeartbeats 1000000
set_option pp.maxSteps 1500
set_option pp.deepTerms false
namespace Gk
open PySem PySem.Spec PyProof.Rows L2
section
variable {P : Program} {w : World} {K : PySem.W.Frag} {mg : Str → Option Value} {base : Heap}
/-! ### products and rows, the law's own -/
theorem eq_nilI (bad : List Int) : PyData.eqv (.list (bad.map .int)) (.list []) = bad.isEmpty := by cases bad <;> rfl
theorem not_in_two (c a : Nat) : (if true = true then !inV (.str (one c)) [V.str (Str.ofString "-"), V.str (one a)] else inV (.str (one c)) [V.str (Str.ofString "-"), V.str (one a)]) = !(decide (c = 45) || decide (c = a)) := by
  show (!(eqV (.str (Str.ofString "-")) (.str (one c)) || (eqV (.str (one a)) (.str (one c)) || false))) = _
  rw [dash_S, eqV_one, eqV_one, Bool.or_false]
  congr 2
  · exact decide_eq_decide.mpr ⟨Eq.symm, Eq.symm⟩
  · exact decide_eq_decide.mpr ⟨Eq.symm, Eq.symm⟩
def sp_holds (K : PySem.W.Frag) : Sp := fun vs H Q _ => ∃ (m : Nat) (p : List Nat) (a : Addr) (r : List Int), vs = [.str (SX.S p), .ref a] ∧ p.length = m ∧ H a = some (.tup (r.map V.int)) ∧ Row01' r ∧ r.length = m ∧ m ≤ 6 ∧ ∀ H', Same H H' → Q (.bl (hrow p r)) H'
theorem ok_holds (T : Tx K mg) : FnOk P w K mg base CX0 1 T.f_holds T.fd_holds ["_law_product_here", "_law_row"] (sp_holds K) := by
  refine T.F_holds.ok sc_holds (fun vs H Q E h => ?_) (fun cdv A outer s H vs Q E hr h => ?_)
  · obtain ⟨m, p, a, r, rfl, _⟩ := h
    rfl
  · obtain ⟨m, p, a, r, rfl, lp, ha, ok, lr, m6, q⟩ := h
    refine ⟨_, (pss_one (ps_ret (pe_cmpR (op_eqD hr.units) (pe_lc (own := [("_law_k", 2)]) (by rfl) sc_holds.nd (pi_range1 (by rfl) T.m_range (pa_cons (pe_callB call_len_seq (by rfl) T.m_len PySem.boot_len (pa_cons (pv 1) pa_nil)) pa_nil)) (blkOk_by (own := [("_law_k", 2)]) (N := ["_law_product_here", "_law_row", "_law_k"]) (sc := defScope s_holds) (by decide +kernel)) (fun _ _ _ _ _ => (pg_name (i := 2) sc_holds.nd rfl (by first | exact .inl rfl | exact .inr rfl))) (fun _ _ _ _ _ => (pts_one (pt_cmpR (show OpR _ _ (rIn K true) from op_notIn_seq) (pe_item_str (pv 0) (pv 2) (fun _ _ => rfl)) (pe_tup (pa_cons pe_str (pa_cons (pe_callTy call_str_int (by rfl) T.m_str (by decide +kernel) (pa_cons (pe_ix (show IxR _ (rIxT K) from ix_tup) (pv 1) (pv 2) (fun _ _ => rfl)) pa_nil)) pa_nil))) rfl))) (fun _ _ _ _ _ => (pv 2))) (pe_lst pa_nil) (nomark _)))), ?_⟩
    refine ⟨.ref a, rfl, a, _, rfl, .inr (SqT.of ha), ?_⟩
    rw [List.length_map, lr]
    refine ⟨(m : Int), rfl, by omega, by omega, fun L nL => ?_⟩
    refine lc_range (lo := 0) (n := (m : Int).toNat) (fun j H' => Same H (hd1 L H') ∧ ∃ bad : List Int, H' L = some (.lst (bad.map V.int)) ∧ bad.length ≤ j ∧ bad.isEmpty = ((p.zip (rowS r)).take j).all fun z => decide (z.1 = 45) || decide (z.1 = z.2)) ⟨hd1_of (same_upd nL) nL, [], upd_same, Nat.le_refl _, rfl⟩ ?_ ?_
    · rintro j H1 hj ⟨s1, bad, hL, lb, ih⟩
      have hj' : j < m := by simpa using hj
      have hc : p[j]? = some (p[j]'(by omega)) := List.getElem?_eq_getElem _
      have hx : r[j]? = some (r[j]'(by omega)) := List.getElem?_eq_getElem _
      revert hc hx
      generalize p[j]'(by omega) = c
      generalize r[j]'(by omega) = x
      intro hc hx
      have x01 := ok x (List.mem_of_getElem? hx)
      have hw : (rowS r)[j]? = some (wS x) := by unfold rowS; rw [List.getElem?_map, hx]; rfl
      have ez := zip_take_succ hc hw
      have hat : atI (r.map V.int) (0 + (j : Int)) = some (.int x) := by rw [Int.zero_add]; exact atI_nat (by rw [List.getElem?_map, hx]; rfl)
      refine ⟨rfl, .str (SX.S p), rfl, .int (0 + (j : Int)), rfl, SX.S p, 0 + (j : Int), c, rfl, rfl, by omega, by omega, by rw [SX.S_len]; omega, ?_, .ref a, rfl, .int (0 + (j : Int)), rfl, a, _, _, .int x, rfl, rfl, SqT.of (hd1_le _ _ (s1 _ _ ha)), hat, x, rfl, by rcases x01 with rfl | rfl <;> decide, sl2, fun t nt => ?_⟩
      · rw [show (0 + (j : Int)).toNat = j by omega]
        show p.toArray[j]? = some c
        rw [List.getElem?_toArray]
        exact hc
      rw [str01 x01]
      have st := same_upd (o := HO.tup [V.str (Str.ofString "-"), V.str (one (wS x))]) nt
      refine ⟨t, _, rfl, .inr (SqT.of upd_same), rfl, rfl, _, rfl, ?_⟩
      have sL := s1.trans (hd1_same (p := L) st)
      have nin := not_in_two c (wS x)
      refine ite2 (fun e => ?_) (fun e => ?_)
      · have e' : (decide (c = 45) || decide (c = wS x)) = false := by
          have := nin.symm.trans e
          simpa using this
        refine ⟨.int (0 + (j : Int)), rfl, _, st _ _ hL, ?_, sL.trans hd1_upd, bad ++ [0 + (j : Int)], by rw [upd_same, List.map_append]; rfl, by rw [List.length_append]; exact Nat.succ_le_succ lb, ?_⟩
        · rw [List.length_map]
          exact Nat.lt_of_lt_of_le (show _ < 64 by omega) (by decide)
        · rw [ez, List.all_append]
          show _ = (_ && ((decide (c = 45) || decide (c = wS x)) && true))
          rw [e', Bool.false_and, Bool.and_false]
          cases bad <;> rfl
      · have e' : (decide (c = 45) || decide (c = wS x)) = true := by
          cases hh : (decide (c = 45) || decide (c = wS x)) with
          | true => rfl
          | false => exact absurd (nin.trans (by rw [hh]; rfl)) e
        refine ⟨sL, bad, st _ _ hL, by omega, ?_⟩
        rw [ez, List.all_append, ih]
        show _ = (_ && ((decide (c = 45) || decide (c = wS x)) && true))
        rw [e']
        simp
    · rintro H1 ⟨s1, bad, hL, lb, ih⟩
      have s1' : Same H H1 := fun b o e => hd1_le _ _ (s1 _ _ e)
      refine ⟨Nat.zero_le _, fun e ne => ?_⟩
      have s2 := same_upd (o := HO.lst []) ne
      refine ⟨.list (bad.map .int), .list [], .lst (SqL.of (s2 _ _ hL)) (dpInts bad), .lst (SqL.of upd_same) .nil, shInts bad, rfl, ?_⟩
      rw [eq_nilI, ih]
      have : (p.zip (rowS r)).length ≤ (m : Int).toNat := by rw [List.length_zip]; omega
      rw [List.take_of_length_le this]
      exact q _ (s1'.trans s2)

end
end Gk

set_option Elab.async false
set_option linter.all false
set_option maxRecDepth 100000
set_option maxHeartbeats 1000000
set_option pp.maxSteps 1500
set_option pp.deepTerms false
namespace Gk
open PySem PySem.Spec PyProof.Rows L2
theorem str_dec (x y : Str) : decide (V.str x = V.str y) = decide (x = y) := by
  by_cases z : x = y
  · rw [decide_eq_true z, decide_eq_true (by rw [z])]
  · rw [decide_eq_false z, decide_eq_false (fun k => z (V.str.inj k))]
theorem one_inj {a b : Nat} : decide (one a = one b) = decide (a = b) := by
  by_cases z : a = b
  · rw [decide_eq_true z, decide_eq_true (by rw [z])]
  · rw [decide_eq_false z, decide_eq_false (fun k => z (by have := SX.S_inj k; simpa using this))]

section
variable {P : Program} {w : World} {K : PySem.W.Frag} {mg : Str → Option Value} {base : Heap}
theorem dash_in_two (c a : Nat) : (if true = true then !inV (.str (Str.ofString "-")) [V.str (one c), V.str (one a)] else inV (.str (Str.ofString "-")) [V.str (one c), V.str (one a)]) = !(decide (c = 45) || decide (a = 45)) := by
  show (!(eqV (.str (one c)) (.str (Str.ofString "-")) || (eqV (.str (one a)) (.str (Str.ofString "-")) || false))) = _
  rw [dash_S, eqV_one, eqV_one, Bool.or_false]
def sp_meets (K : PySem.W.Frag) : Sp := fun vs H Q _ => ∃ (m : Nat) (p q' : List Nat), vs = [.str (SX.S p), .str (SX.S q')] ∧ p.length = m ∧ q'.length = m ∧ m ≤ 6 ∧ ∀ H', Same H H' → Q (.bl (meetM p q')) H'
theorem ok_meets (T : Tx K mg) : FnOk P w K mg base CX0 1 T.f_meets T.fd_meets ["_law_product_here", "_law_other"] (sp_meets K) := by
  refine T.F_meets.ok sc_meets (fun vs H Q E h => ?_) (fun cdv A outer s H vs Q E hr h => ?_)
  · obtain ⟨m, p, q', rfl, _⟩ := h
    rfl
  · obtain ⟨m, p, q', rfl, lp, lq, m6, q⟩ := h
    refine ⟨_, (pss_one (ps_ret (pe_cmpR (op_eqD hr.units) (pe_lc (own := [("_law_k", 2)]) (by rfl) sc_meets.nd (pi_range1 (by rfl) T.m_range (pa_cons (pe_callB call_len_str (by rfl) T.m_len PySem.boot_len (pa_cons (pv 1) pa_nil)) pa_nil)) (blkOk_by (own := [("_law_k", 2)]) (N := ["_law_product_here", "_law_other", "_law_k"]) (sc := defScope s_meets) (by decide +kernel)) (fun _ _ _ _ _ => (pg_name (i := 2) sc_meets.nd rfl (by first | exact .inl rfl | exact .inr rfl))) (fun _ _ _ _ _ => (pts_one (PW.pt (pw_and (pt_cmpR op_ne (pe_item_str (pv 0) (pv 2) (fun _ _ => rfl)) (pe_item_str (pv 1) (pv 2) (fun _ _ => rfl)) (nomark _)) (pw_and1 (pt_cmpR (show OpR _ _ (rIn K true) from op_notIn_seq) pe_str (pe_tup (pa_cons (pe_item_str (pv 0) (pv 2) (fun _ _ => rfl)) (pa_cons (pe_item_str (pv 1) (pv 2) (fun _ _ => rfl)) pa_nil))) rfl)))))) (fun _ _ _ _ _ => (pv 2))) (pe_lst pa_nil) (nomark _)))), ?_⟩
    refine ⟨.str (SX.S q'), rfl, _, rfl, ?_, ?_⟩
    · rw [SX.S_len, lq]
      exact Nat.le_trans (show m ≤ 64 by omega) (by decide)
    rw [SX.S_len, lq]
    refine ⟨(m : Int), rfl, by omega, by omega, fun L nL => ?_⟩
    refine lc_range (lo := 0) (n := (m : Int).toNat) (fun j H' => Same H (hd1 L H') ∧ ∃ bad : List Int, H' L = some (.lst (bad.map V.int)) ∧ bad.length ≤ j ∧ bad.isEmpty = ((p.zip q').take j).all fun z => decide (z.1 = 45) || decide (z.2 = 45) || decide (z.1 = z.2)) ⟨hd1_of (same_upd nL) nL, [], upd_same, Nat.le_refl _, rfl⟩ ?_ ?_
    · rintro j H1 hj ⟨s1, bad, hL, lb, ih⟩
      have hj' : j < m := by simpa using hj
      have hc : p[j]? = some (p[j]'(by omega)) := List.getElem?_eq_getElem _
      have hx : q'[j]? = some (q'[j]'(by omega)) := List.getElem?_eq_getElem _
      revert hc hx
      generalize p[j]'(by omega) = c
      generalize q'[j]'(by omega) = x
      intro hc hx
      have ez := zip_take_succ hc hx
      have at_ : ∀ {l : List Nat} {y : Nat}, l[j]? = some y → (SX.S l).cps[(0 + (j : Int)).toNat]? = some y := fun {l y} h => by
        rw [show (0 + (j : Int)).toNat = j by omega]
        show l.toArray[j]? = some y
        rw [List.getElem?_toArray]
        exact h
      have h0 : (0 : Int) ≤ 0 + (j : Int) := by omega
      have h63 : 0 + (j : Int) < 2 ^ 63 := by omega
      have hp : 0 + (j : Int) < (SX.S p).length := by rw [SX.S_len]; omega
      have hq : 0 + (j : Int) < (SX.S q').length := by rw [SX.S_len]; omega
      have skip : ∀ H2, Same H1 H2 → (decide (c = 45) || decide (x = 45) || decide (c = x)) = true → (Same H (hd1 L H2) ∧ ∃ bad : List Int, H2 L = some (.lst (bad.map V.int)) ∧ bad.length ≤ j + 1 ∧ bad.isEmpty = ((p.zip q').take (j + 1)).all fun z => decide (z.1 = 45) || decide (z.2 = 45) || decide (z.1 = z.2)) := fun H2 s2 e' => by
        refine ⟨s1.trans (hd1_same (p := L) s2), bad, s2 _ _ hL, by omega, ?_⟩
        rw [ez, List.all_append, ih]
        show _ = (_ && ((decide (c = 45) || decide (x = 45) || decide (c = x)) && true))
        rw [e']
        simp
      refine ⟨rfl, .str (SX.S p), rfl, .int (0 + (j : Int)), rfl, SX.S p, 0 + (j : Int), c, rfl, rfl, h0, h63, hp, at_ hc, .str (SX.S q'), rfl, .int (0 + (j : Int)), rfl, SX.S q', 0 + (j : Int), x, rfl, rfl, h0, h63, hq, at_ hx, rfl, _, rfl, ite2 (fun e => ?_) (fun e => ?_)⟩
      · have ncx : ¬ c = x := fun z => by
          rw [z] at e
          simp at e
        refine ⟨.str (SX.S p), rfl, .int (0 + (j : Int)), rfl, SX.S p, 0 + (j : Int), c, rfl, rfl, h0, h63, hp, at_ hc, .str (SX.S q'), rfl, .int (0 + (j : Int)), rfl, SX.S q', 0 + (j : Int), x, rfl, rfl, h0, h63, hq, at_ hx, sl2, fun t nt => ?_⟩
        have st := same_upd (o := HO.tup [V.str (one c), V.str (one x)]) nt
        refine ⟨t, _, rfl, .inr (SqT.of upd_same), rfl, rfl, _, rfl, ?_⟩
        have nin := dash_in_two c x
        have sL := s1.trans (hd1_same (p := L) st)
        refine ite2 (fun e2 => ?_) (fun e2 => ?_)
        · have e' : (decide (c = 45) || decide (x = 45) || decide (c = x)) = false := by
            have := nin.symm.trans e2
            rw [decide_eq_false ncx, Bool.or_false]
            simpa using this
          refine ⟨.int (0 + (j : Int)), rfl, _, st _ _ hL, ?_, sL.trans hd1_upd, bad ++ [0 + (j : Int)], by rw [upd_same, List.map_append]; rfl, by rw [List.length_append]; exact Nat.succ_le_succ lb, ?_⟩
          · rw [List.length_map]
            exact Nat.lt_of_lt_of_le (show _ < 64 by omega) (by decide)
          · rw [ez, List.all_append]
            show _ = (_ && ((decide (c = 45) || decide (x = 45) || decide (c = x)) && true))
            rw [e', Bool.false_and, Bool.and_false]
            cases bad <;> rfl
        · refine skip _ st ?_
          cases hh : (decide (c = 45) || decide (x = 45)) with
          | true => rfl
          | false => exact absurd (nin.trans (by rw [hh]; rfl)) e2
      · refine skip _ (Same.refl _) ?_
        have cx : c = x := by
          by_cases z : c = x
          · exact z
          · refine absurd ?_ e
            show (!decide (V.str (one c) = V.str (one x))) = true
            rw [str_dec, one_inj, decide_eq_false z]
            rfl
        rw [decide_eq_true cx, Bool.or_true]
    · rintro H1 ⟨s1, bad, hL, lb, ih⟩
      have s1' : Same H H1 := fun b o e => hd1_le _ _ (s1 _ _ e)
      refine ⟨Nat.zero_le _, fun e ne => ?_⟩
      have s2 := same_upd (o := HO.lst []) ne
      refine ⟨.list (bad.map .int), .list [], .lst (SqL.of (s2 _ _ hL)) (dpInts bad), .lst (SqL.of upd_same) .nil, shInts bad, rfl, ?_⟩
      rw [eq_nilI, ih]
      have : (p.zip q').length ≤ (m : Int).toNat := by rw [List.length_zip]; omega
      rw [List.take_of_length_le this]
      exact q _ (s1'.trans s2)

end
end Gk

set_option Elab.async false
set_option linter.all false
set_option maxRecDepth 100000
set_option maxHeartbeats 1000000
set_option pp.maxSteps 1500
set_option pp.deepTerms false
namespace Gk
open PySem PySem.Spec PyProof.Rows L2
section
variable {P : Program} {w : World} {K : PySem.W.Frag} {mg : Str → Option Value} {base : Heap}
def sp_cube (K : PySem.W.Frag) : Sp := fun vs H Q _ => ∃ (m : Nat) (ra rb : Addr) (a b : List Int), vs = [.ref ra, .ref rb] ∧ H ra = some (.tup (a.map V.int)) ∧ H rb = some (.tup (b.map V.int)) ∧ Row01' a ∧ a.length = m ∧ b.length = m ∧ m ≤ 6 ∧ ∀ H', Same H H' → Q (.str (SX.S (cubeM a b))) H'
theorem ok_cube (T : Tx K mg) : FnOk P w K mg base CX0 1 T.f_cube T.fd_cube ["_law_one", "_law_other"] (sp_cube K) := by
  refine T.F_cube.ok sc_cube (fun vs H Q E h => ?_) (fun cdv A outer s H vs Q E hr h => ?_)
  · obtain ⟨m, ra, rb, a, b, rfl, _⟩ := h
    rfl
  · obtain ⟨m, ra, rb, a, b, rfl, ha, hb, oa, la, lb, m6, q⟩ := h
    refine ⟨_, (pss_one (ps_ret (pe_join pe_str (pe_lc (own := [("_law_k", 2)]) (by rfl) sc_cube.nd (pi_range1 (by rfl) T.m_range (pa_cons (pe_callB call_len_seq (by rfl) T.m_len PySem.boot_len (pa_cons (pv 0) pa_nil)) pa_nil)) (blkOk_by (own := [("_law_k", 2)]) (N := ["_law_one", "_law_other", "_law_k"]) (sc := defScope s_cube) (by decide +kernel)) (fun _ _ _ _ _ => (pg_name (i := 2) sc_cube.nd rfl (by first | exact .inl rfl | exact .inr rfl))) (fun _ _ _ _ _ => pts_nil) (fun _ _ _ _ _ => (pe_ix (show IxR _ (rIxL K) from ix_list) (pe_lst (pa_cons pe_str (pa_cons (pe_callTy call_str_int (by rfl) T.m_str (by decide +kernel) (pa_cons (pe_ix (show IxR _ (rIxT K) from ix_tup) (pv 0) (pv 2) (fun _ _ => rfl)) pa_nil)) pa_nil))) (pe_callTy call_int1 (by rfl) T.m_int (by decide +kernel) (pa_cons (pe_cmpR op_eq (pe_ix (show IxR _ (rIxT K) from ix_tup) (pv 0) (pv 2) (fun _ _ => rfl)) (pe_ix (show IxR _ (rIxT K) from ix_tup) (pv 1) (pv 2) (fun _ _ => rfl)) (nomark _)) pa_nil)) (fun _ _ => rfl))))))), ?_⟩
    refine ⟨⟨_, rfl⟩, .ref ra, rfl, ra, _, rfl, .inr (SqT.of ha), ?_⟩
    rw [List.length_map, la]
    refine ⟨(m : Int), rfl, by omega, by omega, fun L nL => ?_⟩
    refine lc_range (lo := 0) (n := (m : Int).toNat) (fun j H' => Same H (hd1 L H') ∧ H' L = some (.lst (((((a.zip b).take j).map fun z => if z.1 = z.2 then wS z.1 else 45).map one).map V.str))) ⟨hd1_of (same_upd nL) nL, upd_same⟩ ?_ ?_
    · rintro j H1 hj ⟨s1, hL⟩
      have hj' : j < m := by simpa using hj
      have hu : a[j]? = some (a[j]'(by omega)) := List.getElem?_eq_getElem _
      have hv : b[j]? = some (b[j]'(by omega)) := List.getElem?_eq_getElem _
      revert hu hv
      generalize a[j]'(by omega) = u
      generalize b[j]'(by omega) = v
      intro hu hv
      have u01 := oa u (List.mem_of_getElem? hu)
      have ez := zip_take_succ hu hv
      have at_ : ∀ {l : List Int} {y : Int}, l[j]? = some y → atI (l.map V.int) (0 + (j : Int)) = some (.int y) := fun {l y} h => by
        rw [Int.zero_add]
        exact atI_nat (by rw [List.getElem?_map, h]; rfl)
      have ha1 := hd1_le _ _ (s1 _ _ ha)
      have hb1 := hd1_le _ _ (s1 _ _ hb)
      refine ⟨rfl, .ref ra, rfl, .int (0 + (j : Int)), rfl, ra, _, _, .int u, rfl, rfl, SqT.of ha1, at_ hu, u, rfl, by rcases u01 with rfl | rfl <;> decide, sl2, fun p np => ?_⟩
      rw [str01 u01]
      have sp := same_upd (o := HO.lst [V.str (Str.ofString "-"), V.str (one (wS u))]) np
      have hp : (upd H1 p (.lst [V.str (Str.ofString "-"), V.str (one (wS u))])) p = some (.lst [V.str (Str.ofString "-"), V.str (one (wS u))]) := upd_same
      generalize upd H1 p _ = H2 at sp hp ⊢
      have pick : atI [V.str (Str.ofString "-"), V.str (one (wS u))] (if decide (V.int u = V.int v) = true then 1 else 0) = some (.str (one (if u = v then wS u else 45))) := by
        by_cases z : u = v
        · rw [if_pos (decide_eq_true (by rw [z])), if_pos z]; rfl
        · rw [if_neg (fun k => z (V.int.inj (of_decide_eq_true k))), if_neg z, dash_S]; rfl
      refine ⟨.ref ra, rfl, .int (0 + (j : Int)), rfl, ra, _, _, .int u, rfl, rfl, SqT.of (sp _ _ ha1), at_ hu, .ref rb, rfl, .int (0 + (j : Int)), rfl, rb, _, _, .int v, rfl, rfl, SqT.of (sp _ _ hb1), at_ hv, rfl, .inr ⟨_, rfl, p, _, _, _, rfl, rfl, SqL.of hp, pick, ?_⟩⟩
      have sL := s1.trans (hd1_same (p := L) sp)
      refine ⟨_, sp _ _ hL, ?_, sL.trans hd1_upd, ?_⟩
      · rw [List.length_map, List.length_map, List.length_map, List.length_take, List.length_zip]
        exact Nat.lt_of_lt_of_le (show _ < 64 by omega) (by decide)
      · rw [upd_same, ez, List.map_append, List.map_append, List.map_append]
        rfl
    · rintro H1 ⟨s1, hL⟩
      have s1' : Same H H1 := fun b o e => hd1_le _ _ (s1 _ _ e)
      have : (a.zip b).length ≤ (m : Int).toNat := by rw [List.length_zip]; omega
      rw [List.take_of_length_le this] at hL
      refine ⟨Str.ofString "", L, (cubeM a b).map one, rfl, rfl, .inl (SqL.of hL), join_fit (by unfold cubeM; rw [List.length_map, List.length_zip]; omega), ?_⟩
      rw [join_one]
      exact q _ s1'

end
end Gk

set_option Elab.async false
set_option linter.all false
set_option maxRecDepth 100000
set_option maxHeartbeats 1000000
set_option pp.maxSteps 1500
set_option pp.deepTerms false
namespace Gk
open PySem PySem.Spec PyProof.Rows L2
section
variable {P : Program} {w : World} {K : PySem.W.Frag} {mg : Str → Option Value} {base : Heap}
/-! ### all rows, the law's own -/
def rowsL : Nat → List (List Int)
  | 0 => [[]]
  | k + 1 => (rowsL k).map (· ++ [0]) ++ (rowsL k).map (· ++ [1])
theorem rowsL_len : ∀ k, (rowsL k).length = 2 ^ k
  | 0 => rfl
  | k + 1 => by
    unfold rowsL
    rw [List.length_append, List.length_map, List.length_map, rowsL_len k, Nat.pow_succ]
    omega
theorem rowsL_ok : ∀ k, ∀ r ∈ rowsL k, r.length = k ∧ Row01' r
  | 0, r, h => by
    rw [List.mem_singleton.mp h]
    exact ⟨rfl, fun x hx => by cases hx⟩
  | k + 1, r, h => by
    unfold rowsL at h
    rcases List.mem_append.mp h with h | h
    · obtain ⟨q, hq, rfl⟩ := List.mem_map.mp h
      have ih := rowsL_ok k q hq
      refine ⟨by rw [List.length_append, ih.1]; rfl, fun x hx => ?_⟩
      rcases List.mem_append.mp hx with z | z
      · exact ih.2 x z
      · exact .inl (List.mem_singleton.mp z)
    · obtain ⟨q, hq, rfl⟩ := List.mem_map.mp h
      have ih := rowsL_ok k q hq
      refine ⟨by rw [List.length_append, ih.1]; rfl, fun x hx => ?_⟩
      rcases List.mem_append.mp hx with z | z
      · exact ih.2 x z
      · exact .inr (List.mem_singleton.mp z)
theorem rowD_snoc (r : List Int) (v : Int) : rowD (r ++ [v]) = .tuple (r.map PyData.int ++ [.int v]) := by
  unfold rowD
  rw [List.map_append]
  rfl
/-- the walk that puts one more worth behind each row -/
theorem more_step {H1 : Hp} {D : Addr} {rs : List (List Int)} {cs : List V} {ca : Addr} (v : Int) (hca : H1 ca = some (.lst cs)) (tcs : TkAll H1 cs (rs.map rowD)) (rl : ∀ r ∈ rs, r.length ≤ 8) (rs64 : rs.length ≤ 64) {k : Nat} {x : V} {H2 : Hp} (hx : cs[k]? = some x) (s2 : Same H1 (hd1 D H2)) {acc : List V} (hD : H2 D = some (.lst acc)) (ta : TkAll (hd1 D H2) acc ((rs.take k).map fun r => rowD (r ++ [v]))) (Q : VK)
    (q : ∀ (p : Addr) (H4 : Hp), H4 D = some (.lst acc) → Same H1 (hd1 D (upd H4 D (.lst (acc ++ [.ref p])))) → TkAll (hd1 D (upd H4 D (.lst (acc ++ [.ref p])))) (acc ++ [.ref p]) ((rs.take (k + 1)).map fun r => rowD (r ++ [v])) → Q (.ref p) H4) :
    ∀ t, H2 t = none → rCatA K x (.ref t) (upd H2 t (.tup [.int v])) Q := by
  intro t nt
  obtain ⟨r, hr, tx⟩ := tcs.at hx
  obtain ⟨xa, rfl, hxa⟩ := Tk.row_inv tx
  have rl' := rl r (List.mem_of_getElem? hr)
  have st := same_upd (o := HO.tup [V.int v]) nt
  have ntD : t ≠ D := (ne_of_none hD nt).symm
  have sD := hd1_same (p := D) st
  refine catA (st _ _ (hd1_le _ _ (s2 _ _ hxa))) upd_same ?_ fun p H4 s4 h4 => ?_
  · rw [List.length_map]
    exact Nat.le_trans (show _ ≤ 64 by simp only [List.length_cons, List.length_nil]; omega) (by decide)
  have hD4 := s4 _ _ (st _ _ hD)
  have npD : p ≠ D := ne_of h4 hD4 (by intro z; cases z)
  have s4D := hd1_same (p := D) s4
  refine q p H4 hD4 (((s2.trans sD).trans s4D).trans hd1_upd) ?_
  rw [List.take_add_one, hr]
  show TkAll _ _ ((rs.take k ++ [r]).map _)
  rw [List.map_append]
  refine (((ta.same sD).same s4D).same hd1_upd).append (.cons ?_ .nil)
  show Tk _ _ (rowD (r ++ [v]))
  rw [rowD_snoc]
  refine .tup (xs := r.map V.int ++ [.int v]) ?_ ((TkAll.ints _).append (.cons (.int _) .nil))
  rw [hd1_at npD, upd_ne npD]
  exact h4

def adjR : List (List Int) → Bool
  | x :: y :: r => !HT.lexLt y x && adjR (y :: r)
  | _ => true
theorem adjR_srt : ∀ l : List (List Int), adjR l = true → l.Pairwise fun x y => HT.lexLt y x = false
  | [], _ => List.Pairwise.nil
  | [x], _ => List.pairwise_singleton _ _
  | x :: y :: r, h => by
    have h : (!HT.lexLt y x && adjR (y :: r)) = true := h
    rw [Bool.and_eq_true] at h
    have t := adjR_srt (y :: r) h.2
    have hx : HT.lexLt y x = false := by simpa using h.1
    refine List.pairwise_cons.mpr ⟨fun z hz => ?_, t⟩
    rcases List.mem_cons.mp hz with rfl | hz
    · exact hx
    · exact SrtTT.lex_tr _ _ _ hx ((List.pairwise_cons.mp t).1 z hz)

theorem vint_injX : ∀ {a b : List Int}, a.map V.int = b.map V.int → a = b
  | [], [], _ => rfl
  | [], _ :: _, h => by cases h
  | _ :: _, [], h => by cases h
  | x :: r, y :: t, h => by
    have h := List.cons.inj h
    have e : x = y := by injection h.1
    rw [e, vint_injX h.2]
theorem row_uniq {H : Hp} {v : V} {p q : List Int} (h : Tk H v (rowD p)) (h' : Tk H v (rowD q)) : p = q := by
  obtain ⟨a, rfl, ha⟩ := h.row_inv
  obtain ⟨a', e, ha'⟩ := h'.row_inv
  cases e
  rw [ha] at ha'
  have e1 : p.map V.int = q.map V.int := by injection ha' with z; injection z
  exact vint_injX e1
noncomputable def keyR (H : Hp) (v : V) : List Int := Classical.epsilon fun p => Tk H v (rowD p)
theorem keyR_eq {H : Hp} {v : V} {p : List Int} (h : Tk H v (rowD p)) : keyR H v = p := row_uniq (Classical.epsilon_spec (p := fun p => Tk H v (rowD p)) ⟨p, h⟩) h
theorem keysR_eq {H : Hp} : ∀ {xs : List V} {ds : List (List Int)}, TkAll H xs (ds.map rowD) → xs.map (keyR H) = ds
  | [], [], .nil => rfl
  | _ :: _, _ :: _, .cons h t => by rw [List.map_cons, keyR_eq h, keysR_eq t]
theorem keysR_tk {H : Hp} : ∀ {xs : List V}, (∀ x ∈ xs, ∃ p, Tk H x (rowD p)) → TkAll H xs ((xs.map (keyR H)).map rowD)
  | [], _ => .nil
  | x :: r, h => by
    obtain ⟨p, hp⟩ := h x (List.mem_cons_self ..)
    refine .cons ?_ (keysR_tk fun y hy => h y (List.mem_cons_of_mem _ hy))
    rw [keyR_eq hp]
    exact hp
theorem TkAll.memX {H : Hp} {α : Type} {f : α → PyData} {xs : List V} {ds : List α} (t : TkAll H xs (ds.map f)) : ∀ x ∈ xs, ∃ d, d ∈ ds ∧ Tk H x (f d) := fun x hx => by
  obtain ⟨j, hj⟩ := List.getElem?_of_mem hx
  obtain ⟨d, hd, h⟩ := t.at hj
  exact ⟨d, List.mem_of_getElem? hd, h⟩

def rowsU : Nat → List (List Int)
  | 0 => [[]]
  | k + 1 => (rowsU k).map (fun r => (0 : Int) :: r) ++ (rowsU k).map (fun r => (1 : Int) :: r)
theorem perm_rowsU : ((List.range 7).all fun m => (rowsL m).isPerm (rowsU m) && adjR (rowsU m)) = true := by decide +kernel
theorem rows_uniqU {m : Nat} {ys : List (List Int)} (hm : m ≤ 6) (p : ys.Perm (rowsL m)) (s : ys.Pairwise fun x y => HT.lexLt y x = false) : ys = rowsU m := by
  have h := List.all_eq_true.mp perm_rowsU m (List.mem_range.mpr (by omega))
  rw [Bool.and_eq_true] at h
  exact List.Perm.eq_of_pairwise (fun a b _ _ u v => SrtTT.lex_tot _ _ v u) s (adjR_srt _ h.2) (p.trans (List.isPerm_iff.mp h.1))
def sp_rows (K : PySem.W.Frag) : Sp := fun vs H Q _ => ∃ m : Nat, vs = [.int m] ∧ 1 ≤ m ∧ m ≤ 6 ∧ ∀ r H', H r = none → Same H H' → Tk H' (.ref r) (.list ((rowsU m).map rowD)) → Q (.ref r) H'
theorem ok_rows (T : Tx K mg) : FnOk P w K mg base CX0 1 T.f_rows T.fd_rows ["_law_many"] (sp_rows K) := by
  refine T.F_rows.ok sc_rows (fun vs H Q E h => ?_) (fun cdv A outer s H vs Q E hr h => ?_)
  · obtain ⟨m, rfl, _⟩ := h
    rfl
  · obtain ⟨m, rfl, m1, m6, q⟩ := h
    refine ⟨_, (pss_cons (ps_set (i := 1) sc_rows.nd rfl (by first | exact .inl rfl | exact .inr rfl) (pe_lst (pa_cons (pe_tup pa_nil) pa_nil))) (pss_cons (ps_for PassesOwn.never rfl (pi_range1 (by rfl) T.m_range (pa_cons (pv 0) pa_nil)) (pg_name (i := 2) sc_rows.nd rfl (by first | exact .inl rfl | exact .inr rfl)) (pss_one (ps_set (i := 1) sc_rows.nd rfl (by first | exact .inl rfl | exact .inr rfl) (pe_op op_cat (pe_lc (own := [("_law_row", 3)]) (by rfl) sc_rows.nd (pi_list (pv 1)) (blkOk_by (own := [("_law_row", 3)]) (N := ["_law_many", "_law_found", "_law_place", "_law_row"]) (sc := defScope s_rows) (by decide +kernel)) (fun _ _ _ _ _ => (pg_name (i := 3) sc_rows.nd rfl (by first | exact .inl rfl | exact .inr rfl))) (fun _ _ _ _ _ => pts_nil) (fun _ _ _ _ _ => (pe_op (show OpR _ _ (rCatA K) from op_catA) (pv 3) (pe_tup (pa_cons pe_int pa_nil))))) (pe_lc (own := [("_law_row", 3)]) (by rfl) sc_rows.nd (pi_list (pv 1)) (blkOk_by (own := [("_law_row", 3)]) (N := ["_law_many", "_law_found", "_law_place", "_law_row"]) (sc := defScope s_rows) (by decide +kernel)) (fun _ _ _ _ _ => (pg_name (i := 3) sc_rows.nd rfl (by first | exact .inl rfl | exact .inr rfl))) (fun _ _ _ _ _ => pts_nil) (fun _ _ _ _ _ => (pe_op (show OpR _ _ (rCatA K) from op_catA) (pv 3) (pe_tup (pa_cons pe_int pa_nil))))))))) (pss_one (ps_ret (pe_callB (cr_sortedTn (d := m) m1) (by rfl) T.m_sorted (by decide +kernel) (pa_cons (pv 1) pa_nil)))))), ?_⟩
    refine ⟨Nat.zero_le _, fun t0 n0 => ⟨sl1, fun c0 nc0 => ?_⟩⟩
    refine ⟨.int m, rfl, (m : Int), rfl, by omega, by omega, ?_⟩
    refine for_range (lo := 0) (n := (m : Int).toNat) (fun i σ H' => ∃ ca y2 y3, σ = [some (.int m), some (.ref ca), y2, y3] ∧ Same H H' ∧ Tk H' (.ref ca) (.list ((rowsL i).map rowD)))
      ⟨c0, _, _, rfl, (same_upd n0).trans (same_upd nc0), .lst upd_same (.cons (.tup (same_upd nc0 _ _ upd_same) .nil) .nil)⟩ ?_ ?_
    · rintro i σ H1 hi ⟨ca, y2, y3, rfl, s1, tc⟩
      have hi' : i < m := by simpa using hi
      obtain ⟨ca', cs, e, hca, tcs⟩ := tc.lst_inv
      cases e
      have big : (rowsL i).length ≤ 64 := by
        rw [rowsL_len]
        exact Nat.pow_le_pow_right (by decide) (show i ≤ 6 by omega)
      have rl : ∀ r ∈ rowsL i, r.length ≤ 8 := fun r hr => by
        have := (rowsL_ok i r hr).1
        omega
      have lcs : cs.length = (rowsL i).length := by rw [tcs.length, List.length_map]
      refine ⟨.ref ca, rfl, ca, rfl, ⟨_, SqL.of hca⟩, fun D nD => ?_⟩
      refine lc_list (K := K) (a := ca) (xs := cs) (fun k H' => Same H1 (hd1 D H') ∧ ∃ acc, H' D = some (.lst acc) ∧ TkAll (hd1 D H') acc (((rowsL i).take k).map fun r => rowD (r ++ [0]))) ⟨hd1_of (same_upd nD) nD, [], upd_same, .nil⟩ (fun k H' _ z => SqL.of (hd1_le _ _ (z.1 _ _ hca))) ?_ ?_
      · rintro k x H2 hx ⟨s2, acc, hD, ta⟩
        refine ⟨rfl, x, rfl, sl1, more_step 0 hca tcs rl big hx s2 hD ta _ fun p H4 h4 sm tk => ⟨acc, h4, ?_, sm, _, upd_same, tk⟩⟩
        have := ta.length
        rw [List.length_map, List.length_take] at this
        exact Nat.lt_of_lt_of_le (show _ < 128 by omega) (by decide)
      · rintro H2 ⟨s2, acc, hD, ta⟩
        rw [lcs, List.take_length] at ta
        have s12 : Same H1 H2 := fun b o e => hd1_le _ _ (s2 _ _ e)
        have ta2 := ta.same hd1_le
        refine ⟨.ref ca, rfl, ca, rfl, ⟨_, SqL.of (s12 _ _ hca)⟩, fun E' nE => ?_⟩
        refine lc_list (K := K) (a := ca) (xs := cs) (fun k H' => Same H2 (hd1 E' H') ∧ ∃ acc, H' E' = some (.lst acc) ∧ TkAll (hd1 E' H') acc (((rowsL i).take k).map fun r => rowD (r ++ [1]))) ⟨hd1_of (same_upd nE) nE, [], upd_same, .nil⟩ (fun k H' _ z => SqL.of (hd1_le _ _ (z.1 _ _ (s12 _ _ hca)))) ?_ ?_
        · rintro k x H3 hx ⟨s3, acc3, hE, ta3⟩
          refine ⟨rfl, x, rfl, sl1, more_step 1 (s12 _ _ hca) (tcs.same s12) rl big hx s3 hE ta3 _ fun p H4 h4 sm tk => ⟨acc3, h4, ?_, sm, _, upd_same, tk⟩⟩
          have := ta3.length
          rw [List.length_map, List.length_take] at this
          exact Nat.lt_of_lt_of_le (show _ < 128 by omega) (by decide)
        · rintro H3 ⟨s3, acc3, hE, ta3⟩
          rw [lcs, List.take_length] at ta3
          have s23 : Same H2 H3 := fun b o e => hd1_le _ _ (s3 _ _ e)
          have ta4 := ta3.same hd1_le
          refine ⟨D, E', _, _, rfl, rfl, s23 _ _ hD, hE, ?_, fun F nF => ?_⟩
          · have := ta.length
            have := ta3.length
            rw [List.length_map] at *
            exact Nat.le_trans (show _ ≤ 256 by omega) (by decide)
          have s4 := same_upd (o := HO.lst (acc ++ acc3)) nF
          refine ⟨F, _, _, rfl, ((s1.trans s12).trans s23).trans s4, .lst upd_same ?_⟩
          show TkAll _ _ ((rowsL (i + 1)).map rowD)
          unfold rowsL
          rw [List.map_append, List.map_map, List.map_map]
          exact ((ta2.same s23).same s4).append (ta4.same s4)
    · rintro σ H1 ⟨ca, y2, y3, rfl, s1, tc⟩
      rw [show (m : Int).toNat = m by omega] at tc
      obtain ⟨_, xs, e, hca, txs⟩ := tc.lst_inv
      cases e
      refine ⟨.ref ca, rfl, ca, xs, keyR H1, rfl, SqL.of hca, fun x hx => ?_, fun ys p hs hp np => ?_⟩
      · obtain ⟨d, hd, td⟩ := txs.memX x hx
        obtain ⟨t, rfl, ht⟩ := td.row_inv
        rw [keyR_eq td]
        exact ⟨t, rfl, SqT.of ht, (rowsL_ok m d hd).1⟩
      have tys : TkAll H1 ys ((ys.map (keyR H1)).map rowD) := keysR_tk fun x hx => by
        obtain ⟨d, _, td⟩ := txs.memX x (hp.mem_iff.mp hx)
        exact ⟨d, td⟩
      have ek : ys.map (keyR H1) = rowsU m := rows_uniqU m6 (by have := hp.map (keyR H1); rw [keysR_eq txs] at this; exact this) (List.pairwise_map.mpr hs)
      rw [ek] at tys
      have sp := same_upd (o := HO.lst ys) np
      have np0 : H p = none := by
        cases z : H p with
        | none => rfl
        | some o => rw [s1 _ _ z] at np; cases np
      exact q p _ np0 (s1.trans sp) (.lst upd_same (tys.same sp))

end
end Gk

set_option Elab.async false
set_option linter.all false
set_option maxRecDepth 100000
set_option maxHeartbeats 1000000
set_option pp.maxSteps 1500
set_option pp.deepTerms false
namespace Gk
open PySem PySem.Spec PyProof.Rows L2
/-! ### sum of a tuple of ints -/
namespace SmTi
open PySem PyProof.Rows
theorem raw {prog : Program} {w : World} {A : Around} {E : Value → Shared → Prop} {s : Shared} {l : Addr} {its : List Value} {ns : List Int} {Q : Value → Shared → Prop} (hh : A.handled = none) (ist : s.heap.IsTuple l its.toArray) (are : IntsAre its ns)
    (fin : ∀ g tk t, (∀ b o, s.heap.get? b = some o → g.get? b = some o) → Q (.int ns.sum t) { s with heap := g, toks := tk }) :
    wpAny (model prog w) A (call (.builtin "sum") [.ref l]) Q E s := by
  obtain ⟨xs, e⟩ := are.allInts.items
  have hn : numsOf (intItems xs).toList = ns := by rw [← e]; exact are.numsOf
  rw [nums_intItems] at hn
  rw [e] at ist
  have lt : l < s.heap.objs.size := by obtain ⟨_, h, _⟩ := ist; exact Heap.lt_size h
  refine PySem.call_sum_walkG (wpAny_pyIter_tuple ist ?_)
  refine ⟨s.heap.objs.size, [s.heap.objs.size, l], [s.heap.objs.size], (intItems xs).size, _, _, numAt xs, rfl, Walks.tuple (A := A.in1) hh _ l (Nat.ne_of_lt lt) (intItems xs), ⟨⟨_, Heap.get?_push_size _ rfl, rfl, rfl⟩, ist.push _⟩, fun b hb => ?_, fun i v h => intItems_at h, fun g tk t keep => ?_⟩
  · show b < (s.heap.push _).objs.size
    rw [Heap.size_push]
    have : b = s.heap.objs.size ∨ b = l := by simpa using hb
    rcases this with z | z
    · rw [z]; exact Nat.lt_succ_self _
    · rw [z]; exact Nat.lt_succ_of_lt lt
  · have k := fin g tk t fun b o eb => keep b o (by simp; exact Nat.ne_of_lt (Heap.lt_size eb)) (Heap.get?_push_of_some _ eb)
    rw [preSum_eq, List.take_of_length_le (by simp [intItems]), hn]
    exact k
end SmTi
def rSumTi (K : PySem.W.Frag) : List V → Hp → VK → Prop := fun vs H Q => ∃ (a : Addr) (ns : List Int), vs = [V.ref a] ∧ SqT K H a (ns.map V.int) ∧ Q (.int ns.sum) H
theorem cr_sumTi {X : Cx} (hc : X.calm = true) : CallR X (.builtin "sum") (rSumTi X.K) := by
  intro pins s σ H vs us Q I r h
  obtain ⟨a, ns, rfl, hs, q⟩ := h
  obtain rfl := Vals.ref1 r
  obtain ⟨its, rv, hl, _⟩ := I.tuple hs
  exact SmTi.raw (I.ok.hd hc) hl rv.ints fun g tk t' hk => ⟨.int _, H, I.kept hk, ⟨_, rfl⟩, q⟩

end Gk

set_option Elab.async false
set_option linter.all false
set_option maxRecDepth 100000
set_option maxHeartbeats 1000000
set_option pp.maxSteps 1500
set_option pp.deepTerms false
namespace Gk
open PySem PySem.Spec PyProof.Rows L2
section
variable {P : Program} {w : World} {K : PySem.W.Frag} {mg : Str → Option Value} {base : Heap}
/-! ### a table drawn -/
def pVs (ps : List (List Nat)) : List V := ps.map fun p => V.str (SX.S p)
def CovOk (m : Nat) (ps : List (List Nat)) : Prop := ∀ p ∈ ps, ProdOk m p
theorem pV_at {ps : List (List Nat)} {j : Nat} {v : V} (h : (pVs ps)[j]? = some v) : ∃ p, ps[j]? = some p ∧ v = V.str (SX.S p) := by
  unfold pVs at h
  rw [List.getElem?_map] at h
  obtain ⟨p, hp, e⟩ := Option.map_eq_some_iff.mp h
  exact ⟨p, hp, e.symm⟩
theorem none_of_frG {d l p : Addr} {H H' : Hp} {n : Int} (f : Fr d l H H') (D : DeckG H' d l n) (h : H' p = none) : H p = none := by
  have o := D.off h
  cases z : H p with
  | none => rfl
  | some u => rw [f _ _ o.1 o.2 z] at h; cases h
theorem Fr.upd {d l p : Addr} {H H' : Hp} {o : HO} (f : Fr d l H H') (h : H p = none) : Fr d l H (upd H' p o) := fun b u h1 h2 e => by
  rw [upd_ne (ne_of_none e h)]
  exact f b u h1 h2 e
theorem Ts.frG {H H' : Hp} {d l : Addr} {n : Int} (D : DeckG H d l n) (f : Fr d l H H') : Ts H H' := fun b xs e => by
  obtain ⟨ne, cs, z, y, hd, hl, r⟩ := D
  exact f b _ (ne_of e hd (by intro z; cases z)) (ne_of e hl (by intro z; cases z)) e
theorem for_enumL {K : PySem.W.Frag} {a : Addr} {xs : List V} {g : TG} {tb : TS} {D : Ends} {σ : L2.St} {H : Hp} (Pv : Nat → L2.St → Hp → Prop) (h0 : Pv 0 σ H) (hl : ∀ i σ H, i ≤ xs.length → Pv i σ H → SqL K H a xs)
    (hs : ∀ (i : Nat) (x : V) (T : Addr) (σ : L2.St) (H : Hp), xs[i]? = some x → H T = none → Pv i σ H → g (.ref T) σ (upd H T (.tup [.int (i : Nat), x])) fun σ2 H2 => tb { D with nx := Pv (i + 1), ct := Pv (i + 1), bk := D.nx } σ2 H2) (hd : ∀ σ H, Pv xs.length σ H → D.nx σ H) :
    ∃ W : Nat → Nat → L2.St → Hp → Prop, (∃ m, W 0 m σ H) ∧ ∀ i m σ H, W i m σ H →
      ((Ite K a).stop i H ∧ D.nx σ H) ∨ ((Ite K a).go i H ∧ ∃ N : L2.St → Hp → Prop, (∀ σ' H', N σ' H' → ∃ m', m' < m ∧ W (i + 1) m' σ' H') ∧ ∀ x H', (Ite K a).yld i H x H' → g x σ H' fun σ2 H2 => tb { D with nx := N, ct := N, bk := D.nx } σ2 H2) := by
  refine ⟨fun i m σ H => m = xs.length - i ∧ i ≤ xs.length ∧ Pv i σ H, ⟨xs.length, rfl, Nat.zero_le _, h0⟩, ?_⟩
  rintro i m σ H ⟨rfl, hi, p⟩
  have q := hl i σ H hi p
  by_cases hlt : i < xs.length
  · have hx : xs[i]? = some xs[i] := List.getElem?_eq_getElem hlt
    refine .inr ⟨⟨xs, xs[i], q, hx⟩, Pv (i + 1), fun σ' H' p' => ⟨xs.length - (i + 1), by omega, rfl, hlt, p'⟩, fun x H' y => ?_⟩
    obtain ⟨T, x1, rfl, nT, rfl, e1⟩ := y
    exact hs i x1 T σ H (e1 xs q) nT p
  · have e : i = xs.length := by omega
    subst e
    exact .inl ⟨⟨xs, q, Nat.le_refl _⟩, hd σ H p⟩
theorem rowsU_len : ∀ k, (rowsU k).length = 2 ^ k
  | 0 => rfl
  | k + 1 => by
    unfold rowsU
    rw [List.length_append, List.length_map, List.length_map, rowsU_len k, Nat.pow_succ]
    omega
theorem rowsU_ok : ∀ k, ∀ r ∈ rowsU k, r.length = k ∧ Row01' r
  | 0, r, h => by
    rw [List.mem_singleton.mp h]
    exact ⟨rfl, fun x hx => by cases hx⟩
  | k + 1, r, h => by
    unfold rowsU at h
    rcases List.mem_append.mp h with h | h
    · obtain ⟨q, hq, rfl⟩ := List.mem_map.mp h
      have ih := rowsU_ok k q hq
      refine ⟨by rw [List.length_cons, ih.1], fun x hx => ?_⟩
      rcases List.mem_cons.mp hx with z | z
      · exact .inl z
      · exact ih.2 x z
    · obtain ⟨q, hq, rfl⟩ := List.mem_map.mp h
      have ih := rowsU_ok k q hq
      refine ⟨by rw [List.length_cons, ih.1], fun x hx => ?_⟩
      rcases List.mem_cons.mp hx with z | z
      · exact .inr z
      · exact ih.2 x z
theorem pick7 {w a b c d e f g : Int} (w0 : 0 ≤ w) (w1 : w < 7) (h : ∀ x ∈ [a, b, c, d, e, f, g], x = 0 ∨ x = 1) : ∃ x : Int, atI [V.int a, V.int b, V.int c, V.int d, V.int e, V.int f, V.int g] w = some (.int x) ∧ (x = 0 ∨ x = 1) := by
  have : w = 0 ∨ w = 1 ∨ w = 2 ∨ w = 3 ∨ w = 4 ∨ w = 5 ∨ w = 6 := by omega
  rcases this with rfl | rfl | rfl | rfl | rfl | rfl | rfl
  · exact ⟨a, rfl, h a (by simp)⟩
  · exact ⟨b, rfl, h b (by simp)⟩
  · exact ⟨c, rfl, h c (by simp)⟩
  · exact ⟨d, rfl, h d (by simp)⟩
  · exact ⟨e, rfl, h e (by simp)⟩
  · exact ⟨f, rfl, h f (by simp)⟩
  · exact ⟨g, rfl, h g (by simp)⟩

end
end Gk

set_option Elab.async false
set_option linter.all false
set_option maxRecDepth 100000
set_option maxHeartbeats 1000000
set_option pp.maxSteps 1500
set_option pp.deepTerms false
namespace Gk
open PySem PySem.Spec PyProof.Rows L2
section
variable {P : Program} {w : World} {K : PySem.W.Frag} {mg : Str → Option Value} {base : Heap}
theorem dpStrs {H : Hp} : ∀ ps : List (List Nat), DpAll K H (pVs ps) (ps.map fun p => PyData.str (SX.S p))
  | [] => .nil
  | p :: r => .cons (.str _) (dpStrs r)
theorem strOk_S {p : List Nat} (h : ∀ c ∈ p, SgOk c) : PyData.canLay0 (.str (SX.S p)) = true := by
  simp only [PyData.canLay0, PyData.strOk]
  rw [Array.all_eq_true_iff_forall_mem]
  intro c hc
  have : c ∈ p := by
    simpa using hc
  refine decide_eq_true ?_
  rcases h c this with rfl | rfl | rfl <;> decide
theorem lay_strs {m : Nat} : ∀ ps : List (List Nat), CovOk m ps → PyData.canLayAll0 (ps.map fun p => PyData.str (SX.S p)) = true
  | [], _ => rfl
  | p :: r, h => by
    have := lay_strs r fun q hq => h q (List.mem_cons_of_mem _ hq)
    show (PyData.canLay0 (.str (SX.S p)) && PyData.canLayAll0 (r.map fun p => PyData.str (SX.S p))) = true
    rw [this, Bool.and_true]
    exact strOk_S (h p (List.mem_cons_self ..)).2
theorem depth_strs : ∀ ps : List (List Nat), PyData.depthAll (ps.map fun p => PyData.str (SX.S p)) ≤ 1
  | [] => Nat.zero_le _
  | p :: r => by
    rw [List.map_cons]
    unfold PyData.depthAll
    have := depth_strs r
    have e : (PyData.str (SX.S p)).depth = 0 := rfl
    rw [e]
    omega
theorem sh_strsL {m : Nat} {ps : List (List Nat)} (h : CovOk m ps) : SeqAt.shaped (.list (ps.map fun p => PyData.str (SX.S p))) = true := by
  unfold SeqAt.shaped
  rw [Bool.and_eq_true]
  refine ⟨?_, decide_eq_true ?_⟩
  · simp only [PyData.canLay0, lay_strs ps h]
  · have := depth_strs ps
    simp only [PyData.depth]
    omega
theorem ne_strs (ps : List (List Nat)) : (!PyData.eqv (.list (ps.map fun p => PyData.str (SX.S p))) (.list [])) = !ps.isEmpty := by cases ps <;> rfl

def sp_table (K : PySem.W.Frag) : Sp := fun vs H Q _ => ∃ (d l : Addr) (n : Int) (m : Nat), vs = [.ref d, .int m] ∧ DeckG H d l n ∧ n < 800000000 ∧ 1 ≤ m ∧ m ≤ 6 ∧ ∀ (bs : List Bool) (H' : Hp), DeckG H' d l (n + 300) → Fr d l H H' → bs.length = 2 ^ m → Q (.str (tabOf bs)) H'
theorem tab_app (bs : List Bool) (b : Bool) : tabOf bs ++ one (if b = true then 49 else 48) = tabOf (bs ++ [b]) := by
  show (⟨(bs.map fun b => if b = true then 49 else 48).toArray ++ [if b = true then 49 else 48].toArray⟩ : Str) = ⟨((bs ++ [b]).map fun b => if b = true then 49 else 48).toArray⟩
  congr 1
  simp
theorem ok_table (T : Tx K mg) : FnOk P w K mg base CX0 3 T.f_table T.fd_table ["_law_deck_here", "_law_many"] (sp_table K) := by
  refine T.F_table.ok sc_table (fun vs H Q E h => ?_) (fun cdv A outer s H vs Q E hr h => ?_)
  · obtain ⟨d, l, n, m, rfl, _⟩ := h
    rfl
  · obtain ⟨d, l, n, m, rfl, D, hn, m1, m6, q⟩ := h
    refine ⟨_, (pss_cons (ps_set (i := 2) sc_table.nd rfl (by first | exact .inl rfl | exact .inr rfl) (pe_call (ok_next T) (hr.mono (by decide)) (by rfl) T.g_next T.F_next.kp T.b_next .nil pass0 (pa_cons (pv 0) (pa_cons pe_int pa_nil)))) (pss_cons (ps_setLc (i := 3) (own := [("_law_k", 7)]) (by rfl) sc_table.nd rfl rfl (sw_true rfl rfl rfl (by decide +kernel)) (pi_range1 (by rfl) T.m_range (pa_cons (pe_op op_add pe_int (pe_call (ok_next T) (hr.mono (by decide)) (by rfl) T.g_next T.F_next.kp T.b_next .nil pass0 (pa_cons (pv 0) (pa_cons pe_int pa_nil)))) pa_nil)) (blkOk_by (own := [("_law_k", 7)]) (N := ["_law_deck_here", "_law_many", "_law_way", "_law_products", "_law_rows_here", "_law_odd_here", "_law_table_here", "_law_k", "_law_row", "_law_worth_here", "_law_one"]) (sc := defScope s_table) (by decide +kernel)) (fun _ _ _ _ _ => (pg_name (i := 7) sc_table.nd rfl (by first | exact .inl rfl | exact .inr rfl))) (fun _ _ _ _ _ => pts_nil) (fun _ _ _ _ _ => (pe_call (ok_product T) (hr.mono (by decide)) (by rfl) T.g_product T.F_product.kp T.b_product .nil pass0 (pa_cons (pv 0) (pa_cons (pv 1) pa_nil))))) (pss_cons (ps_set (i := 4) sc_table.nd rfl (by first | exact .inl rfl | exact .inr rfl) (pe_call (ok_rows T) (hr.mono (by decide)) (by rfl) T.g_rows T.F_rows.kp T.b_rows .nil pass0 (pa_cons (pv 1) pa_nil))) (pss_cons (ps_set (i := 5) sc_table.nd rfl (by first | exact .inl rfl | exact .inr rfl) (pe_call (ok_next T) (hr.mono (by decide)) (by rfl) T.g_next T.F_next.kp T.b_next .nil pass0 (pa_cons (pv 0) (pa_cons (pe_callB call_len_seq (by rfl) T.m_len PySem.boot_len (pa_cons (pv 4) pa_nil)) pa_nil)))) (pss_cons (ps_set (i := 6) sc_table.nd rfl (by first | exact .inl rfl | exact .inr rfl) pe_str) (pss_cons (ps_for PassesOwn.never rfl (pi_enum (by rfl) T.m_enumerate (pa_cons (pv 4) pa_nil)) (pg_tup rfl (pgs_cons (pg_name (i := 7) sc_table.nd rfl (by first | exact .inl rfl | exact .inr rfl)) (pgs_cons (pg_name (i := 8) sc_table.nd rfl (by first | exact .inl rfl | exact .inr rfl)) pgs_nil))) (pss_cons (ps_set (i := 9) sc_table.nd rfl (by first | exact .inl rfl | exact .inr rfl) (pe_lst (pa_cons (pe_call (ok_next T) (hr.mono (by decide)) (by rfl) T.g_next T.F_next.kp T.b_next .nil pass0 (pa_cons (pv 0) (pa_cons pe_int pa_nil))) (pa_cons (pe_callTy call_int1 (by rfl) T.m_int (by decide +kernel) (pa_cons (pe_cmpR (op_neD hr.units) (pe_lc (own := [("_law_one", 10)]) (by rfl) sc_table.nd (pi_list (pv 3)) (blkOk_by (own := [("_law_one", 10)]) (N := ["_law_deck_here", "_law_many", "_law_way", "_law_products", "_law_rows_here", "_law_odd_here", "_law_table_here", "_law_k", "_law_row", "_law_worth_here", "_law_one"]) (sc := defScope s_table) (by decide +kernel)) (fun _ _ _ _ _ => (pg_name (i := 10) sc_table.nd rfl (by first | exact .inl rfl | exact .inr rfl))) (fun _ _ _ _ _ => (pts_one (pt_val (pe_call (ok_holds T) (hr.mono (by decide)) (by rfl) T.g_holds T.F_holds.kp T.b_holds .nil pass0 (pa_cons (pv 10) (pa_cons (pv 8) pa_nil)))))) (fun _ _ _ _ _ => (pv 10))) (pe_lst pa_nil) (nomark _)) pa_nil)) (pa_cons (pe_op op_mod (pe_callB (cr_sumTi rfl) (by rfl) T.m_sum (by decide +kernel) (pa_cons (pv 8) pa_nil)) pe_int) pa_nil))))) (pss_cons (ps_set (i := 9) sc_table.nd rfl (by first | exact .inl rfl | exact .inr rfl) (pe_op op_cat (pv 9) (pe_lst (pa_cons (pe_callTy call_int1 (by rfl) T.m_int (by decide +kernel) (pa_cons (pe_cmpR op_gt (pe_call (ok_next T) (hr.mono (by decide)) (by rfl) T.g_next T.F_next.kp T.b_next .nil pass0 (pa_cons (pv 0) (pa_cons pe_int pa_nil))) pe_int (nomark _)) pa_nil)) (pa_cons (pe_callTy call_int1 (by rfl) T.m_int (by decide +kernel) (pa_cons (pe_cmpR op_eq (pe_call (ok_next T) (hr.mono (by decide)) (by rfl) T.g_next T.F_next.kp T.b_next .nil pass0 (pa_cons (pv 0) (pa_cons pe_int pa_nil))) pe_int (nomark _)) pa_nil)) (pa_cons (pe_callTy call_int1 (by rfl) T.m_int (by decide +kernel) (pa_cons (pe_cmpR op_ne (pv 7) (pv 5) (nomark _)) pa_nil)) pa_nil)))))) (pss_cons (ps_expr (pe_bm PySem.F.plainAttrs_list PySem.F.slot_list_append PySem.F.type_list_append mt_append (pv 9) (pa_cons (pe_callTy call_int1 (by rfl) T.m_int (by decide +kernel) (pa_cons (pe_cmpR op_gt (pe_op op_mul pe_int (pe_callB (cr_sumTi rfl) (by rfl) T.m_sum (by decide +kernel) (pa_cons (pv 8) pa_nil))) (pv 1) (nomark _)) pa_nil)) pa_nil))) (pss_one (ps_set (i := 6) sc_table.nd rfl (by first | exact .inl rfl | exact .inr rfl) (pe_op op_add_str (pv 6) (pe_callTy call_str_int (by rfl) T.m_str (by decide +kernel) (pa_cons (pe_ix ix_list (pv 9) (pv 2) (fun _ _ => rfl)) pa_nil))))))))) (pss_one (ps_ret (pv 6))))))))), ?_⟩
    refine ⟨.ref d, rfl, d, l, 7, _, rfl, D, by omega, by decide, by decide, fun H1 way D1 fr1 w0 w1 => ?_⟩
    refine ⟨.ref d, rfl, d, l, 4, _, rfl, D1, by omega, by decide, by decide, fun H2 c D2 fr2 c0 c1 => ?_⟩
    refine ⟨_, _, rfl, rfl, 1 + c, rfl, by omega, by omega, fun L nL => ?_⟩
    have fr02 := fr1.trans fr2
    have oL := D2.off nL
    have nL0 := none_of_frG fr02 D2 nL
    refine lc_range (lo := 0) (n := (1 + c).toNat) (fun j H' => DeckG H' d l (n + 2 + 13 * j) ∧ Fr d l H H' ∧ ∃ ps, H' L = some (.lst (pVs ps)) ∧ ps.length = j ∧ CovOk m ps) ⟨(D2.same (same_upd nL)).mono (by omega), fr02.trans (Fr.new nL), [], upd_same, rfl, fun p hp => by cases hp⟩ ?_ ?_
    · rintro j H3 hj ⟨D3, fr3, ps, hL, lps, okp⟩
      have hj' : j < 4 := by omega
      refine ⟨rfl, .ref d, rfl, .int m, rfl, d, l, _, m, rfl, D3, by omega, m6, fun p H4 D4 fr4 op => ?_⟩
      refine ⟨_, fr4 _ _ oL.1 oL.2 hL, ?_, (D4.upd oL.1 oL.2).mono (by push_cast; omega), Fr.upd (fr3.trans fr4) nL0, ps ++ [p], ?_, by rw [List.length_append, lps]; rfl, fun r hr => ?_⟩
      · unfold pVs
        rw [List.length_map]
        exact Nat.lt_of_lt_of_le (show _ < 64 by omega) (by decide)
      · rw [upd_same]
        unfold pVs
        rw [List.map_append]
        rfl
      · rcases List.mem_append.mp hr with h | h
        · exact okp r h
        · rw [List.mem_singleton.mp h]; exact op
    rintro H3 ⟨D3, fr3, ps, hL, lps, okp⟩
    have lp4 : ps.length ≤ 4 := by omega
    replace D3 : DeckG H3 d l (n + 60) := D3.mono (by omega)
    refine ⟨.int m, rfl, m, rfl, m1, m6, fun ca H4 nca s4 tc => ?_⟩
    have D4 := D3.same s4
    have fr4 := fr3.trans (Fr.of s4)
    have hL4 := s4 _ _ hL
    obtain ⟨_, cs, e, hca, tcs⟩ := tc.lst_inv
    cases e
    have lcs : cs.length = 2 ^ m := by rw [tcs.length, List.length_map, rowsU_len]
    have l64 : 2 ^ m ≤ 64 := Nat.pow_le_pow_right (by decide) m6
    have lpos : 1 ≤ 2 ^ m := Nat.one_le_two_pow
    refine ⟨.ref d, rfl, .ref ca, rfl, ca, _, rfl, .inl (SqL.of hca), ?_⟩
    rw [lcs]
    refine ⟨d, l, _, _, rfl, D4, by omega, by omega, by omega, fun H5 od D5 fr5 o0 o1 => ?_⟩
    have oca := D3.off nca
    have hca5 := fr5 _ _ oca.1 oca.2 hca
    have tcs5 : TkAll H5 cs ((rowsU m).map rowD) := tcs.ts (Ts.frG D4 fr5) (noLs_map (fun r => noL_row r) _)
    have fr05 := fr4.trans fr5
    have hL5 := fr5 _ _ oL.1 oL.2 hL4
    have hLca : L ≠ ca := ne_of_none hL nca
    refine ⟨.ref ca, rfl, ca, _, rfl, SqL.of hca5, ?_⟩
    refine for_enumL (K := K) (a := ca) (xs := cs) (fun k σ H' => ∃ (bs : List Bool) (y7 y8 y9 : Option V), σ = [some (.ref d), some (.int m), some (.int way), some (.ref L), some (.ref ca), some (.int od), some (.str (tabOf bs)), y7, y8, y9, none] ∧ DeckG H' d l (n + 62 + 3 * k) ∧ Fr d l H H' ∧ bs.length = k ∧ H' L = some (.lst (pVs ps)) ∧ H' ca = some (.lst cs) ∧ TkAll H' cs ((rowsU m).map rowD))
      ⟨[], _, _, _, by rw [show Str.ofString "" = tabOf [] from by decide +kernel]; rfl, D5.mono (by omega), fr05, rfl, hL5, hca5, tcs5⟩ (fun k σ H' _ ⟨_, _, _, _, _, _, _, _, _, h, _⟩ => SqL.of h) ?_ ?_
    · rintro k x Tq σ H6 hx nT ⟨bs, y7, y8, y9, rfl, D6, fr6, lbs, hL6, hca6, tcs6⟩
      have hk : k < 64 := by
        have := (List.getElem?_eq_some_iff.mp hx).1
        omega
      obtain ⟨r, hr', tx⟩ := tcs6.at hx
      obtain ⟨ra, rfl, hra⟩ := Tk.row_inv tx
      have okr := rowsU_ok m r (List.mem_of_getElem? hr')
      have sT := same_upd (o := HO.tup [.int (k : Nat), .ref ra]) nT
      refine ⟨Tq, _, rfl, SqT.of upd_same, rfl, _, _, rfl, _, _, rfl, rfl, ?_⟩
      have D7 := D6.same sT
      have fr7 := fr6.trans (Fr.of sT)
      have hL7 := sT _ _ hL6
      have hca7 := sT _ _ hca6
      have tcs7 := tcs6.same sT
      have hra7 := sT _ _ hra
      show tSeq _ _ _ _ (upd H6 Tq (.tup [.int (k : Nat), .ref ra]))
      revert D7 fr7 hL7 hca7 tcs7 hra7
      generalize upd H6 Tq (.tup [.int (k : Nat), .ref ra]) = H7
      intro D7 fr7 hL7 hca7 tcs7 hra7
      refine ⟨.ref d, rfl, d, l, 2, _, rfl, D7, by omega, by decide, by decide, fun H8 v D8 fr8 v0 v1 => ?_⟩
      have hL8 := fr8 _ _ oL.1 oL.2 hL7
      have hca8 := fr8 _ _ oca.1 oca.2 hca7
      have ts8 := Ts.frG D7 fr8
      have tcs8 := tcs7.ts ts8 (noLs_map (fun r => noL_row r) _)
      have hra8 := ts8 _ _ hra7
      have fr08 := fr7.trans fr8
      refine ⟨.ref L, rfl, L, rfl, ⟨_, SqL.of hL8⟩, fun M nM => ?_⟩
      refine lc_list (K := K) (a := L) (xs := pVs ps) (fun j H' => Same H8 (hd1 M H') ∧ ∃ fs : List (List Nat), H' M = some (.lst (pVs fs)) ∧ fs.length ≤ j ∧ CovOk m fs) ⟨hd1_of (same_upd nM) nM, [], upd_same, Nat.le_refl _, fun p hp => by cases hp⟩ (fun j H' _ z => SqL.of (hd1_le _ _ (z.1 _ _ hL8))) ?_ ?_
      · rintro j x H9 hx ⟨s9, fs, hM, lfs, okf⟩
        obtain ⟨p, hp, rfl⟩ := pV_at hx
        have op := okp p (List.mem_of_getElem? hp)
        have hjl : j < 4 := by
          have := (List.getElem?_eq_some_iff.mp hp).1
          omega
        refine ⟨rfl, .str (SX.S p), rfl, .ref ra, rfl, m, p, ra, r, rfl, op.1, hd1_le _ _ (s9 _ _ hra8), okr.2, okr.1, m6, fun H10 s10 => ⟨_, rfl, ite2 (fun _ => ?_) (fun _ => ?_)⟩⟩
        · refine ⟨.str (SX.S p), rfl, _, s10 _ _ hM, ?_, (s9.trans (hd1_same s10)).trans hd1_upd, fs ++ [p], ?_, by rw [List.length_append]; exact Nat.succ_le_succ lfs, fun z hz => ?_⟩
          · unfold pVs
            rw [List.length_map]
            exact Nat.lt_of_lt_of_le (show _ < 64 by omega) (by decide)
          · rw [upd_same]
            unfold pVs
            rw [List.map_append]
            rfl
          · rcases List.mem_append.mp hz with h | h
            · exact okf z h
            · rw [List.mem_singleton.mp h]; exact op
        · exact ⟨s9.trans (hd1_same s10), fs, s10 _ _ hM, by omega, okf⟩
      rintro H9 ⟨s9, fs, hM, lfs, okf⟩
      have s89 : Same H8 H9 := fun b o e => hd1_le _ _ (s9 _ _ e)
      refine ⟨Nat.zero_le _, fun e ne => ?_⟩
      have s10 := same_upd (o := HO.lst []) ne
      refine ⟨.list (fs.map fun p => .str (SX.S p)), .list [], .lst (SqL.of (s10 _ _ hM)) (dpStrs fs), .lst (SqL.of upd_same) .nil, sh_strsL okf, rfl, .inr ⟨_, rfl, ?_⟩⟩
      have b01 : ∀ z : Bool, (if z = true then (1 : Int) else 0) = 0 ∨ (if z = true then (1 : Int) else 0) = 1 := fun z => by cases z <;> simp
      have s8A := s89.trans s10
      have DA := D8.same s8A
      have frA := fr08.trans (Fr.of s8A)
      have hLA := s8A _ _ hL8
      have hcaA := s8A _ _ hca8
      have tcsA := tcs8.same s8A
      have hraA := s8A _ _ hra8
      generalize upd H9 e (.lst []) = HA at DA frA hLA hcaA tcsA hraA ⊢
      have p2 : (0 : Int) < 2 := by decide
      refine ⟨.ref ra, rfl, ra, r, rfl, SqT.of hraA, _, _, rfl, rfl, p2, sl3, fun w1' nw1 => ?_⟩
      have ow1 := DA.off nw1
      have x2 : r.sum % 2 = 0 ∨ r.sum % 2 = 1 := by omega
      have xb := b01 (!PyData.eqv (.list (fs.map fun p => .str (SX.S p))) (.list []))
      dsimp only
      revert x2 xb
      generalize r.sum % 2 = x2v
      generalize (if (!PyData.eqv (.list (fs.map fun p => .str (SX.S p))) (.list [])) = true then (1 : Int) else 0) = xbv
      intro x2 xb
      have sB := same_upd (o := (HO.lst [V.int v, V.int xbv, V.int x2v])) nw1
      have hw1 : upd HA w1' (HO.lst [V.int v, V.int xbv, V.int x2v]) w1' = some (HO.lst [V.int v, V.int xbv, V.int x2v]) := upd_same
      generalize upd HA w1' (HO.lst [V.int v, V.int xbv, V.int x2v]) = HB at sB hw1 ⊢
      have DB := DA.same sB
      refine ⟨.ref w1', rfl, .ref d, rfl, d, l, 6, _, rfl, DB, by omega, by decide, by decide, fun HC u1 DC frC u10 u11 => ?_⟩
      refine ⟨_, _, rfl, rfl, .inr ⟨_, rfl, .ref d, rfl, d, l, 6, _, rfl, DC, by omega, by decide, by decide, fun HD u2 DD frD u20 u21 => ?_⟩⟩
      have frBD := frC.trans frD
      have tsD := (Ts.same sB).trans ((Ts.frG DB frC).trans (Ts.frG DC frD))
      have hwD := frBD _ _ ow1.1 ow1.2 hw1
      have hLD := frBD _ _ oL.1 oL.2 (sB _ _ hLA)
      have hcaD := frBD _ _ oca.1 oca.2 (sB _ _ hcaA)
      have tcsD := tcsA.ts tsD (noLs_map (fun r => noL_row r) _)
      have hraD := tsD _ _ hraA
      have frD0 := (frA.trans (Fr.of sB)).trans frBD
      refine ⟨rfl, .inr ⟨_, rfl, .int (k : Nat), rfl, .int od, rfl, rfl, .inr ⟨_, rfl, sl3, fun w2 nw2 => ?_⟩⟩⟩
      have y1 := b01 (decide (u1 > 0))
      have y2 := b01 (decide (V.int u2 = V.int 0))
      have y3 := b01 (!decide (V.int (k : Nat) = V.int od))
      dsimp only
      revert y1 y2 y3
      generalize (if decide (u1 > 0) = true then (1 : Int) else 0) = y1v
      generalize (if decide (V.int u2 = V.int 0) = true then (1 : Int) else 0) = y2v
      generalize (if (!decide (V.int (k : Nat) = V.int od)) = true then (1 : Int) else 0) = y3v
      intro y1 y2 y3
      have sE := same_upd (o := (HO.lst [V.int y1v, V.int y2v, V.int y3v])) nw2
      have hw2 : upd HD w2 (HO.lst [V.int y1v, V.int y2v, V.int y3v]) w2 = some (HO.lst [V.int y1v, V.int y2v, V.int y3v]) := upd_same
      generalize upd HD w2 (HO.lst [V.int y1v, V.int y2v, V.int y3v]) = HE at sE hw2 ⊢
      have DE := DD.same sE
      refine ⟨w1', w2, _, _, rfl, rfl, sE _ _ hwD, hw2, (show 6 ≤ sizeLine by decide), fun w3 nw3 => ?_⟩
      rw [show [V.int v, V.int xbv, V.int x2v] ++ [V.int y1v, V.int y2v, V.int y3v] = [V.int v, V.int xbv, V.int x2v, V.int y1v, V.int y2v, V.int y3v] from rfl]
      have ow3 := DE.off nw3
      have sG := same_upd (o := (HO.lst [V.int v, V.int xbv, V.int x2v, V.int y1v, V.int y2v, V.int y3v])) nw3
      have hw3 : upd HE w3 (HO.lst [V.int v, V.int xbv, V.int x2v, V.int y1v, V.int y2v, V.int y3v]) w3 = some (HO.lst [V.int v, V.int xbv, V.int x2v, V.int y1v, V.int y2v, V.int y3v]) := upd_same
      generalize upd HE w3 (HO.lst [V.int v, V.int xbv, V.int x2v, V.int y1v, V.int y2v, V.int y3v]) = HG at sG hw3 ⊢
      have sEG := sE.trans sG
      have DG := DE.same sG
      have hraG := sEG _ _ hraD
      have hLG := sEG _ _ hLD
      have hcaG := sEG _ _ hcaD
      have tcsG := tcsD.same sEG
      have frG := frD0.trans (Fr.of sEG)
      refine ⟨.ref w3, rfl, .inl ⟨rfl, _, SqL.of hw3⟩, ?_⟩
      refine ⟨.ref ra, rfl, ra, r, rfl, SqT.of hraG, _, _, rfl, rfl, .inl ⟨by decide, by decide⟩, .int m, rfl, _, _, rfl, rfl, .inr ⟨_, rfl, w3, _, _, rfl, rfl, hw3, (show 6 < sizeLine by decide), ?_⟩⟩
      have y7 := b01 (decide (2 * r.sum > (m : Int)))
      dsimp only
      revert y7
      generalize (if decide (2 * r.sum > (m : Int)) = true then (1 : Int) else 0) = y7v
      intro y7
      rw [show [V.int v, V.int xbv, V.int x2v, V.int y1v, V.int y2v, V.int y3v] ++ [V.int y7v] = [V.int v, V.int xbv, V.int x2v, V.int y1v, V.int y2v, V.int y3v, V.int y7v] from rfl]
      have tsW : Ts HG (upd HG w3 (.lst [V.int v, V.int xbv, V.int x2v, V.int y1v, V.int y2v, V.int y3v, V.int y7v])) := Ts.set hw3
      have nw30 := none_of_frG frD0 DD (by
        cases z : HD w3 with
        | none => rfl
        | some o => rw [sE _ _ z] at nw3; cases nw3)
      have hW : (upd HG w3 (.lst [V.int v, V.int xbv, V.int x2v, V.int y1v, V.int y2v, V.int y3v, V.int y7v])) w3 = some (.lst [V.int v, V.int xbv, V.int x2v, V.int y1v, V.int y2v, V.int y3v, V.int y7v]) := upd_same
      obtain ⟨x, hat, x01⟩ := pick7 (a := v) (b := xbv) (c := x2v) (d := y1v) (e := y2v) (f := y3v) (g := y7v) w0 w1 (fun z hz => by
        simp only [List.mem_cons, List.not_mem_nil, or_false] at hz
        rcases hz with rfl | rfl | rfl | rfl | rfl | rfl | rfl
        · omega
        · exact xb
        · exact x2
        · exact y1
        · exact y2
        · exact y3
        · exact y7)
      have hLw : L ≠ w3 := ne_of_none (sE _ _ hLD) nw3
      have hcw : ca ≠ w3 := ne_of_none (sE _ _ hcaD) nw3
      refine ⟨.str (tabOf bs), rfl, .ref w3, rfl, .int way, rfl, w3, _, way, .int x, rfl, rfl, SqL.of hW, hat, x, rfl, by rcases x01 with rfl | rfl <;> decide, ?_⟩
      rw [str01 x01]
      refine ⟨_, _, rfl, rfl, ?_, ?_⟩
      · show (tabOf bs).length + 1 ≤ sizeLine
        have : (tabOf bs).length = bs.length := by
          show ((bs.map fun b => if b = true then 49 else 48).toArray).size = _
          rw [List.size_toArray, List.length_map]
        rw [this]
        exact Nat.le_trans (show bs.length + 1 ≤ 65 by omega) (by decide)
      obtain ⟨b', eb⟩ : ∃ b' : Bool, wS x = if b' = true then 49 else 48 := by
        rcases x01 with rfl | rfl
        · exact ⟨false, rfl⟩
        · exact ⟨true, rfl⟩
      rw [eb, tab_app]
      exact ⟨bs ++ [b'], _, _, _, rfl, (DG.upd ow3.1 ow3.2).mono (by push_cast; omega), Fr.upd frG nw30, by rw [List.length_append, lbs]; rfl, by rw [upd_ne hLw]; exact hLG, by rw [upd_ne hcw]; exact hcaG, tcsG.ts tsW (noLs_map (fun r => noL_row r) _)⟩
    · rintro σ H6 ⟨bs, y7, y8, y9, rfl, D6, fr6, lbs, hL6, hca6, tcs6⟩
      exact ⟨.str (tabOf bs), rfl, q bs H6 (D6.mono (by omega)) fr6 (by rw [lbs, lcs])⟩

end
end Gk

set_option Elab.async false
set_option linter.all false
set_option maxRecDepth 100000
set_option maxHeartbeats 1000000
set_option pp.maxSteps 1500
set_option pp.deepTerms false
namespace Gk
open PySem PySem.Spec PyProof.Rows L2
section
variable {P : Program} {w : World} {K : PySem.W.Frag} {mg : Str → Option Value} {base : Heap}

/-! ### a wish's worth at a row -/
theorem gate_read6 {bs : List Bool} {ws : List Int} (hw : ∀ w ∈ ws, w = 0 ∨ w = 1) (hb : bs.length = 2 ^ ws.length) (h6 : ws.length ≤ 6) : ∃ b : Bool, 0 ≤ plc ws ∧ plc ws < 2 ^ 63 ∧ plc ws < (tabOf bs).length ∧ (tabOf bs).cps[(plc ws).toNat]? = some (if b = true then 49 else 48) ∧ gateM bs ws = if b = true then 1 else 0 := by
  obtain ⟨p0, p1⟩ := plc_bd _ ws rfl hw
  have e : ((2 ^ ws.length : Nat) : Int) = (2 : Int) ^ ws.length := by simp
  have l64 : 2 ^ ws.length ≤ 64 := Nat.pow_le_pow_right (by decide) h6
  have hlt : (plc ws).toNat < bs.length := by omega
  have tl : (tabOf bs).length = bs.length := by simp [tabOf, Str.length]
  refine ⟨bs[(plc ws).toNat], p0, by omega, by rw [tl]; omega, ?_, ?_⟩
  · simp [tabOf, List.getElem?_eq_getElem hlt]
  · unfold gateM
    rw [List.getD_eq_getElem?_getD, List.getElem?_eq_getElem hlt]
    rfl
def sp_worth (K : PySem.W.Frag) : Sp := fun vs H Q _ => ∃ (wa ra : Addr) (m : Nat) (bs : List Bool) (x : V) (r : List Int), vs = [.ref wa, .ref ra] ∧ H wa = some (.tup [.int m, .str (tabOf bs), x]) ∧ H ra = some (.tup (r.map V.int)) ∧ Row01' r ∧ r.length = m ∧ m ≤ 6 ∧ bs.length = 2 ^ m ∧ Q (.int (gateM bs r)) H
theorem ok_worth (T : Tx K mg) : FnOk P w K mg base CX0 1 T.f_worth T.fd_worth ["_law_wish_here", "_law_row"] (sp_worth K) := by
  refine T.F_worth.ok sc_worth (fun vs H Q E h => ?_) (fun cdv A outer s H vs Q E hr h => ?_)
  · obtain ⟨wa, ra, m, bs, x, r, rfl, _⟩ := h
    rfl
  · obtain ⟨wa, ra, m, bs, x, r, rfl, hwa, hra, ok, lr, m6, hb, q⟩ := h
    obtain ⟨b, p0, p1, p2, p3, p4⟩ := gate_read6 ok (by rw [lr]; exact hb) (by omega)
    refine ⟨_, (pss_cons (ps_set (i := 2) sc_worth.nd rfl (by first | exact .inl rfl | exact .inr rfl) pe_int) (pss_cons (ps_for PassesOwn.never rfl (pi_tup (pv 1)) (pg_name (i := 3) sc_worth.nd rfl (by first | exact .inl rfl | exact .inr rfl)) (pss_one (ps_set (i := 2) sc_worth.nd rfl (by first | exact .inl rfl | exact .inr rfl) (pe_op op_add (pe_op op_mul pe_int (pv 2)) (pv 3))))) (pss_one (ps_ret (pe_callTy call_int_str (by rfl) T.m_int (by decide +kernel) (pa_cons (pe_item_str (pe_ix ix_tup (pv 0) pe_int (fun _ _ => rfl)) (pv 2) (fun _ _ => rfl)) pa_nil)))))), ?_⟩
    refine ⟨.ref ra, rfl, ra, rfl, ⟨_, SqT.of hra⟩, for_tup (K := K) (a := ra) (xs := r.map V.int) (fun i σ H' => ∃ y, σ = [some (.ref wa), some (.ref ra), some (.int (plc (r.take i))), y] ∧ H' = H) ⟨none, rfl, rfl⟩ (fun i σ H' _ ⟨_, _, e⟩ => by rw [e]; exact SqT.of hra) ?_ ?_⟩
    · rintro i v σ H' hx ⟨y, rfl, rfl⟩
      obtain ⟨u, hu, rfl⟩ : ∃ u, r[i]? = some u ∧ v = V.int u := by
        rw [List.getElem?_map] at hx
        obtain ⟨u, hu, e⟩ := Option.map_eq_some_iff.mp hx
        exact ⟨u, hu, e.symm⟩
      refine ⟨.int (plc (r.take i)), rfl, 2, _, rfl, rfl, .inl ⟨by decide, by decide⟩, .int u, rfl, _, _, rfl, rfl, some (.int u), ?_, rfl⟩
      rw [plc_take hu]
      rfl
    · rintro σ H' ⟨y, rfl, rfl⟩
      rw [List.length_map, List.take_length]
      refine ⟨.ref wa, rfl, wa, _, 1, .str (tabOf bs), rfl, rfl, SqT.of hwa, rfl, .int (plc r), rfl, _, _, _, rfl, rfl, p0, p1, p2, p3, _, _, rfl, int_sign b, (show 1 ≤ 640 by decide), ?_⟩
      rw [← p4]
      exact q

end
end Gk

set_option Elab.async false
set_option linter.all false
set_option maxRecDepth 100000
set_option maxHeartbeats 1000000
set_option pp.maxSteps 1500
set_option pp.deepTerms false
namespace Gk
open PySem PySem.Spec PyProof.Rows L2
section
variable {P : Program} {w : World} {K : PySem.W.Frag} {mg : Str → Option Value} {base : Heap}
/-! ### covers: the program's own -/
def ChAt (H : Hp) (c : Addr) (a b : List Int) : Prop := ∃ ra rb, H c = some (.tup [.ref ra, .ref rb]) ∧ H ra = some (.tup (a.map V.int)) ∧ H rb = some (.tup (b.map V.int))
theorem ChAt.gr {H H' : Hp} {c : Addr} {a b : List Int} (h : ChAt H c a b) (g : Gr H H') : ChAt H' c a b := by
  obtain ⟨ra, rb, h1, h2, h3⟩ := h
  exact ⟨ra, rb, g.tup h1, g.tup h2, g.tup h3⟩
structure ChOk (m : Nat) (a b : List Int) : Prop where
  la : a.length = m
  lb : b.length = m
  oa : Row01' a
  ob : Row01' b
  m6 : m ≤ 6


theorem lc_enum {K : PySem.W.Frag} {a : Addr} {xs : List V} {g : TG} {tt : TT} {te : TE} {vs : List Nat} {σ : L2.St} {H1 : Hp} {D : Addr} {Qd : Hp → Prop} (Pv : Nat → Hp → Prop) (h0 : Pv 0 (upd H1 D (.lst []))) (hl : ∀ i H, i ≤ xs.length → Pv i H → SqL K H a xs)
    (hs : ∀ i x T H, xs[i]? = some x → H T = none → Pv i H → g (.ref T) (wipe σ vs) (upd H T (.tup [.int (i : Nat), x])) fun σ2 H2 => wipe σ2 vs = wipe σ vs ∧ tt σ2 H2 fun b H3 =>
      if b = true then te σ2 H3 fun y H4 => ∃ acc, H4 D = some (.lst acc) ∧ acc.length < sizeLine ∧ Pv (i + 1) (upd H4 D (.lst (acc ++ [y]))) else Pv (i + 1) H3) (hd : ∀ H, Pv xs.length H → Qd H) :
    ∃ W : Nat → Nat → Hp → Prop, (∃ m, W 0 m (upd H1 D (.lst []))) ∧ ∀ i m H, W i m H →
      ((Ite K a).stop i H ∧ Qd H) ∨ ((Ite K a).go i H ∧ ∃ Nx : Hp → Prop, (∀ H', Nx H' → ∃ m', m' < m ∧ W (i + 1) m' H') ∧ ∀ x H', (Ite K a).yld i H x H' → g x (wipe σ vs) H' fun σ2 H2 => wipe σ2 vs = wipe σ vs ∧ tt σ2 H2 fun b H3 =>
        if b = true then te σ2 H3 fun y H4 => ∃ acc, H4 D = some (.lst acc) ∧ acc.length < sizeLine ∧ Nx (upd H4 D (.lst (acc ++ [y]))) else Nx H3) := by
  refine ⟨fun i m H => m = xs.length - i ∧ i ≤ xs.length ∧ Pv i H, ⟨xs.length, by simp, Nat.zero_le _, h0⟩, ?_⟩
  rintro i m H ⟨rfl, hi, p⟩
  have qx := hl i H hi p
  by_cases hlt : i < xs.length
  · have hx : xs[i]? = some xs[i] := List.getElem?_eq_getElem hlt
    refine .inr ⟨⟨xs, _, qx, hx⟩, Pv (i + 1), fun H' p' => ⟨xs.length - (i + 1), by omega, rfl, hlt, p'⟩, fun x H' y => ?_⟩
    obtain ⟨T, x1, rfl, nT, rfl, e1⟩ := y
    exact hs i x1 T H (e1 xs qx) nT p
  · have e : i = xs.length := by omega
    subst e
    exact .inl ⟨⟨xs, qx, Nat.le_refl _⟩, hd H p⟩

/-! ### a change drawn -/
def Rw (H : Hp) (m : Nat) (v : V) : Prop := ∃ p r, v = .ref p ∧ H p = some (.tup (r.map V.int)) ∧ r.length = m ∧ Row01' r
theorem Rw.ts {H H' : Hp} {m : Nat} {v : V} (h : Rw H m v) (s : Ts H H') : Rw H' m v := by
  obtain ⟨p, r, e, h, z⟩ := h
  exact ⟨p, r, e, s _ _ h, z⟩
theorem rw_all {H : Hp} {cs : List V} {m : Nat} (t : TkAll H cs ((rowsU m).map rowD)) : ∀ x ∈ cs, Rw H m x := fun x hx => by
  obtain ⟨r, hr, tr⟩ := t.memX x hx
  obtain ⟨p, rfl, hp⟩ := tr.row_inv
  exact ⟨p, r, rfl, hp, rowsU_ok m r hr⟩
theorem ChAt.ts {H H' : Hp} {c : Addr} {a b : List Int} (h : ChAt H c a b) (g : Ts H H') : ChAt H' c a b := by
  obtain ⟨ra, rb, h1, h2, h3⟩ := h
  exact ⟨ra, rb, g _ _ h1, g _ _ h2, g _ _ h3⟩
theorem pair_at {H : Hp} {t : Addr} {u v : V} {m : Nat} (ht : H t = some (.tup [u, v])) (hu : Rw H m u) (hv : Rw H m v) (m6 : m ≤ 6) : ∃ a b, ChAt H t a b ∧ ChOk m a b := by
  obtain ⟨p, a, rfl, hp, la, oa⟩ := hu
  obtain ⟨p', b, rfl, hp', lb, ob⟩ := hv
  exact ⟨a, b, ⟨p, p', ht, hp, hp'⟩, ⟨la, lb, oa, ob, m6⟩⟩
theorem tab_cps {bs : List Bool} {k : Nat} (h : k < bs.length) : (tabOf bs).cps[(((k : Nat) : Int)).toNat]? = some (if bs[k] = true then 49 else 48) := by
  show ((bs.map fun b => if b = true then 49 else 48).toArray)[k]? = _
  rw [List.getElem?_toArray, List.getElem?_map, List.getElem?_eq_getElem h]
  rfl
theorem tab_len (bs : List Bool) : (tabOf bs).length = bs.length := by simp [tabOf, Str.length]
def sp_change (K : PySem.W.Frag) : Sp := fun vs H Q _ => ∃ (d l : Addr) (n : Int) (m : Nat) (bs : List Bool), vs = [.ref d, .int m, .str (tabOf bs)] ∧ DeckG H d l n ∧ n < 800000000 ∧ 1 ≤ m ∧ m ≤ 6 ∧ bs.length = 2 ^ m ∧ ∀ (c : Addr) (a b : List Int) (H' : Hp), DeckG H' d l (n + 6) → Fr d l H H' → H c = none → ChAt H' c a b → ChOk m a b → Q (.ref c) H'
theorem ok_change (T : Tx K mg) : FnOk P w K mg base CX0 2 T.f_change T.fd_change ["_law_deck_here", "_law_many", "_law_table_here"] (sp_change K) := by
  refine T.F_change.ok sc_change (fun vs H Q E h => ?_) (fun cdv A outer s H vs Q E hr h => ?_)
  · obtain ⟨d, l, n, m, bs, rfl, _⟩ := h
    rfl
  · obtain ⟨d, l, n, m, bs, rfl, D, hn, m1, m6, lb, q⟩ := h
    refine ⟨_, (pss_cons (ps_set (i := 3) sc_change.nd rfl (by first | exact .inl rfl | exact .inr rfl) (pe_call (ok_next T) (hr.mono (by decide)) (by rfl) T.g_next T.F_next.kp T.b_next .nil pass0 (pa_cons (pv 0) (pa_cons pe_int pa_nil)))) (pss_cons (ps_set (i := 4) sc_change.nd rfl (by first | exact .inl rfl | exact .inr rfl) (pe_call (ok_rows T) (hr.mono (by decide)) (by rfl) T.g_rows T.F_rows.kp T.b_rows .nil pass0 (pa_cons (pv 1) pa_nil))) (pss_cons (ps_set (i := 5) sc_change.nd rfl (by first | exact .inl rfl | exact .inr rfl) (pe_ix ix_list (pv 4) (pe_call (ok_next T) (hr.mono (by decide)) (by rfl) T.g_next T.F_next.kp T.b_next .nil pass0 (pa_cons (pv 0) (pa_cons (pe_callB call_len_seq (by rfl) T.m_len PySem.boot_len (pa_cons (pv 4) pa_nil)) pa_nil))) (fun _ _ => rfl))) (pss_cons (ps_set (i := 6) sc_change.nd rfl (by first | exact .inl rfl | exact .inr rfl) (pe_ix ix_list (pv 4) (pe_call (ok_next T) (hr.mono (by decide)) (by rfl) T.g_next T.F_next.kp T.b_next .nil pass0 (pa_cons (pv 0) (pa_cons (pe_callB call_len_seq (by rfl) T.m_len PySem.boot_len (pa_cons (pv 4) pa_nil)) pa_nil))) (fun _ _ => rfl))) (pss_cons (ps_set (i := 7) sc_change.nd rfl (by first | exact .inl rfl | exact .inr rfl) (pe_call (ok_next T) (hr.mono (by decide)) (by rfl) T.g_next T.F_next.kp T.b_next .nil pass0 (pa_cons (pv 0) (pa_cons (pv 1) pa_nil)))) (pss_cons (ps_set (i := 8) sc_change.nd rfl (by first | exact .inl rfl | exact .inr rfl) (pe_op op_cat (pe_lc (own := [("_law_k", 13), ("_law_row", 14)]) (by rfl) sc_change.nd (pi_enum (by rfl) T.m_enumerate (pa_cons (pv 4) pa_nil)) (blkOk_by (own := [("_law_k", 13), ("_law_row", 14)]) (N := ["_law_deck_here", "_law_many", "_law_table_here", "_law_way", "_law_rows_here", "_law_one", "_law_other", "_law_place", "_law_ones", "_law_noughts", "_law_bright", "_law_dark", "_law_beside", "_law_k", "_law_row"]) (sc := defScope s_change) (by decide +kernel)) (fun _ _ _ _ _ => (show PG _ _ (gTup K 2 _) from pg_tup rfl (pgs_cons (pg_name (i := 13) sc_change.nd rfl (by first | exact .inl rfl | exact .inr rfl)) (pgs_cons (pg_name (i := 14) sc_change.nd rfl (by first | exact .inl rfl | exact .inr rfl)) pgs_nil)))) (fun _ _ _ _ _ => (pts_one (pt_cmpR op_eq (pe_item_str (pv 2) (pv 13) (fun _ _ => rfl)) pe_str (nomark _)))) (fun _ _ _ _ _ => (pv 14))) (pe_lst (pa_cons (pv 5) pa_nil)))) (pss_cons (ps_set (i := 9) sc_change.nd rfl (by first | exact .inl rfl | exact .inr rfl) (pe_op op_cat (pe_lc (own := [("_law_k", 13), ("_law_row", 14)]) (by rfl) sc_change.nd (pi_enum (by rfl) T.m_enumerate (pa_cons (pv 4) pa_nil)) (blkOk_by (own := [("_law_k", 13), ("_law_row", 14)]) (N := ["_law_deck_here", "_law_many", "_law_table_here", "_law_way", "_law_rows_here", "_law_one", "_law_other", "_law_place", "_law_ones", "_law_noughts", "_law_bright", "_law_dark", "_law_beside", "_law_k", "_law_row"]) (sc := defScope s_change) (by decide +kernel)) (fun _ _ _ _ _ => (show PG _ _ (gTup K 2 _) from pg_tup rfl (pgs_cons (pg_name (i := 13) sc_change.nd rfl (by first | exact .inl rfl | exact .inr rfl)) (pgs_cons (pg_name (i := 14) sc_change.nd rfl (by first | exact .inl rfl | exact .inr rfl)) pgs_nil)))) (fun _ _ _ _ _ => (pts_one (pt_cmpR op_eq (pe_item_str (pv 2) (pv 13) (fun _ _ => rfl)) pe_str (nomark _)))) (fun _ _ _ _ _ => (pv 14))) (pe_lst (pa_cons (pv 6) pa_nil)))) (pss_cons (ps_set (i := 10) sc_change.nd rfl (by first | exact .inl rfl | exact .inr rfl) (pe_ix ix_list (pv 8) (pe_call (ok_next T) (hr.mono (by decide)) (by rfl) T.g_next T.F_next.kp T.b_next .nil pass0 (pa_cons (pv 0) (pa_cons (pe_callB call_len_seq (by rfl) T.m_len PySem.boot_len (pa_cons (pv 8) pa_nil)) pa_nil))) (fun _ _ => rfl))) (pss_cons (ps_set (i := 11) sc_change.nd rfl (by first | exact .inl rfl | exact .inr rfl) (pe_ix ix_list (pv 9) (pe_call (ok_next T) (hr.mono (by decide)) (by rfl) T.g_next T.F_next.kp T.b_next .nil pass0 (pa_cons (pv 0) (pa_cons (pe_callB call_len_seq (by rfl) T.m_len PySem.boot_len (pa_cons (pv 9) pa_nil)) pa_nil))) (fun _ _ => rfl))) (pss_cons (ps_set (i := 12) sc_change.nd rfl (by first | exact .inl rfl | exact .inr rfl) (pe_op op_catA (pe_op op_catA (pe_slice sl_tupA (pv 5) po_none (po_some (pv 7))) (pe_tup (pa_cons (pe_op op_sub pe_int (pe_ix ix_tup (pv 5) (pv 7) (fun _ _ => rfl))) pa_nil))) (pe_slice sl_tupA (pv 5) (po_some (pe_op op_add (pv 7) pe_int)) po_none))) (pss_one (ps_ret (pe_ix ix_list (pe_lst (pa_cons (pe_tup (pa_cons (pv 5) (pa_cons (pv 12) pa_nil))) (pa_cons (pe_tup (pa_cons (pv 5) (pa_cons (pv 6) pa_nil))) (pa_cons (pe_tup (pa_cons (pv 5) (pa_cons (pv 5) pa_nil))) (pa_cons (pe_tup (pa_cons (pv 10) (pa_cons (pv 11) pa_nil))) (pa_cons (pe_tup (pa_cons (pv 11) (pa_cons (pv 10) pa_nil))) (pa_cons (pe_tup (pa_cons (pv 10) (pa_cons (pe_ix ix_list (pv 8) pe_int (fun _ _ => rfl)) pa_nil))) pa_nil))))))) (pv 3) (fun _ _ => rfl)))))))))))))), ?_⟩
    refine ⟨.ref d, rfl, d, l, 6, _, rfl, D, by omega, by decide, by decide, fun H1 way D1 fr1 w0 w1 => ?_⟩
    refine ⟨.int m, rfl, m, rfl, m1, m6, fun ca H2 nca s2 tc => ?_⟩
    have D2 := D1.same s2
    have fr2 := fr1.trans (Fr.of s2)
    obtain ⟨_, cs, e, hca, tcs⟩ := tc.lst_inv
    cases e
    have lcs : cs.length = 2 ^ m := by rw [tcs.length, List.length_map, rowsU_len]
    have l64 : 2 ^ m ≤ 64 := Nat.pow_le_pow_right (by decide) m6
    have lpos : 1 ≤ 2 ^ m := Nat.one_le_two_pow
    have oca := D1.off nca
    refine ⟨.ref ca, rfl, .ref d, rfl, .ref ca, rfl, ca, _, rfl, .inl (SqL.of hca), ?_⟩
    rw [lcs]
    refine ⟨d, l, _, _, rfl, D2, by omega, by omega, by omega, fun H3 i1 D3 fr3 a0 a1 => ?_⟩
    have hca3 := fr3 _ _ oca.1 oca.2 hca
    have tcs3 := tcs.ts (Ts.frG D2 fr3) (noLs_map (fun r => noL_row r) _)
    obtain ⟨v1, hv1, mv1⟩ := at_pick (xs := cs) a0 (by rw [lcs]; exact a1)
    refine ⟨ca, _, _, v1, rfl, rfl, SqL.of hca3, hv1, ?_⟩
    refine ⟨.ref ca, rfl, .ref d, rfl, .ref ca, rfl, ca, _, rfl, .inl (SqL.of hca3), ?_⟩
    rw [lcs]
    refine ⟨d, l, _, _, rfl, D3, by omega, by omega, by omega, fun H4 i2 D4 fr4 b0 b1 => ?_⟩
    have hca4 := fr4 _ _ oca.1 oca.2 hca3
    have tcs4 := tcs3.ts (Ts.frG D3 fr4) (noLs_map (fun r => noL_row r) _)
    obtain ⟨v2, hv2, mv2⟩ := at_pick (xs := cs) b0 (by rw [lcs]; exact b1)
    refine ⟨ca, _, _, v2, rfl, rfl, SqL.of hca4, hv2, ?_⟩
    refine ⟨.ref d, rfl, .int m, rfl, d, l, m, _, rfl, D4, by omega, by omega, by omega, fun H5 pl D5 fr5 p0 p1 => ?_⟩
    have hca5 := fr5 _ _ oca.1 oca.2 hca4
    have tcs5 := tcs4.ts (Ts.frG D4 fr5) (noLs_map (fun r => noL_row r) _)
    have fr05 := (fr2.trans fr3).trans (fr4.trans fr5)
    show tSeq _ _ _ [some (.ref d), some (.int m), some (.str (tabOf bs)), some (.int way), some (.ref ca), some v1, some v2, some (.int pl), none, none, none, none, none, none, none] H5
    refine ⟨.ref ca, rfl, ca, _, rfl, SqL.of hca5, fun L nL => ?_⟩
    refine lc_enum (K := K) (a := ca) (xs := cs) (fun j H' => Same H5 (hd1 L H') ∧ ∃ xs, H' L = some (.lst xs) ∧ xs.length ≤ j ∧ ∀ x ∈ xs, x ∈ cs) ⟨hd1_of (same_upd nL) nL, [], upd_same, Nat.zero_le _, fun x hx => by cases hx⟩ (fun j H' _ z => SqL.of (hd1_le _ _ (z.1 _ _ hca5))) ?_ ?_
    · rintro j x Tq H6 hx nT ⟨s6, xs, hL, lx, mx⟩
      have hj := (List.getElem?_eq_some_iff.mp hx).1
      have sT := same_upd (o := HO.tup [.int (j : Nat), x]) nT
      refine ⟨Tq, _, rfl, SqT.of upd_same, rfl, _, _, rfl, _, _, rfl, rfl, rfl, ?_⟩
      refine ⟨.str (tabOf bs), rfl, .int (j : Nat), rfl, tabOf bs, ((j : Nat) : Int), _, rfl, rfl, by omega, by omega, by rw [tab_len]; omega, tab_cps (by omega), rfl, _, rfl, ite2 (fun _ => ?_) (fun _ => ?_)⟩
      · refine ⟨x, rfl, xs, sT _ _ hL, Nat.lt_of_lt_of_le (show _ < 128 by omega) (by decide), (s6.trans (hd1_same sT)).trans hd1_upd, xs ++ [x], upd_same, by rw [List.length_append]; exact Nat.succ_le_succ lx, fun z hz => ?_⟩
        rcases List.mem_append.mp hz with h | h
        · exact mx z h
        · rw [List.mem_singleton.mp h]; exact List.mem_of_getElem? hx
      · exact ⟨s6.trans (hd1_same sT), xs, sT _ _ hL, by omega, mx⟩
    rintro H6 ⟨s6, xs, hL, lx, mx⟩
    have s56 : Same H5 H6 := fun b o e => hd1_le _ _ (s6 _ _ e)
    refine ⟨v1, rfl, sl1, fun M nM => ?_⟩
    have s7 := same_upd (o := (HO.lst [v1])) nM
    have hM : upd H6 M (HO.lst [v1]) M = some (HO.lst [v1]) := upd_same
    generalize upd H6 M (HO.lst [v1]) = H7 at s7 hM ⊢
    refine ⟨L, M, _, _, rfl, rfl, s7 _ _ hL, hM, Nat.le_trans (show xs.length + 1 ≤ 128 by omega) (by decide), fun O nO => ?_⟩
    have s8 := same_upd (o := (HO.lst (xs ++ [v1]))) nO
    have hO : upd H7 O (HO.lst (xs ++ [v1])) O = some (HO.lst (xs ++ [v1])) := upd_same
    generalize upd H7 O (HO.lst (xs ++ [v1])) = H8 at s8 hO ⊢
    have s58 := (s56.trans s7).trans s8
    have mO : ∀ x ∈ xs ++ [v1], x ∈ cs := fun z hz => by
      rcases List.mem_append.mp hz with h | h
      · exact mx z h
      · rw [List.mem_singleton.mp h]; exact mv1
    have lO : 1 ≤ (xs ++ [v1]).length ∧ (xs ++ [v1]).length ≤ 65 := by
      rw [List.length_append]
      show 1 ≤ xs.length + 1 ∧ xs.length + 1 ≤ 65
      omega
    revert hO mO lO
    generalize xs ++ [v1] = os
    intro hO mO lO
    have hca8 := s58 _ _ hca5
    show tSeq _ _ _ [some (.ref d), some (.int m), some (.str (tabOf bs)), some (.int way), some (.ref ca), some v1, some v2, some (.int pl), some (.ref O), none, none, none, none, none, none] H8
    refine ⟨.ref ca, rfl, ca, _, rfl, SqL.of hca8, fun L' nL' => ?_⟩
    refine lc_enum (K := K) (a := ca) (xs := cs) (fun j H' => Same H8 (hd1 L' H') ∧ ∃ xs, H' L' = some (.lst xs) ∧ xs.length ≤ j ∧ ∀ x ∈ xs, x ∈ cs) ⟨hd1_of (same_upd nL') nL', [], upd_same, Nat.zero_le _, fun x hx => by cases hx⟩ (fun j H' _ z => SqL.of (hd1_le _ _ (z.1 _ _ hca8))) ?_ ?_
    · rintro j x Tq H9 hx nT ⟨s9, ys, hL', ly, my⟩
      have hj := (List.getElem?_eq_some_iff.mp hx).1
      have sT := same_upd (o := HO.tup [.int (j : Nat), x]) nT
      refine ⟨Tq, _, rfl, SqT.of upd_same, rfl, _, _, rfl, _, _, rfl, rfl, rfl, ?_⟩
      refine ⟨.str (tabOf bs), rfl, .int (j : Nat), rfl, tabOf bs, ((j : Nat) : Int), _, rfl, rfl, by omega, by omega, by rw [tab_len]; omega, tab_cps (by omega), rfl, _, rfl, ite2 (fun _ => ?_) (fun _ => ?_)⟩
      · refine ⟨x, rfl, ys, sT _ _ hL', Nat.lt_of_lt_of_le (show _ < 128 by omega) (by decide), (s9.trans (hd1_same sT)).trans hd1_upd, ys ++ [x], upd_same, by rw [List.length_append]; exact Nat.succ_le_succ ly, fun z hz => ?_⟩
        rcases List.mem_append.mp hz with h | h
        · exact my z h
        · rw [List.mem_singleton.mp h]; exact List.mem_of_getElem? hx
      · exact ⟨s9.trans (hd1_same sT), ys, sT _ _ hL', by omega, my⟩
    rintro H9 ⟨s9, ys, hL', ly, my⟩
    have s89 : Same H8 H9 := fun b o e => hd1_le _ _ (s9 _ _ e)
    refine ⟨v2, rfl, sl1, fun M' nM' => ?_⟩
    have sA := same_upd (o := (HO.lst [v2])) nM'
    have hM' : upd H9 M' (HO.lst [v2]) M' = some (HO.lst [v2]) := upd_same
    generalize upd H9 M' (HO.lst [v2]) = HA at sA hM' ⊢
    refine ⟨L', M', _, _, rfl, rfl, sA _ _ hL', hM', Nat.le_trans (show ys.length + 1 ≤ 128 by omega) (by decide), fun N nN => ?_⟩
    have sB := same_upd (o := (HO.lst (ys ++ [v2]))) nN
    have hN : upd HA N (HO.lst (ys ++ [v2])) N = some (HO.lst (ys ++ [v2])) := upd_same
    generalize upd HA N (HO.lst (ys ++ [v2])) = HB at sB hN ⊢
    have s8B := (s89.trans sA).trans sB
    have mN : ∀ x ∈ ys ++ [v2], x ∈ cs := fun z hz => by
      rcases List.mem_append.mp hz with h | h
      · exact my z h
      · rw [List.mem_singleton.mp h]; exact mv2
    have lN : 1 ≤ (ys ++ [v2]).length ∧ (ys ++ [v2]).length ≤ 65 := by
      rw [List.length_append]
      show 1 ≤ ys.length + 1 ∧ ys.length + 1 ≤ 65
      omega
    revert hN mN lN
    generalize ys ++ [v2] = ns
    intro hN mN lN
    have DB := D5.same (s58.trans s8B)
    have frB := fr05.trans (Fr.of (s58.trans s8B))
    have tcsB := tcs5.same (s58.trans s8B)
    have hOB := s8B _ _ hO
    have oO := (D5.same ((s56.trans s7))).off nO
    have oN := (D5.same ((s58.trans s89).trans sA)).off nN
    refine ⟨.ref O, rfl, .ref d, rfl, .ref O, rfl, O, _, rfl, .inl (SqL.of hOB), d, l, _, _, rfl, DB, by omega, by omega, by omega, fun HC i3 DC frC c0 c1 => ?_⟩
    have hOC := frC _ _ oO.1 oO.2 hOB
    have hNC := frC _ _ oN.1 oN.2 hN
    obtain ⟨v3, hv3, mv3⟩ := at_pick (xs := os) c0 c1
    refine ⟨O, _, _, v3, rfl, rfl, SqL.of hOC, hv3, ?_⟩
    refine ⟨.ref N, rfl, .ref d, rfl, .ref N, rfl, N, _, rfl, .inl (SqL.of hNC), d, l, _, _, rfl, DC, by omega, by omega, by omega, fun HD i4 DD frD d0 d1 => ?_⟩
    have hOD := frD _ _ oO.1 oO.2 hOC
    have hND := frD _ _ oN.1 oN.2 hNC
    obtain ⟨v4, hv4, mv4⟩ := at_pick (xs := ns) d0 d1
    refine ⟨N, _, _, v4, rfl, rfl, SqL.of hND, hv4, ?_⟩
    have tcsD := tcsB.ts ((Ts.frG DB frC).trans (Ts.frG DC frD)) (noLs_map (fun r => noL_row r) _)
    have frBD := frB.trans (frC.trans frD)
    obtain ⟨p1', r1, rfl, hp1, lr1, or1⟩ := rw_all tcsD v1 mv1
    obtain ⟨k, rfl⟩ := Int.eq_ofNat_of_zero_le p0
    have hk : k < r1.length := by omega
    have hat : atI (r1.map V.int) ((k : Nat) : Int) = some (.int r1[k]) := atI_nat (by rw [List.getElem?_map, List.getElem?_eq_getElem hk]; rfl)
    show tSeq _ _ _ [some (.ref d), some (.int m), some (.str (tabOf bs)), some (.int way), some (.ref ca), some (.ref p1'), some v2, some (.int (k : Nat)), some (.ref O), some (.ref N), some v3, some v4, none, none, none] HD
    refine ⟨.ref p1', rfl, .int (k : Nat), rfl, (k : Int), rfl, slA hp1 fun q1 HE sE hq1 => ?_⟩
    rw [cut_to] at hq1
    refine ⟨.ref p1', rfl, .int (k : Nat), rfl, p1', _, _, _, rfl, rfl, SqT.of (sE _ _ hp1), hat, _, _, rfl, rfl, sl1, fun t nt => ?_⟩
    have sF := same_upd (o := (HO.tup [V.int (1 - r1[k])])) nt
    have ht : upd HE t (HO.tup [V.int (1 - r1[k])]) t = some (HO.tup [V.int (1 - r1[k])]) := upd_same
    generalize upd HE t (HO.tup [V.int (1 - r1[k])]) = HF at sF ht ⊢
    refine catA (sF _ _ hq1) ht ?_ fun q2 HG sG hq2 => ?_
    · rw [List.length_take, List.length_map]
      exact Nat.le_trans (show _ ≤ 64 by simp only [List.length_cons, List.length_nil]; omega) (by decide)
    have sDG := (sE.trans sF).trans sG
    refine ⟨.ref p1', rfl, .int (k : Nat), rfl, _, _, rfl, rfl, ((k + 1 : Nat) : Int), rfl, ?_⟩
    refine slAn (sDG _ _ hp1) fun q3 HI sI hq3 => ?_
    rw [cut_from] at hq3
    refine catA (sI _ _ hq2) hq3 ?_ fun be HJ sJ hbe => ?_
    · rw [List.length_append, List.length_take, List.length_drop, List.length_map]
      exact Nat.le_trans (show _ ≤ 64 by simp only [List.length_cons, List.length_nil]; omega) (by decide)
    rw [set_put (by rw [List.length_map]; exact hk)] at hbe
    have hset : (r1.map V.int).set k (V.int (1 - r1[k])) = (r1.set k (1 - r1[k])).map V.int := by rw [List.map_set]
    rw [hset] at hbe
    have sDJ := (sDG.trans sI).trans sJ
    have DJ := DD.same sDJ
    have frJ := frBD.trans (Fr.of sDJ)
    have tcsJ := tcsD.same sDJ
    have hOJ := sDJ _ _ hOD
    have rwc := rw_all tcsJ
    have rb : Rw HJ m (.ref be) := ⟨be, _, rfl, hbe, by rw [List.length_set]; exact lr1, fun y hy => by
      rcases List.mem_or_eq_of_mem_set hy with z | z
      · exact or1 y z
      · have := or1 r1[k] (List.getElem_mem hk)
        omega⟩
    have w1' := rwc _ mv1
    have w2 := rwc _ mv2
    have w3 := rwc _ (mO _ mv3)
    have w4 := rwc _ (mN _ mv4)
    obtain ⟨v5, hv5, mv5⟩ := at_pick (xs := os) (j := 0) (by decide) (by omega)
    have w5 := rwc _ (mO _ mv5)
    unfold gName
    show (_ : L2.St → Hp → Prop) [some (.ref d), some (.int m), some (.str (tabOf bs)), some (.int way), some (.ref ca), some (.ref p1'), some v2, some (.int (k : Nat)), some (.ref O), some (.ref N), some v3, some v4, some (.ref be), none, none] HJ
    refine ⟨.ref p1', rfl, .ref be, rfl, sl2, fun t1 n1 => ?_⟩
    have s1 := same_upd (o := (HO.tup [V.ref p1', .ref be])) n1
    have h1 : upd HJ t1 (HO.tup [V.ref p1', .ref be]) t1 = some (HO.tup [V.ref p1', .ref be]) := upd_same
    generalize upd HJ t1 (HO.tup [V.ref p1', .ref be]) = J1 at s1 h1 ⊢
    refine ⟨.ref p1', rfl, v2, rfl, sl2, fun t2 n2 => ?_⟩
    have s2' := same_upd (o := (HO.tup [V.ref p1', v2])) n2
    have h2 : upd J1 t2 (HO.tup [V.ref p1', v2]) t2 = some (HO.tup [V.ref p1', v2]) := upd_same
    generalize upd J1 t2 (HO.tup [V.ref p1', v2]) = J2 at s2' h2 ⊢
    refine ⟨.ref p1', rfl, .ref p1', rfl, sl2, fun t3 n3 => ?_⟩
    have s3 := same_upd (o := (HO.tup [V.ref p1', .ref p1'])) n3
    have h3 : upd J2 t3 (HO.tup [V.ref p1', .ref p1']) t3 = some (HO.tup [V.ref p1', .ref p1']) := upd_same
    generalize upd J2 t3 (HO.tup [V.ref p1', .ref p1']) = J3 at s3 h3 ⊢
    refine ⟨v3, rfl, v4, rfl, sl2, fun t4 n4 => ?_⟩
    have s4 := same_upd (o := (HO.tup [v3, v4])) n4
    have h4 : upd J3 t4 (HO.tup [v3, v4]) t4 = some (HO.tup [v3, v4]) := upd_same
    generalize upd J3 t4 (HO.tup [v3, v4]) = J4 at s4 h4 ⊢
    refine ⟨v4, rfl, v3, rfl, sl2, fun t5 n5 => ?_⟩
    have s5 := same_upd (o := (HO.tup [v4, v3])) n5
    have h5 : upd J4 t5 (HO.tup [v4, v3]) t5 = some (HO.tup [v4, v3]) := upd_same
    generalize upd J4 t5 (HO.tup [v4, v3]) = J5 at s5 h5 ⊢
    have sJ5 := (((s1.trans s2').trans s3).trans s4).trans s5
    refine ⟨v3, rfl, .ref O, rfl, O, _, 0, v5, rfl, rfl, SqL.of (sJ5 _ _ hOJ), hv5, sl2, fun t6 n6 => ?_⟩
    have s6' := same_upd (o := (HO.tup [v3, v5])) n6
    have h6 : upd J5 t6 (HO.tup [v3, v5]) t6 = some (HO.tup [v3, v5]) := upd_same
    generalize upd J5 t6 (HO.tup [v3, v5]) = J6 at s6' h6 ⊢
    refine ⟨(show 6 ≤ sizeLine by decide), fun W nW => ?_⟩
    have s7' := same_upd (o := (HO.lst [V.ref t1, .ref t2, .ref t3, .ref t4, .ref t5, .ref t6])) nW
    have h7 : upd J6 W (HO.lst [V.ref t1, .ref t2, .ref t3, .ref t4, .ref t5, .ref t6]) W = some (HO.lst [V.ref t1, .ref t2, .ref t3, .ref t4, .ref t5, .ref t6]) := upd_same
    generalize upd J6 W (HO.lst [V.ref t1, .ref t2, .ref t3, .ref t4, .ref t5, .ref t6]) = J7 at s7' h7 ⊢
    have sJ7 := (sJ5.trans s6').trans s7'
    have tsJ := Ts.same sJ7
    obtain ⟨x, hx, mx⟩ := at_pick (xs := [V.ref t1, .ref t2, .ref t3, .ref t4, .ref t5, .ref t6]) w0 w1
    refine ⟨.int way, rfl, W, _, way, x, rfl, rfl, SqL.of h7, hx, ?_⟩
    have fin : ∀ (t : Addr) (u v : V), J7 t = some (.tup [u, v]) → HJ t = none → Rw HJ m u → Rw HJ m v → Q (.ref t) J7 := fun t u v ht nt hu hv => by
      obtain ⟨a, b, ca', ok⟩ := pair_at ht (hu.ts tsJ) (hv.ts tsJ) m6
      exact q t a b J7 ((DJ.same sJ7).mono (by omega)) (frJ.trans (Fr.of sJ7)) (none_of_frG frJ DJ nt) ca' ok
    have back : ∀ {G : Hp} {t : Addr}, Same HJ G → G t = none → HJ t = none := fun {G t} s n => by
      cases z : HJ t with
      | none => rfl
      | some o => rw [s _ _ z] at n; cases n
    simp only [List.mem_cons, List.not_mem_nil, or_false] at mx
    rcases mx with rfl | rfl | rfl | rfl | rfl | rfl
    · exact fin _ _ _ (s7' _ _ (s6' _ _ (s5 _ _ (s4 _ _ (s3 _ _ (s2' _ _ h1)))))) n1 w1' rb
    · exact fin _ _ _ (s7' _ _ (s6' _ _ (s5 _ _ (s4 _ _ (s3 _ _ h2))))) (back s1 n2) w1' w2
    · exact fin _ _ _ (s7' _ _ (s6' _ _ (s5 _ _ (s4 _ _ h3)))) (back (s1.trans s2') n3) w1' w1'
    · exact fin _ _ _ (s7' _ _ (s6' _ _ (s5 _ _ h4))) (back ((s1.trans s2').trans s3) n4) w3 w4
    · exact fin _ _ _ (s7' _ _ (s6' _ _ h5)) (back (((s1.trans s2').trans s3).trans s4) n5) w4 w3
    · exact fin _ _ _ (s7' _ _ h6) (back sJ5 n6) w3 w5

end
end Gk

set_option Elab.async false
set_option linter.all false
set_option maxRecDepth 100000
set_option maxHeartbeats 1000000
set_option pp.maxSteps 1500
set_option pp.deepTerms false
namespace Gk
open PySem PySem.Spec PyProof.Rows L2
section
variable {P : Program} {w : World} {K : PySem.W.Frag} {mg : Str → Option Value} {base : Heap}
/-! ### a wish drawn -/
abbrev Ch := List Int × List Int
def cD (c : Ch) : PyData := chD c.1 c.2
def wishD (m : Nat) (bs : List Bool) (chs : List Ch) : PyData := .tuple [.int m, .str (tabOf bs), .tuple (chs.map cD)]
structure WishOk (m : Nat) (bs : List Bool) (chs : List Ch) : Prop where
  m1 : 1 ≤ m
  m4 : m ≤ 4
  lb : bs.length = 2 ^ m
  lc : chs.length ≤ 64
  oc : ∀ c ∈ chs, ChOk m c.1 c.2
theorem ChAt.tk {H : Hp} {c : Addr} {a b : List Int} (h : ChAt H c a b) : Tk H (.ref c) (chD a b) := by
  obtain ⟨ra, rb, h1, h2, h3⟩ := h
  exact .tup h1 (.cons (.tup h2 (TkAll.ints a)) (.cons (.tup h3 (TkAll.ints b)) .nil))
theorem ChAt.of_tk {H : Hp} {v : V} {c : Ch} (h : Tk H v (cD c)) : ∃ p, v = .ref p ∧ ChAt H p c.1 c.2 := by
  obtain ⟨p, ra, rb, rfl, h1, h2, h3⟩ := Tk.ch_inv h
  exact ⟨p, rfl, ra, rb, h1, h2, h3⟩
theorem noL_chs (chs : List Ch) : noLs (chs.map cD) = true := noLs_map (f := cD) (fun c => noL_ch c.1 c.2) chs
theorem noL_wish (m : Nat) (bs : List Bool) (chs : List Ch) : noL (wishD m bs chs) = true := by
  show (true && (true && (noLs (chs.map cD) && true))) = true
  rw [noL_chs]
  rfl
theorem Tk.wish_inv {H : Hp} {v : V} {m : Nat} {bs : List Bool} {chs : List Ch} (h : Tk H v (wishD m bs chs)) : ∃ r t xs, v = .ref r ∧ H r = some (.tup [.int m, .str (tabOf bs), .ref t]) ∧ H t = some (.tup xs) ∧ TkAll H xs (chs.map cD) := by
  obtain ⟨r, xs, rfl, hr, t⟩ := h.tup_inv
  cases t with
  | cons h1 t => cases t with
    | cons h2 t => cases t with
      | cons h3 t =>
        cases t
        cases h1
        cases h2
        obtain ⟨t, ys, rfl, ht, tx⟩ := h3.tup_inv
        exact ⟨r, t, ys, rfl, hr, ht, tx⟩
def sp_wish (K : PySem.W.Frag) : Sp := fun vs H Q _ => ∃ (d l : Addr) (n mo : Int), vs = [.ref d, .int mo] ∧ DeckG H d l n ∧ n < 700000000 ∧ 1 ≤ mo ∧ mo ≤ 57 ∧ ∀ (r : Addr) (m : Nat) (bs : List Bool) (chs : List Ch) (H' : Hp), DeckG H' d l (n + 800) → Fr d l H H' → H r = none → Tk H' (.ref r) (wishD m bs chs) → WishOk m bs chs → Q (.ref r) H'
theorem ok_wish (T : Tx K mg) : FnOk P w K mg base CX0 4 T.f_wish T.fd_wish ["_law_deck_here", "_law_most"] (sp_wish K) := by
  refine T.F_wish.ok sc_wish (fun vs H Q E h => ?_) (fun cdv A outer s H vs Q E hr h => ?_)
  · obtain ⟨d, l, n, mo, rfl, _⟩ := h
    rfl
  · obtain ⟨d, l, n, mo, rfl, D, hn, o1, o57, q⟩ := h
    refine ⟨_, (pss_cons (ps_set (i := 2) sc_wish.nd rfl (by first | exact .inl rfl | exact .inr rfl) (pe_ix ix_list (pe_lst (pa_cons pe_int (pa_cons pe_int (pa_cons pe_int (pa_cons pe_int (pa_cons pe_int (pa_cons pe_int (pa_cons pe_int (pa_cons pe_int pa_nil))))))))) (pe_call (ok_next T) (hr.mono (by decide)) (by rfl) T.g_next T.F_next.kp T.b_next .nil pass0 (pa_cons (pv 0) (pa_cons pe_int pa_nil))) (fun _ _ => rfl))) (pss_cons (ps_set (i := 3) sc_wish.nd rfl (by first | exact .inl rfl | exact .inr rfl) (pe_ix ix_list (pe_lst (pa_cons pe_int (pa_cons pe_int (pa_cons pe_int (pa_cons pe_int (pa_cons pe_int (pa_cons pe_int (pa_cons pe_int (pa_cons pe_int pa_nil))))))))) (pe_call (ok_next T) (hr.mono (by decide)) (by rfl) T.g_next T.F_next.kp T.b_next .nil pass0 (pa_cons (pv 0) (pa_cons pe_int pa_nil))) (fun _ _ => rfl))) (pss_cons (ps_set (i := 4) sc_wish.nd rfl (by first | exact .inl rfl | exact .inr rfl) (pe_ix ix_list (pe_lst (pa_cons (pe_call (ok_next T) (hr.mono (by decide)) (by rfl) T.g_next T.F_next.kp T.b_next .nil pass0 (pa_cons (pv 0) (pa_cons pe_int pa_nil))) (pa_cons (pe_call (ok_next T) (hr.mono (by decide)) (by rfl) T.g_next T.F_next.kp T.b_next .nil pass0 (pa_cons (pv 0) (pa_cons pe_int pa_nil))) (pa_cons (pe_op op_add pe_int (pe_call (ok_next T) (hr.mono (by decide)) (by rfl) T.g_next T.F_next.kp T.b_next .nil pass0 (pa_cons (pv 0) (pa_cons (pv 1) pa_nil)))) pa_nil)))) (pv 3) (fun _ _ => rfl))) (pss_cons (ps_set (i := 5) sc_wish.nd rfl (by first | exact .inl rfl | exact .inr rfl) (pe_call (ok_table T) (hr.mono (by decide)) (by rfl) T.g_table T.F_table.kp T.b_table .nil pass0 (pa_cons (pv 0) (pa_cons (pv 2) pa_nil)))) (pss_one (ps_ret (pe_tup (pa_cons (pv 2) (pa_cons (pv 5) (pa_cons (pe_callTy call_tuple_of (by rfl) T.m_tuple (by decide +kernel) (pa_cons (pe_lc (own := [("_law_k", 6)]) (by rfl) sc_wish.nd (pi_range1 (by rfl) T.m_range (pa_cons (pv 4) pa_nil)) (blkOk_by (own := [("_law_k", 6)]) (N := ["_law_deck_here", "_law_most", "_law_many", "_law_way", "_law_count", "_law_table_here", "_law_k"]) (sc := defScope s_wish) (by decide +kernel)) (fun _ _ _ _ _ => (pg_name (i := 6) sc_wish.nd rfl (by first | exact .inl rfl | exact .inr rfl))) (fun _ _ _ _ _ => pts_nil) (fun _ _ _ _ _ => (pe_call (ok_change T) (hr.mono (by decide)) (by rfl) T.g_change T.F_change.kp T.b_change .nil pass0 (pa_cons (pv 0) (pa_cons (pv 2) (pa_cons (pv 5) pa_nil)))))) pa_nil)) pa_nil)))))))))), ?_⟩
    refine ⟨(show 8 ≤ sizeLine by decide), fun p1 np1 => ?_⟩
    have s1 := same_upd (o := (HO.lst [V.int 1, .int 2, .int 3, .int 3, .int 3, .int 4, .int 2, .int 4])) np1
    have h1 : upd H p1 (HO.lst [V.int 1, .int 2, .int 3, .int 3, .int 3, .int 4, .int 2, .int 4]) p1 = some (HO.lst [V.int 1, .int 2, .int 3, .int 3, .int 3, .int 4, .int 2, .int 4]) := upd_same
    generalize upd H p1 (HO.lst [V.int 1, .int 2, .int 3, .int 3, .int 3, .int 4, .int 2, .int 4]) = A1 at s1 h1 ⊢
    have D1 := D.same s1
    have o1' := D.off np1
    refine ⟨.ref d, rfl, d, l, 8, _, rfl, D1, by omega, by decide, by decide, fun H2 x D2 fr2 x0 x1 => ?_⟩
    obtain ⟨vm, hm, mm⟩ := at_pick (xs := [V.int 1, .int 2, .int 3, .int 3, .int 3, .int 4, .int 2, .int 4]) x0 x1
    refine ⟨p1, _, x, vm, rfl, rfl, SqL.of (fr2 _ _ o1'.1 o1'.2 h1), hm, ?_⟩
    obtain ⟨m, rfl, m1, m4⟩ : ∃ m : Nat, vm = .int m ∧ 1 ≤ m ∧ m ≤ 4 := by
      simp only [List.mem_cons, List.not_mem_nil, or_false] at mm
      rcases mm with rfl | rfl | rfl | rfl | rfl | rfl | rfl | rfl
      · exact ⟨1, rfl, by omega, by omega⟩
      · exact ⟨2, rfl, by omega, by omega⟩
      · exact ⟨3, rfl, by omega, by omega⟩
      · exact ⟨3, rfl, by omega, by omega⟩
      · exact ⟨3, rfl, by omega, by omega⟩
      · exact ⟨4, rfl, by omega, by omega⟩
      · exact ⟨2, rfl, by omega, by omega⟩
      · exact ⟨4, rfl, by omega, by omega⟩
    refine ⟨(show 8 ≤ sizeLine by decide), fun p2 np2 => ?_⟩
    have s3 := same_upd (o := (HO.lst [V.int 0, .int 0, .int 1, .int 1, .int 1, .int 0, .int 1, .int 2])) np2
    have h3 : upd H2 p2 (HO.lst [V.int 0, .int 0, .int 1, .int 1, .int 1, .int 0, .int 1, .int 2]) p2 = some (HO.lst [V.int 0, .int 0, .int 1, .int 1, .int 1, .int 0, .int 1, .int 2]) := upd_same
    generalize upd H2 p2 (HO.lst [V.int 0, .int 0, .int 1, .int 1, .int 1, .int 0, .int 1, .int 2]) = A3 at s3 h3 ⊢
    have D3 := D2.same s3
    have o2' := D2.off np2
    refine ⟨.ref d, rfl, d, l, 8, _, rfl, D3, by omega, by decide, by decide, fun H4 y D4 fr4 y0 y1 => ?_⟩
    obtain ⟨vw, hw, mw⟩ := at_pick (xs := [V.int 0, .int 0, .int 1, .int 1, .int 1, .int 0, .int 1, .int 2]) y0 y1
    refine ⟨p2, _, y, vw, rfl, rfl, SqL.of (fr4 _ _ o2'.1 o2'.2 h3), hw, ?_⟩
    obtain ⟨way, rfl, wy0, wy3⟩ : ∃ way : Int, vw = .int way ∧ 0 ≤ way ∧ way < 3 := by
      simp only [List.mem_cons, List.not_mem_nil, or_false] at mw
      rcases mw with rfl | rfl | rfl | rfl | rfl | rfl | rfl | rfl <;> exact ⟨_, rfl, by decide, by decide⟩
    have fr04 := ((Fr.of (d := d) (l := l) s1).trans fr2).trans ((Fr.of (d := d) (l := l) s3).trans fr4)
    refine ⟨.ref d, rfl, d, l, 4, _, rfl, D4, by omega, by decide, by decide, fun H5 c1 D5 fr5 c10 c11 => ?_⟩
    refine ⟨.ref d, rfl, d, l, 7, _, rfl, D5, by omega, by decide, by decide, fun H6 c2 D6 fr6 c20 c21 => ?_⟩
    refine ⟨.ref d, rfl, .int mo, rfl, d, l, mo, _, rfl, D6, by omega, by omega, by omega, fun H7 c3 D7 fr7 c30 c31 => ?_⟩
    refine ⟨_, _, rfl, rfl, sl3, fun p3 np3 => ?_⟩
    have s8 := same_upd (o := (HO.lst [V.int c1, .int c2, .int (8 + c3)])) np3
    have h8 : upd H7 p3 (HO.lst [V.int c1, .int c2, .int (8 + c3)]) p3 = some (HO.lst [V.int c1, .int c2, .int (8 + c3)]) := upd_same
    generalize upd H7 p3 (HO.lst [V.int c1, .int c2, .int (8 + c3)]) = A8 at s8 h8 ⊢
    have D8 := D7.same s8
    obtain ⟨vc, hc, mc⟩ := at_pick (xs := [V.int c1, .int c2, .int (8 + c3)]) wy0 wy3
    refine ⟨.int way, rfl, p3, _, way, vc, rfl, rfl, SqL.of h8, hc, ?_⟩
    obtain ⟨cnt, rfl, ct0, ct64⟩ : ∃ c : Int, vc = .int c ∧ 0 ≤ c ∧ c ≤ 64 := by
      simp only [List.mem_cons, List.not_mem_nil, or_false] at mc
      rcases mc with rfl | rfl | rfl
      · exact ⟨_, rfl, c10, by omega⟩
      · exact ⟨_, rfl, c20, by omega⟩
      · exact ⟨_, rfl, by omega, by omega⟩
    have fr08 := ((fr04.trans fr5).trans (fr6.trans fr7)).trans (Fr.of s8)
    first | (show (_ : L2.St → Hp → Prop) [some (.ref d), some (.int mo), some (.int m), some (.int way), some (.int cnt), none, none] A8) | (unfold gName; show (_ : L2.St → Hp → Prop) [some (.ref d), some (.int mo), some (.int m), some (.int way), some (.int cnt), none, none] A8) | (dsimp only; show (_ : L2.St → Hp → Prop) [some (.ref d), some (.int mo), some (.int m), some (.int way), some (.int cnt), none, none] A8) | (dsimp only [gName]; show (_ : L2.St → Hp → Prop) [some (.ref d), some (.int mo), some (.int m), some (.int way), some (.int cnt), none, none] A8)
    refine ⟨.ref d, rfl, .int m, rfl, d, l, _, m, rfl, D8, by omega, m1, by omega, fun bs H9 D9 fr9 lb => ?_⟩
    have fr09 := fr08.trans fr9
    first | (show (_ : L2.St → Hp → Prop) [some (.ref d), some (.int mo), some (.int m), some (.int way), some (.int cnt), some (.str (tabOf bs)), none] H9) | (unfold gName; show (_ : L2.St → Hp → Prop) [some (.ref d), some (.int mo), some (.int m), some (.int way), some (.int cnt), some (.str (tabOf bs)), none] H9) | (dsimp only; show (_ : L2.St → Hp → Prop) [some (.ref d), some (.int mo), some (.int m), some (.int way), some (.int cnt), some (.str (tabOf bs)), none] H9) | (dsimp only [gName]; show (_ : L2.St → Hp → Prop) [some (.ref d), some (.int mo), some (.int m), some (.int way), some (.int cnt), some (.str (tabOf bs)), none] H9)
    refine ⟨.int m, rfl, .str (tabOf bs), rfl, .int cnt, rfl, cnt, rfl, by omega, by omega, fun L nL => ?_⟩
    have oL := D9.off nL
    have nL0 := none_of_frG fr09 D9 nL
    refine lc_range (g := gName 6) (lo := 0) (n := cnt.toNat) (fun j H' => DeckG H' d l (n + 305 + 6 * j) ∧ Fr d l H H' ∧ ∃ (xs : List V) (chs : List Ch), H' L = some (.lst xs) ∧ xs.length = j ∧ TkAll H' xs (chs.map cD) ∧ ∀ c ∈ chs, ChOk m c.1 c.2) ⟨(D9.same (same_upd nL)).mono (by omega), fr09.trans (Fr.new nL), [], [], upd_same, rfl, .nil, fun c hc => by cases hc⟩ ?_ ?_
    · rintro j H10 hj ⟨D10, fr10, xs, chs, hL, lx, tx, okc⟩
      have hj' : j < 64 := by omega
      refine ⟨rfl, .ref d, rfl, .int m, rfl, .str (tabOf bs), rfl, d, l, _, m, bs, rfl, D10, by omega, m1, by omega, lb, fun c a b H11 D11 fr11 nc ca ok => ?_⟩
      have hL11 := fr11 _ _ oL.1 oL.2 hL
      have tsL := (Ts.frG D10 fr11).trans (Ts.set (ys := xs ++ [V.ref c]) hL11)
      refine ⟨_, hL11, Nat.lt_of_lt_of_le (show _ < 128 by omega) (by decide), (D11.upd oL.1 oL.2).mono (by push_cast; omega), Fr.upd (fr10.trans fr11) nL0, xs ++ [V.ref c], chs ++ [(a, b)], upd_same, by rw [List.length_append, lx]; rfl, ?_, fun z hz => ?_⟩
      · rw [List.map_append]
        exact (tx.ts tsL (noL_chs _)).append (.cons ((ca.tk).ts (Ts.set hL11) (noL_ch a b)) .nil)
      · rcases List.mem_append.mp hz with h | h
        · exact okc z h
        · rw [List.mem_singleton.mp h]; exact ok
    rintro H10 ⟨D10, fr10, xs, chs, hL, lx, tx, okc⟩
    refine ⟨L, _, rfl, .inl ⟨SqL.of hL, fun t nt => ?_⟩⟩
    have s11 := same_upd (o := (HO.tup xs)) nt
    have h11 : upd H10 t (HO.tup xs) t = some (HO.tup xs) := upd_same
    generalize upd H10 t (HO.tup xs) = A11 at s11 h11 ⊢
    refine ⟨sl3, fun r nr => ?_⟩
    have s12 := same_upd (o := (HO.tup [V.int m, .str (tabOf bs), .ref t])) nr
    have h12 : upd A11 r (HO.tup [V.int m, .str (tabOf bs), .ref t]) r = some (HO.tup [V.int m, .str (tabOf bs), .ref t]) := upd_same
    generalize upd A11 r (HO.tup [V.int m, .str (tabOf bs), .ref t]) = A12 at s12 h12 ⊢
    have sa := s11.trans s12
    have nr10 : H10 r = none := by
      cases z : H10 r with
      | none => rfl
      | some o => rw [s11 _ _ z] at nr; cases nr
    have lcx := tx.length
    rw [List.length_map] at lcx
    exact q r m bs chs A12 ((D10.same sa).mono (by omega)) (fr10.trans (Fr.of sa)) (none_of_frG fr10 D10 nr10) (.tup h12 (.cons (.int _) (.cons (.str _) (.cons (.tup (s12 _ _ h11) (tx.same sa)) .nil)))) ⟨m1, m4, lb, by omega, okc⟩

end
end Gk

set_option Elab.async false
set_option linter.all false
set_option maxRecDepth 100000
set_option maxHeartbeats 1000000
set_option pp.maxSteps 1500
set_option pp.deepTerms false
namespace Gk
open PySem PySem.Spec PyProof.Rows L2
section
variable {P : Program} {w : World} {K : PySem.W.Frag} {mg : Str → Option Value} {base : Heap}
/-! ### all choices -/
def stepC {α : Type} (cs : List (List α)) (os : List α) : List (List α) := cs.flatMap fun c => os.map fun o => c ++ [o]
def chs {α : Type} (ls : List (List α)) : List (List α) := ls.foldl stepC [[]]
theorem chs_snoc {α : Type} (ls : List (List α)) (os : List α) : chs (ls ++ [os]) = stepC (chs ls) os := by
  unfold chs
  rw [List.foldl_append]
  rfl
theorem stepC_snoc {α : Type} (cs : List (List α)) (c : List α) (os : List α) : stepC (cs ++ [c]) os = stepC cs os ++ os.map fun o => c ++ [o] := by
  unfold stepC
  rw [List.flatMap_append]
  simp
theorem stepC_len {α : Type} (cs : List (List α)) (os : List α) : (stepC cs os).length = cs.length * os.length := by
  induction cs with
  | nil => simp [stepC]
  | cons c r ih =>
    have : stepC (c :: r) os = (os.map fun o => c ++ [o]) ++ stepC r os := by simp [stepC]
    rw [this, List.length_append, List.length_map, ih, List.length_cons, Nat.succ_mul]
    omega
theorem chs_len {α : Type} (m : Nat) (hm : 1 ≤ m) : ∀ (n : Nat) (ls : List (List α)), ls.length = n → (∀ l ∈ ls, l.length ≤ m) → (chs ls).length ≤ m ^ n := by
  intro n
  induction n with
  | zero =>
    intro ls h _
    cases List.eq_nil_of_length_eq_zero h
    exact Nat.le_refl _
  | succ n ih =>
    intro ls h hl
    have hne : ls ≠ [] := fun z => by rw [z] at h; cases h
    obtain ⟨r, x, rfl⟩ : ∃ r x, ls = r ++ [x] := ⟨ls.dropLast, ls.getLast hne, (List.dropLast_concat_getLast hne).symm⟩
    have hr := ih r (by rw [List.length_append] at h; simpa using h) fun l h' => hl l (List.mem_append_left _ h')
    rw [chs_snoc, stepC_len, Nat.pow_succ]
    exact Nat.mul_le_mul hr (hl x (by simp))
theorem chs_width {α : Type} : ∀ (ls : List (List α)) (c : List α), c ∈ chs ls → c.length = ls.length := by
  have key : ∀ (n : Nat) (ls : List (List α)), ls.length = n → ∀ c ∈ chs ls, c.length = n := by
    intro n
    induction n with
    | zero =>
      intro ls h c hc
      cases List.eq_nil_of_length_eq_zero h
      cases List.mem_singleton.mp hc
      rfl
    | succ n ih =>
      intro ls h c hc
      have hne : ls ≠ [] := fun z => by rw [z] at h; cases h
      obtain ⟨r, x, rfl⟩ : ∃ r x, ls = r ++ [x] := ⟨ls.dropLast, ls.getLast hne, (List.dropLast_concat_getLast hne).symm⟩
      rw [chs_snoc] at hc
      obtain ⟨c0, h0, hc⟩ := List.mem_flatMap.mp hc
      obtain ⟨o, _, rfl⟩ := List.mem_map.mp hc
      rw [List.length_append, ih r (by rw [List.length_append] at h; simpa using h) c0 h0]
      rfl
  exact fun ls c h => key _ ls rfl c h
theorem chs_map {α β : Type} (f : α → β) : ∀ (n : Nat) (ls : List (List α)), ls.length = n → chs (ls.map (List.map f)) = (chs ls).map (List.map f) := by
  intro n
  induction n with
  | zero =>
    intro ls h
    cases List.eq_nil_of_length_eq_zero h
    rfl
  | succ n ih =>
    intro ls h
    have hne : ls ≠ [] := fun z => by rw [z] at h; cases h
    obtain ⟨r, x, rfl⟩ : ∃ r x, ls = r ++ [x] := ⟨ls.dropLast, ls.getLast hne, (List.dropLast_concat_getLast hne).symm⟩
    rw [List.map_append, List.map_singleton, chs_snoc, chs_snoc, ih r (by rw [List.length_append] at h; simpa using h)]
    unfold stepC
    rw [List.flatMap_map, List.map_flatMap]
    congr 1
    funext c
    simp
def sp_choices_of (K : PySem.W.Frag) : Sp := fun vs H Q _ => ∃ (la : Addr) (xs : List V) (os : List (List PyData)), vs = [.ref la] ∧ H la = some (.lst xs) ∧ TkAll H xs (os.map PyData.tuple) ∧ (os.length ≤ 3 ∨ os.length ≤ 8 ∧ ∀ o ∈ os, o.length ≤ 2) ∧ (∀ o ∈ os, o.length ≤ 8) ∧ ∀ r H', Same H H' → Tk H' (.ref r) (.tuple ((chs os).map PyData.tuple)) → Q (.ref r) H'
theorem ok_choices_of (T : Tx K mg) : FnOk P w K mg base CX0 1 T.f_choices_of T.fd_choices_of ["lists"] (sp_choices_of K) := by
  refine T.F_choices_of.ok sc_choices_of (fun vs H Q E h => ?_) (fun cdv A outer s H vs Q E hr h => ?_)
  · obtain ⟨la, xs, os, rfl, _⟩ := h
    rfl
  · obtain ⟨la, xs, os, rfl, hla, tk, o3, o8, q⟩ := h
    have big : ∀ i, i ≤ os.length → (chs (os.take i)).length ≤ 512 := fun i hi => by
      rcases o3 with o3 | ⟨o3, o2⟩
      · have h1 := chs_len 8 (by decide) i (os.take i) (by rw [List.length_take]; omega) fun l hl => o8 l (List.mem_of_mem_take hl)
        have h2 : 8 ^ i ≤ 8 ^ 3 := Nat.pow_le_pow_right (by decide) (by omega)
        omega
      · have h1 := chs_len 2 (by decide) i (os.take i) (by rw [List.length_take]; omega) fun l hl => o2 l (List.mem_of_mem_take hl)
        have h2 : 2 ^ i ≤ 2 ^ 8 := Nat.pow_le_pow_right (by decide) (by omega)
        omega
    refine ⟨_, (pss_cons (ps_set (i := 1) sc_choices_of.nd rfl (by first | exact .inl rfl | exact .inr rfl) (pe_lst (pa_cons (pe_tup pa_nil) pa_nil))) (pss_cons (ps_for PassesOwn.never rfl (pi_list (pv 0)) (pg_name (i := 2) sc_choices_of.nd rfl (by first | exact .inl rfl | exact .inr rfl)) (pss_one (ps_setLc2 (i := 1) (own := [("choice", 3), ("option", 4)]) (vs1 := [4]) (by rfl) sc_choices_of.nd rfl rfl (sw_true rfl rfl rfl (by decide +kernel)) (pi_list (pv 1)) (blkOk_by (own := [("choice", 3), ("option", 4)]) (N := ["lists", "choices", "options", "choice", "option"]) (sc := defScope s_choices_of) (by decide +kernel)) (by decide) (fun _ _ _ _ _ => (pg_name (i := 3) sc_choices_of.nd rfl (by first | exact .inl rfl | exact .inr rfl))) (fun _ _ _ _ _ => pts_nil) (fun _ _ _ _ _ => (show PI _ _ _ (iTup K _) from pi_tup (pv 2))) (fun _ _ _ _ _ => (pg_name (i := 4) sc_choices_of.nd rfl (by first | exact .inl rfl | exact .inr rfl))) (fun _ _ _ _ _ => pts_nil) (fun _ _ _ _ _ => (pe_op (show OpR _ _ (rCatA K) from op_catA) (pv 3) (pe_tup (pa_cons (pv 4) pa_nil))))))) (pss_one (ps_ret (pe_callTy call_tuple_of (by rfl) T.m_tuple (by decide +kernel) (pa_cons (pv 1) pa_nil)))))), ?_⟩
    refine ⟨Nat.zero_le _, fun t0 n0 => ⟨sl1, fun c0 nc0 => ?_⟩⟩
    refine ⟨.ref la, rfl, la, rfl, ⟨_, SqL.of (same_upd nc0 _ _ (same_upd n0 _ _ hla))⟩, for_list (K := K) (a := la) (xs := xs) (fun i σ H' => ∃ ca y2, σ = [some (.ref la), some (.ref ca), y2, none, none] ∧ Same H H' ∧ Tk H' (.ref ca) (.list ((chs (os.take i)).map PyData.tuple)))
      ⟨c0, none, rfl, (same_upd n0).trans (same_upd nc0), .lst upd_same (.cons (.tup (same_upd nc0 _ _ upd_same) .nil) .nil)⟩ (fun i σ H' _ ⟨_, _, _, z, _⟩ => SqL.of (z _ _ hla)) ?_ ?_⟩
    · rintro i x σ H1 hx ⟨ca, y2, rfl, s1, tc⟩
      obtain ⟨dx, hdx, tx⟩ := tk.get hx
      obtain ⟨op, hop, rfl⟩ : ∃ op, os[i]? = some op ∧ dx = .tuple op := by
        rw [List.getElem?_map] at hdx
        cases hz : os[i]? with
        | none => rw [hz] at hdx; cases hdx
        | some op => rw [hz] at hdx; exact ⟨op, rfl, (Option.some.inj hdx).symm⟩
      obtain ⟨oa, ys, rfl, hoa, ty⟩ := tx.tup_inv
      obtain ⟨ca', cs, e, hca, tcs⟩ := tc.lst_inv
      cases e
      have hi : i < os.length := (List.getElem?_eq_some_iff.mp hop).1
      have o8' := o8 op (List.mem_of_getElem? hop)
      have ytake : chs (os.take (i + 1)) = stepC (chs (os.take i)) op := by
        rw [List.take_add_one, hop]
        exact chs_snoc _ _
      have bigN := big (i + 1) hi
      rw [ytake] at bigN
      refine ⟨.ref ca, rfl, ca, rfl, ⟨_, SqL.of hca⟩, fun D nD => ?_⟩
      have lcs : cs.length = (chs (os.take i)).length := by rw [tcs.length, List.length_map]
      -- both walks
      refine ⟨fun k m H' => m = cs.length - k ∧ k ≤ cs.length ∧ Same H1 (hd1 D H') ∧ ∃ acc, H' D = some (.lst acc) ∧ TkAll (hd1 D H') acc ((stepC ((chs (os.take i)).take k) op).map PyData.tuple), ⟨_, rfl, Nat.zero_le _, hd1_of (same_upd nD) nD, [], upd_same, .nil⟩, ?_⟩
      rintro k m H2 ⟨rfl, hk, s2, acc, hD, ta⟩
      have hca2 := hd1_le _ _ (s2 _ _ hca)
      by_cases hlt : k < cs.length
      · obtain ⟨c, hc⟩ : ∃ c, (chs (os.take i))[k]? = some c := ⟨_, List.getElem?_eq_getElem (by omega)⟩
        have htk : (chs (os.take i)).take (k + 1) = (chs (os.take i)).take k ++ [c] := by
          rw [List.take_add_one, hc]
          rfl
        refine .inr ⟨⟨cs, cs[k], SqL.of hca2, List.getElem?_eq_getElem hlt⟩, fun H' => Same H1 (hd1 D H') ∧ ∃ acc, H' D = some (.lst acc) ∧ TkAll (hd1 D H') acc ((stepC ((chs (os.take i)).take (k + 1)) op).map PyData.tuple), fun σ' ⟨z1, z2⟩ => ⟨cs.length - (k + 1), by omega, rfl, by omega, z1, z2⟩, fun x H' hy => ?_⟩
        obtain ⟨rfl, hy⟩ := hy
        have hx2 : cs[k]? = some x := hy cs (SqL.of hca2)
        obtain ⟨dc, hdc, tx2⟩ := tcs.get hx2
        obtain rfl : dc = .tuple c := by
          rw [List.getElem?_map, hc] at hdc
          exact (Option.some.inj hdc).symm
        obtain ⟨xa, zs, rfl, hxa, tz⟩ := tx2.tup_inv
        refine ⟨rfl, ?_⟩
        have hoa2 := hd1_le _ _ (s2 _ _ (s1 _ _ hoa))
        refine ⟨.ref oa, rfl, oa, rfl, ⟨_, SqT.of hoa2⟩, ?_⟩
        refine ⟨fun j n H' => n = ys.length - j ∧ j ≤ ys.length ∧ Same H1 (hd1 D H') ∧ ∃ acc, H' D = some (.lst acc) ∧ TkAll (hd1 D H') acc ((stepC ((chs (os.take i)).take k) op ++ (op.take j).map fun o => c ++ [o]).map PyData.tuple), ⟨_, rfl, Nat.zero_le _, s2, acc, hD, by rw [List.take_zero, List.map_nil, List.append_nil]; exact ta⟩, ?_⟩
        rintro j n H3 ⟨rfl, hj, s3, acc3, hD3, ta3⟩
        have hoa3 := hd1_le _ _ (s3 _ _ (s1 _ _ hoa))
        have lys : ys.length = op.length := ty.length
        by_cases hjl : j < ys.length
        · obtain ⟨ov, hov⟩ : ∃ ov, op[j]? = some ov := ⟨_, List.getElem?_eq_getElem (by omega)⟩
          refine .inr ⟨⟨ys, ys[j], SqT.of hoa3, List.getElem?_eq_getElem hjl⟩, fun H' => Same H1 (hd1 D H') ∧ ∃ acc, H' D = some (.lst acc) ∧ TkAll (hd1 D H') acc ((stepC ((chs (os.take i)).take k) op ++ (op.take (j + 1)).map fun o => c ++ [o]).map PyData.tuple), fun σ' ⟨z1, z2⟩ => ⟨ys.length - (j + 1), by omega, rfl, by omega, z1, z2⟩, fun y Hn hy => ?_⟩
          obtain ⟨rfl, hy⟩ := hy
          have hy2 : ys[j]? = some y := hy ys (SqT.of hoa3)
          obtain ⟨dy, hdy, ty2⟩ := ty.get hy2
          cases Option.some.inj (hdy.symm.trans hov)
          refine ⟨rfl, ?_⟩
          -- choice + (option,)
          have hxa3 := hd1_le _ _ (s3 _ _ hxa)
          refine ⟨.ref xa, rfl, y, rfl, sl1, fun t nt => ?_⟩
          have st := same_upd (o := .tup [y]) nt
          have ntD : t ≠ D := (ne_of_none hD3 nt).symm
          have sD := hd1_same (p := D) st
          have ty3 : Tk (hd1 D Hn) y ov := ty2.same (s1.trans s3)
          have tz3 : TkAll (hd1 D Hn) zs c := tz.same s3
          have lacc : acc3.length < sizeLine := by
            have h1 := ta3.length
            rw [List.length_map, List.length_append, stepC_len, List.length_map, List.length_take, List.length_take] at h1
            have h2 : min k (chs (os.take i)).length * op.length ≤ 512 * 8 := Nat.mul_le_mul (by have := big i (by omega); omega) o8'
            have : sizeLine = 16777216 := by decide
            omega
          have done : ∀ (H4 : Hp) (p : Addr), Same (hd1 D Hn) (hd1 D H4) → H4 D = some (.lst acc3) → p ≠ D → H4 p = some (.tup (zs ++ [y])) → TkAll (hd1 D H4) zs c → Tk (hd1 D H4) y ov → ∃ acc, H4 D = some (.lst acc) ∧ acc.length < sizeLine ∧ Same H1 (hd1 D (upd H4 D (.lst (acc ++ [.ref p])))) ∧ ∃ acc', (upd H4 D (.lst (acc ++ [.ref p]))) D = some (.lst acc') ∧ TkAll (hd1 D (upd H4 D (.lst (acc ++ [.ref p])))) acc' ((stepC ((chs (os.take i)).take k) op ++ (op.take (j + 1)).map fun o => c ++ [o]).map PyData.tuple) := fun H4 p s4 h4 np hp tzz tyy => by
            refine ⟨acc3, h4, lacc, (s3.trans s4).trans hd1_upd, acc3 ++ [.ref p], upd_same, ?_⟩
            rw [List.take_add_one, hov]
            show TkAll _ _ ((_ ++ (op.take j ++ [ov]).map _).map _)
            rw [List.map_append (l₁ := op.take j), ← List.append_assoc, List.map_append]
            refine ((ta3.same s4).same hd1_upd).append (.cons (.tup (xs := zs ++ [y]) ?_ ((tzz.same hd1_upd).append (.cons (tyy.same hd1_upd) .nil))) .nil)
            rw [hd1_at np, upd_ne np]
            exact hp
          have lz : zs.length + 1 ≤ sizeLine := by
            have h1 := (Tk.tup hxa tz)
            have h2 := tz.length
            have h3 : c.length ≤ 8 := by
              have := chs_width (os.take i) c (List.mem_of_getElem? hc)
              have h8 : os.length ≤ 8 := by rcases o3 with o | ⟨o, _⟩ <;> omega
              rw [this, List.length_take]
              omega
            have : sizeLine = 16777216 := by decide
            omega
          refine ⟨xa, t, zs, [y], rfl, rfl, SqT.of (st _ _ hxa3), SqT.of upd_same, lz, fun ez => ?_, (fun _ z => by cases z), fun nz _ p np => ?_⟩
          · subst ez
            exact done _ t sD (st _ _ hD3) ntD upd_same (tz3.same sD) (ty3.same sD)
          · have sp := same_upd (o := .tup (zs ++ [y])) np
            have sDp := hd1_same (p := D) sp
            have npD : p ≠ D := (ne_of_none (st _ _ hD3) np).symm
            exact done _ p (sD.trans sDp) (sp _ _ (st _ _ hD3)) npD upd_same ((tz3.same sD).same sDp) ((ty3.same sD).same sDp)
        · have ej : j = ys.length := by omega
          refine .inl ⟨⟨ys, SqT.of hoa3, by omega⟩, s3, acc3, hD3, ?_⟩
          rw [htk, stepC_snoc]
          rw [ej, lys, List.take_length] at ta3
          exact ta3
      · have ek : k = cs.length := by omega
        refine .inl ⟨⟨cs, SqL.of hca2, by omega⟩, ?_⟩
        refine ⟨D, _, rfl, fun b o e => hd1_le _ _ (s2 _ _ (s1 _ _ e)), ?_⟩
        rw [ytake]
        refine .lst hD ?_
        rw [ek, lcs, List.take_length] at ta
        exact ta.same hd1_le
    · rintro σ H1 ⟨ca, y2, rfl, s1, tc⟩
      have lx : xs.length = os.length := by rw [tk.length, List.length_map]
      rw [lx, List.take_length] at tc
      obtain ⟨ca', cs, e, hca, tcs⟩ := tc.lst_inv
      cases e
      refine ⟨.ref ca, rfl, ca, cs, rfl, .inl ⟨SqL.of hca, fun r nr => ?_⟩⟩
      exact q r _ (s1.trans (same_upd nr)) (.tup upd_same (tcs.same (same_upd nr)))

def rowsI (m : Nat) : List (List Int) := chs (List.replicate m [0, 1])
theorem rep_ref (x : V) : ∀ k : Nat, (List.replicate k [x]).flatten = List.replicate k x
  | 0 => rfl
  | k + 1 => by rw [List.replicate_succ, List.flatten_cons, rep_ref x k]; rfl
theorem TkAll.rep {H : Hp} {v : V} {d : PyData} (h : Tk H v d) : ∀ k : Nat, TkAll H (List.replicate k v) (List.replicate k d)
  | 0 => .nil
  | k + 1 => .cons h (TkAll.rep h k)
theorem rows_data (m : Nat) : (chs (List.replicate m [PyData.int 0, PyData.int 1])).map PyData.tuple = (rowsI m).map rowD := by
  have e : List.replicate m [PyData.int 0, PyData.int 1] = (List.replicate m [(0 : Int), 1]).map (List.map PyData.int) := by rw [List.map_replicate]; rfl
  rw [e, chs_map PyData.int _ _ rfl, List.map_map]
  rfl
def sp_rows_of (K : PySem.W.Frag) : Sp := fun vs H Q _ => ∃ m : Nat, vs = [.int m] ∧ 1 ≤ m ∧ m ≤ 6 ∧ ∀ r H', Same H H' → Tk H' (.ref r) (.tuple ((rowsI m).map rowD)) → Q (.ref r) H'
theorem ok_rows_of (T : Tx K mg) : FnOk P w K mg base CX0 2 T.f_rows_of T.fd_rows_of ["many"] (sp_rows_of K) := by
  refine T.F_rows_of.ok sc_rows_of (fun vs H Q E h => ?_) (fun cdv A outer s H vs Q E hr h => ?_)
  · obtain ⟨m, rfl, _⟩ := h
    rfl
  · obtain ⟨m, rfl, m1, m6, q⟩ := h
    refine ⟨_, (pss_one (ps_ret (pe_call (ok_choices_of T) (hr.mono (by decide)) (by rfl) T.g_choices_of T.F_choices_of.kp T.b_choices_of .nil pass0 (pa_cons (pe_op op_rep (pe_lst (pa_cons (pe_tup (pa_cons pe_int (pa_cons pe_int pa_nil))) pa_nil)) (pv 0)) pa_nil)))), ?_⟩
    refine ⟨sl2, fun t nt => ⟨sl1, fun p np => ?_⟩⟩
    have s1 := same_upd (o := HO.tup [V.int 0, V.int 1]) nt
    have s2 := same_upd (o := HO.lst [V.ref t]) np
    refine ⟨.int m, rfl, p, m, _, rfl, rfl, upd_same, by omega, by omega, ?_, fun l nl => ?_⟩
    · show 1 * (m : Int).toNat ≤ sizeLine
      exact Nat.le_trans (show _ ≤ 8 by omega) (by decide)
    rw [rep_ref, show (m : Int).toNat = m by omega]
    have s3 := same_upd (o := HO.lst (List.replicate m (V.ref t))) nl
    have ht := s3 _ _ (s2 _ _ (show (upd H t (.tup [V.int 0, V.int 1])) t = _ from upd_same))
    refine ⟨l, _, List.replicate m [.int 0, .int 1], rfl, upd_same, ?_, .inr ⟨by rw [List.length_replicate]; omega, fun o ho => ?_⟩, fun o ho => ?_, fun r H' s4 tr => ?_⟩
    · rw [List.map_replicate]
      exact TkAll.rep (.tup ht (.cons (.int 0) (.cons (.int 1) .nil))) m
    · rw [(List.mem_replicate.mp ho).2]
      exact Nat.le_refl _
    · rw [(List.mem_replicate.mp ho).2]
      decide
    · rw [rows_data] at tr
      exact q r H' (((s1.trans s2).trans s3).trans s4) tr
/-! ### counted up -/
def incr : List Int → List Int
  | [] => []
  | x :: r => if r.all (fun y => decide (y = 1)) = true then 1 :: r.map (fun _ => 0) else x :: incr r
theorem rows_step : ((List.range 7).all fun m => (List.range (2 ^ m - 1)).all fun i => decide ((rowsI m)[i + 1]? = ((rowsI m)[i]?).map incr) && ((rowsI m)[i]?).any (fun r => decide ((0 : Int) ∈ r))) = true := by decide +kernel
theorem rows_ends : ((List.range 7).all fun m => decide ((rowsI m).length = 2 ^ m) && (decide ((rowsI m)[0]? = some (List.replicate m 0)) && decide ((rowsI m)[2 ^ m - 1]? = some (List.replicate m 1)))) = true := by decide +kernel
theorem rows_len {m i : Nat} {r : List Int} (h : (rowsI m)[i]? = some r) : r.length = m := by
  have := chs_width (List.replicate m [(0 : Int), 1]) r (List.mem_of_getElem? h)
  rw [List.length_replicate] at this
  exact this

end
end Gk

set_option Elab.async false
set_option linter.all false
set_option maxRecDepth 100000
set_option maxHeartbeats 1000000
set_option pp.maxSteps 1500
set_option pp.deepTerms false
namespace Gk
open PySem PySem.Spec PyProof.Rows L2
section
variable {P : Program} {w : World} {K : PySem.W.Frag} {mg : Str → Option Value} {base : Heap}
/-! ### enumerate(tuple) -/
theorem draws_tuple {P : Program} {w : World} {A : Around} (hA : A.handled = none) (it a : Addr) (items : Array Value) (hne : a ≠ it) : Draws P w A it [it, a] items.size (fun i v => items[i]? = some v) (fun i h => h.IsTupleIter it a i ∧ h.IsTuple a items) where
  live := fun _ _ st => let ⟨o, ho, _⟩ := st.1; ⟨o, ho⟩
  frame := fun _ _ _ st hk => ⟨st.1.at fun o e => hk it (by simp) o e, by
    obtain ⟨o, ho, r⟩ := st.2
    exact ⟨o, hk a (by simp) o ho, r⟩⟩
  item := fun i s Q E hi st hQ => by
    refine RZ.nextOf_tuple_item st.1 st.2 (x := items[i]) (by simp [hi]) fun h' hit' hs' => ?_
    refine hQ _ h' s.toks (by simp [hi]) ⟨hit', ?_⟩ hs'
    obtain ⟨o, ho, r⟩ := st.2
    exact ⟨o, hs'.extBut a o hne ho, r⟩
  done := fun s Q E st hE => RZ.nextOf_tuple_end hA st.1 st.2 (by simp) hE
open PySem.AutoSeq1 in
set_option maxHeartbeats 1000000 in
theorem meets_enumerate_newT (l : Addr) (items : Array Value) (o : Obj) (hc : o.cls = .type "tuple") (n : Nat) (hd : o.data = .seq items n) :
    Meets (Builtin.«enumerate.__new__» ⟨[.type "enumerate", .ref l], []⟩) (fun _ R s => s.heap.get? l = some o ∧
      R (.ok (.ret (.ref (s.heap.push { cls := .type "tuple_iterator", data := .fields #[.ref l, .int 0 0] }).objs.size)))
        { s with heap := (s.heap.push { cls := .type "tuple_iterator", data := .fields #[.ref l, .int 0 0] }).push { cls := .type "enumerate", data := .fields #[.none, .bool false, .ref s.heap.objs.size, rawInt 0, .none, .none] } }) :=
  .of_wp fun prog w A R s h => by
    obtain ⟨hp, g, d, tk, os⟩ := s; obtain ⟨hl, h⟩ := h
    have hsub := sub_enumerate
    have hL : Heap.IsTuple (Shared.heap ⟨hp, g, d, tk, os⟩) l items := ⟨_, hl, hc, n, hd⟩
    wp_walk using wpAny_loadPart' hl
    refine wpAny_stack_any fun st => wpAny_pure ?_
    split
    · rename_i c _ _ _ _ _
      cases (c == Value.type "enumerate")
      · wp_walk using wpAny_loadPart' hl, wpAny_pyIter_tuple hL
        exact ⟨_, rfl, h⟩
      · wp_walk using wpAny_loadPart' hl, wpAny_pyIter_tuple hL
        exact ⟨_, rfl, h⟩
    · wp_walk using wpAny_loadPart' hl, wpAny_pyIter_tuple hL
      exact ⟨_, rfl, h⟩
theorem call_enumerate_tuple {prog : Program} {w : World} {A : Around} {E : Value → Shared → Prop} {s : Shared} {l : Addr} {items : Array Value} {Q : Value → Shared → Prop} (hL : s.heap.IsTuple l items)
    (h : ∀ h', IsEnum h' (s.heap.objs.size + 1) s.heap.objs.size 0 .none → h'.IsTupleIter s.heap.objs.size l 0 → h'.objs.size = s.heap.objs.size + 2 →
      (∀ b o, s.heap.get? b = some o → h'.get? b = some o) → Q (.ref (s.heap.objs.size + 1)) { s with heap := h' }) :
    wpAny (model prog w) A (call (.type "enumerate") [.ref l]) Q E s := by
  obtain ⟨o, hl, hc, n, hd⟩ := hL
  refine callType_new F.called_enumerate (by decide) (F.typeCall_enumerate_1 _) (F.newCall_enumerate_1 _) (fun obj => F.args_object_init_2 obj _) F.entry_enumerate_new
    (meets_enumerate_newT l items o hc n hd) ⟨hl, ?_⟩
  have hz : (s.heap.push { cls := .type "tuple_iterator", data := .fields #[.ref l, .int 0 0] }).objs.size = s.heap.objs.size + 1 := Heap.size_push ..
  show _ ∧ _
  rw [hz]
  have he : IsEnum ((s.heap.push { cls := .type "tuple_iterator", data := .fields #[.ref l, .int 0 0] }).push
      { cls := .type "enumerate", data := .fields #[.none, .bool false, .ref s.heap.objs.size, rawInt 0, .none, .none] }) (s.heap.objs.size + 1) s.heap.objs.size 0 .none := by
    have := Heap.get?_push_size (s.heap.push { cls := .type "tuple_iterator", data := .fields #[.ref l, .int 0 0] })
      (o := { cls := .type "enumerate", data := .fields #[.none, .bool false, .ref s.heap.objs.size, rawInt 0, .none, .none] }) rfl
    rw [hz] at this; exact this
  refine ⟨⟨_, he, rfl⟩, h _ he ⟨_, Heap.get?_push_of_some _ (Heap.get?_push_size _ rfl), rfl, rfl⟩ (by rw [Heap.size_push, hz]) fun b o x => Heap.get?_push_of_some _ (Heap.get?_push_of_some _ x)⟩
/-- the tuple at a, each item in a new pair -/
def IteT (K : PySem.W.Frag) (a : Addr) : It :=
  ⟨fun i H => ∃ (xs : List V) (x : V), SqT K H a xs ∧ xs[i]? = some x, fun i H v H' => ∃ T x, v = .ref T ∧ H T = none ∧ H' = upd H T (.tup [.int (i : Nat), x]) ∧ ∀ xs, SqT K H a xs → xs[i]? = some x, fun i H => ∃ xs : List V, SqT K H a xs ∧ xs.length = i⟩
theorem turn_enumT {P : Program} {w : World} {K : PySem.W.Frag} {elts : List Expr} {kk : Nat} {tpos : Pos} (a e it : Addr) :
    Turn P w K (.Tuple elts kk tpos) (IteT K a) [e, it] e (fun i h => (∃ old, IsEnum h e it ((i : Nat) : Int) old) ∧ h.IsTupleIter it a i ∧ e ≠ it) where
  mem := by simp
  obj := fun i h st b hb => by
    obtain ⟨⟨old, he⟩, ⟨o, ho, hc, hd⟩, _⟩ := st
    have e' : b = e ∨ b = it := by simpa using hb
    rcases e' with z | z
    · rw [z]; exact ⟨_, he, fun v q => nomatch q⟩
    · rw [z]; exact ⟨o, ho, fun v q => by rw [hd] at q; cases q⟩
  keep := fun i h h' st k => let ⟨⟨old, he⟩, hi, hne⟩ := st; ⟨⟨old, k e (by simp) _ he⟩, hi.at fun o q => k it (by simp) o q, hne⟩
  item := by
    intro X hP hw hK hc i pins s σ H E I hf st hg
    subst hP hw hK
    obtain ⟨⟨old, he⟩, hit, hne⟩ := st
    obtain ⟨xs, x, hq, hx⟩ := hg
    obtain ⟨its, rv, p, hz⟩ := I.tuple hq
    obtain ⟨u, hu, ru⟩ := rv.get hx
    have hel : e < s.heap.objs.size := Heap.lt_size he
    have hil : it < s.heap.objs.size := by obtain ⟨_, q, _⟩ := hit; exact Heap.lt_size q
    have hpt : s.heap.IsTuple a its.toArray := p
    have hai : a ≠ it := fun z => by
      obtain ⟨o1, h1, c1, _⟩ := hpt
      obtain ⟨o2, h2, c2, _⟩ := hit
      rw [z, h2] at h1
      cases h1
      rw [c2] at c1
      exact absurd (Value.type.inj c1) (by decide)
    have hae : e ≠ a := fun z => by
      obtain ⟨o1, h1, c1, _⟩ := hpt
      rw [← z, he] at h1
      cases h1
      exact absurd (Value.type.inj c1) (by decide)
    have hil2 : i < its.toArray.size := by
      rw [List.size_toArray]
      exact (List.getElem?_eq_some_iff.mp hu).1
    refine wpAny_pyNext_enum_itemD (draws_tuple (A := X.A.in1) (I.ok.hd hc) it a its.toArray hai) he ⟨hit, hpt⟩ hil2 hne (by simp only [List.mem_cons, List.not_mem_nil, or_false, not_or]; exact ⟨hne, hae⟩) fun y h' tk hy ho hst hT hsz hk => ?_
    have hyu : y = u := by
      have : its[i]? = some y := by simpa using hy
      rw [hu] at this
      exact (Option.some.inj this).symm
    subst hyu
    have hit' := hst.1
    refine ⟨_, rfl, wpAny_letOwnedTupleGo_enum (s := { s with heap := h', toks := tk + 1 }) ho fun h'' he' sb => ?_⟩
    have hT2 : h''.get? s.heap.objs.size = some { cls := .type "tuple", data := .seq #[.int i tk, y] } := (sb.2 _ (Nat.ne_of_gt hel)).trans hT
    have new : ObjOk X.prog X.w (upd H s.heap.objs.size (.tup [.int (i : Nat), x])) h'' s.heap.objs.size (.tup [.int (i : Nat), x]) :=
      ⟨by show 2 ≤ sizeLine; decide, [.int i tk, y], .cons ⟨_, rfl⟩ (.cons ru .nil), ⟨_, hT2, rfl, _, rfl⟩⟩
    have I1 : Inv X pins σ (upd H s.heap.objs.size (.tup [.int (i : Nat), x])) { s with heap := h'', toks := tk + 1 } :=
      I.turnedNew (ch := [e, it]) (fun b ob hb q => (sb.2 b (fun z => hb (by simp [z]))).trans (hk b ob (fun z => hb (by simp [z])) (fun z => hb (by simp [z])) q)) hf (Nat.le_refl _) new
    refine ⟨.ref s.heap.objs.size, _, I1, rfl, ⟨_, x, rfl, I.hok.fresh (Nat.le_refl _), rfl, fun ys hy => by rw [I.tuple_inj hy hq]; exact hx⟩, ⟨⟨y, ?_⟩, hit'.at fun o q => (sb.2 it (Ne.symm hne)).trans q, hne⟩, fun b hb => ?_⟩
    · have e1 : ((i + 1 : Nat) : Int) = (i : Int) + 1 := by omega
      rw [e1]; exact he'
    · have hb' : b < s.heap.objs.size := by
        have e' : b = e ∨ b = it := by simpa using hb
        rcases e' with z | z
        · rw [z]; exact hel
        · rw [z]; exact hil
      rw [upd_ne (Nat.ne_of_lt hb')]
      exact (hf b hb).1
  done := by
    intro X hP hw hK hc i pins s σ H E I hf st hg
    subst hP hw hK
    obtain ⟨⟨old, he⟩, hit, hne⟩ := st
    obtain ⟨xs, hq, hx⟩ := hg
    obtain ⟨its, rv, p, hz⟩ := I.tuple hq
    obtain ⟨f0, f1, f2, f3, f4, f5⟩ := hf it (by simp)
    have hl := rv.length
    have hpt : s.heap.IsTuple a its.toArray := p
    have hai : a ≠ it := fun z => by
      obtain ⟨o1, h1, c1, _⟩ := hpt
      obtain ⟨o2, h2, c2, _⟩ := hit
      rw [z, h2] at h1
      cases h1
      rw [c2] at c1
      exact absurd (Value.type.inj c1) (by decide)
    have hn : i = its.toArray.size := by rw [List.size_toArray]; omega
    exact wpAny_pyNext_enum_endD (draws_tuple (A := X.A.in1) (I.ok.hd hc) it a its.toArray hai) he (by rw [← hn]; exact ⟨hit, hpt⟩) fun h' eb => ⟨rfl, I.turned (t' := s.toks) (fun b o hb q => eb b o hb q) f0 f1 f3 f4 f5⟩
  self := fun A i s Q E st h => let ⟨⟨_, he⟩, _⟩ := st; wpAny_pyIter_enum he h
def iEnumT (K : PySem.W.Frag) (ta : TA) : TI := fun σ H R => ta σ H fun vs H1 => ∃ a xs, vs = [.ref a] ∧ SqT K H1 a xs ∧ R (IteT K a) H1
theorem pi_enumT {X : Cx} {e : Expr} {ta : TA} {p pos tpos : Pos} {elts : List Expr} {kk : Nat} (hg : Gl X "enumerate") (hm : X.mg "enumerate" = none) (ha : PA X [e] ta) (hs : starEach [e] X.env = [(false, eval e X.env)] := by rfl) :
    PI X (.Tuple elts kk tpos) (.Call (.Name "enumerate" p) [e] [] pos) (iEnumT X.K ta) := by
  refine ⟨fun pins s σ H R I h => ?_⟩
  refine Call_ (ld_blt I hg hm boot_enumerate (PyProof.Rows.callWith_type1 (thn (ha.run pos pins s σ H _ I h) fun us s1 ⟨vs, H1, I1, r1, q1⟩ => ?_) hs rfl))
  obtain ⟨a, xs, ex, hq, q⟩ := q1
  subst ex
  cases r1 with
  | cons r rr =>
    cases rr
    cases r
    obtain ⟨its, rv, p', hz⟩ := I1.tuple hq
    refine call_enumerate_tuple p' fun h' he hit hsz hk => wpAny_pyIter_enum he ?_
    have I2 : Inv X pins σ H1 { s1 with heap := h' } := I1.kept (t' := s1.toks) hk
    refine ⟨s1.heap.objs.size + 1, [s1.heap.objs.size + 1, s1.heap.objs.size], _, _, H1, rfl, I2, turn_enumT a (s1.heap.objs.size + 1) s1.heap.objs.size, ⟨⟨.none, he⟩, hit, Nat.succ_ne_self _⟩, fun b hb => ?_, q⟩
    have e' : b = s1.heap.objs.size + 1 ∨ b = s1.heap.objs.size := by simpa using hb
    have hle : s1.heap.objs.size ≤ b := by
      rcases e' with z | z
      · rw [z]; exact Nat.le_add_right _ _
      · rw [z]; exact Nat.le_refl _
    exact I1.fpOk hle (I1.hok.fresh hle)
theorem gx_enum {α : Type} {K : PySem.W.Frag} {a : Addr} {xs : List V} {g : TG} {tt : TT} {te : TE} {vs : List Nat} {σ0 : L2.St} {End : α → Hp → Prop} {Yd : α → V → Hp → (α → Hp → Prop) → Prop} {a0 : α} {H0 : Hp} (Pv : Nat → α → Hp → Prop) (h0 : Pv 0 a0 H0)
    (hl : ∀ i c H, i ≤ xs.length → Pv i c H → SqT K H a xs)
    (hs : ∀ i x T c H, xs[i]? = some x → H T = none → Pv i c H → g (.ref T) σ0 (upd H T (.tup [.int (i : Nat), x])) fun σ2 H2 => wipe σ2 vs = σ0 ∧ tt σ2 H2 fun b H3 => if b = true then te σ2 H3 fun y H4 => Yd c y H4 (Pv (i + 1)) else Pv (i + 1) c H3) (hd : ∀ c H, Pv xs.length c H → End c H) :
    ∃ W : Nat → Nat → α → Hp → Prop, (∃ m, W 0 m a0 H0) ∧ tGx (IteT K a) g tt te σ0 vs End Yd W := by
  refine ⟨fun i m c H => m = xs.length - i ∧ i ≤ xs.length ∧ Pv i c H, ⟨xs.length, rfl, Nat.zero_le _, h0⟩, ?_⟩
  rintro i m c H ⟨rfl, hi, p⟩
  by_cases hlt : i < xs.length
  · have hx : xs[i]? = some xs[i] := List.getElem?_eq_getElem hlt
    refine .inr ⟨⟨xs, xs[i], hl i c H hi p, hx⟩, Pv (i + 1), fun c' H' p' => ⟨xs.length - (i + 1), by omega, rfl, hlt, p'⟩, fun x H' y => ?_⟩
    obtain ⟨T, x1, rfl, nT, rfl, e1⟩ := y
    exact hs i x1 T c H (e1 xs (hl i c _ hi p)) nT p
  · have e : i = xs.length := by omega
    subst e
    exact .inl ⟨⟨xs, hl _ c H hi p, rfl⟩, hd c H p⟩
theorem gx_str {α : Type} {z : Str} {g : TG} {tt : TT} {te : TE} {vs : List Nat} {σ0 : L2.St} {End : α → Hp → Prop} {Yd : α → V → Hp → (α → Hp → Prop) → Prop} {a0 : α} {H0 : Hp} (Pv : Nat → α → Hp → Prop) (h0 : Pv 0 a0 H0)
    (hs : ∀ i x c H, z.cps[i]? = some x → Pv i c H → g (.str ⟨#[x]⟩) σ0 H fun σ2 H2 => wipe σ2 vs = σ0 ∧ tt σ2 H2 fun b H3 => if b = true then te σ2 H3 fun y H4 => Yd c y H4 (Pv (i + 1)) else Pv (i + 1) c H3) (hd : ∀ c H, Pv z.cps.size c H → End c H) :
    ∃ W : Nat → Nat → α → Hp → Prop, (∃ m, W 0 m a0 H0) ∧ tGx (Its z) g tt te σ0 vs End Yd W := by
  refine ⟨fun i m c H => m = z.cps.size - i ∧ i ≤ z.cps.size ∧ Pv i c H, ⟨z.cps.size, rfl, Nat.zero_le _, h0⟩, ?_⟩
  rintro i m c H ⟨rfl, hi, p⟩
  by_cases hlt : i < z.cps.size
  · refine .inr ⟨hlt, Pv (i + 1), fun c' H' p' => ⟨z.cps.size - (i + 1), by omega, rfl, hlt, p'⟩, fun x H' y => ?_⟩
    obtain ⟨rfl, ch, hc, rfl⟩ := y
    exact hs i ch c _ hc p
  · have e : i = z.cps.size := by omega
    subst e
    exact .inl ⟨Nat.le_refl _, hd c H p⟩

/-! ### products: the program's own -/
theorem joinOk_ones (cs : List Nat) (h : cs.length ≤ 64) : JoinOk (Str.ofString "") (cs.map one) = true := by
  have key : ∀ (cs : List Nat) (n : Nat), (cs.map one).foldl (fun a t => a + t.length + (Str.ofString "").length) n = n + cs.length := by
    intro cs
    induction cs with
    | nil => intro n; rfl
    | cons c r ih =>
      intro n
      rw [List.map_cons, List.foldl_cons, ih, List.length_cons]
      show n + 1 + 0 + r.length = n + (r.length + 1)
      omega
  unfold JoinOk
  rw [List.foldl_toArray', key]
  · unfold Builtin.Str.tooLong
    rw [decide_eq_false (show ¬ (0 + cs.length > sizeLine) by rw [sizeLine_eq]; omega)]
    rfl
  · simp
def sp_show_row (T : Tx K mg) : Sp := fun vs H Q _ => ∃ (a : Addr) (r : List Int), vs = [.ref a] ∧ H a = some (.tup (r.map V.int)) ∧ Row01' r ∧ r.length ≤ 6 ∧ Tabs H T.tabs ∧ ∀ H', Gr H H' → Q (.str (SX.S (rowS r))) H'
theorem ok_show_row (T : Tx K mg) (B : Tb base T) : FnOk P w K mg base CX0 2 T.f_show_row T.fd_show_row ["row"] (sp_show_row T) := by
  refine okC T.F_show_row sc_show_row (fun vs H Q E h => ?_) (fun A outer s H vs Q E hr h => ?_)
  · obtain ⟨a, r, rfl, _⟩ := h
    rfl
  · obtain ⟨a, r, rfl, ha, ok, l6, tabs, q⟩ := h
    refine ⟨_, (pss_one (ps_ret (GxJ.pe_joinX (own := [("worth", 1)]) (k := 0) (hr.mono (by decide)) rfl sc_show_row.nd pe_str B.TB_show_row T.cd_show_row rfl rfl (by decide +kernel) (blkOk_by (own := [("worth", 1)]) (N := ["row", "worth"]) (sc := defScope s_show_row) (by decide +kernel)) (pi_tup (pv 0)) (fun _ _ _ _ _ _ _ hr gd => (pg_name (i := 1) sc_show_row.nd rfl (by first | exact .inl rfl | exact .inr rfl))) (fun _ _ _ _ _ _ _ hr gd => pts_nil) (fun _ _ _ _ _ _ _ hr gd => (pe_callTy call_str_int (by rfl) T.m_str (by decide +kernel) (pa_cons (pv 1) pa_nil))) (fun _ => rfl)))), ?_⟩
    have tab : GxR.TabG H T.P_show_row := tabs _ (by simp [Tx.tabs])
    refine ⟨_, rfl, .ref a, rfl, a, rfl, ⟨_, SqT.of ha⟩, tab, fun H2 tb2 => ?_⟩
    have g2 := Gr.tab tab tb2
    refine gx_tup (K := K) (a := a) (xs := r.map V.int) (fun j ys H' => H' = H2 ∧ ys = ((rowS (r.take j)).map one).map V.str) ⟨rfl, rfl⟩ (fun j ys H' _ ⟨e, _⟩ => by rw [e]; exact SqT.of (g2.tup ha)) ?_ ?_
    · rintro j x ys H' hx ⟨rfl, rfl⟩
      obtain ⟨b, hb, rfl⟩ : ∃ b, r[j]? = some b ∧ x = V.int b := by
        rw [List.getElem?_map] at hx
        cases hz : r[j]? with
        | none => rw [hz] at hx; cases hx
        | some u => rw [hz] at hx; exact ⟨u, rfl, (Option.some.inj hx).symm⟩
      have hb01 := ok b (List.mem_of_getElem? hb)
      refine ⟨rfl, .int b, rfl, b, rfl, by rcases hb01 with rfl | rfl <;> decide, ?_⟩
      rw [str01 hb01]
      refine ⟨?_, rfl, ?_⟩
      · unfold rowS
        rw [List.length_map, List.length_map, List.length_map, List.length_take]
        exact Nat.lt_of_lt_of_le (show _ < 64 by omega) (by decide)
      · unfold rowS
        rw [List.take_add_one, hb]
        simp
    · rintro ys H' ⟨rfl, rfl⟩
      rw [List.length_map, List.take_length]
      refine ⟨(rowS r).map one, rfl, joinOk_ones _ (by unfold rowS; rw [List.length_map]; omega), ?_⟩
      rw [join_one]
      exact q _ g2
theorem at_tx {H : Hp} (p : List Nat) : (ZpG.ZS.tx (SX.S p)).at K H (p.map fun c => V.str (one c)) := (S_list p).symm
def sp_holds_all (T : Tx K mg) : Sp := fun vs H Q _ => ∃ (p q' : List Nat), vs = [.str (SX.S p), .str (SX.S q')] ∧ p.length = q'.length ∧ Tabs H T.tabs ∧ ∀ H', Gr H H' → Q (.bl (hall p q')) H'
theorem ok_holds_all (T : Tx K mg) (B : Tb base T) : FnOk P w K mg base CX0 2 T.f_holds_all T.fd_holds_all ["product", "other"] (sp_holds_all T) := by
  refine okC T.F_holds_all sc_holds_all (fun vs H Q E h => ?_) (fun A outer s H vs Q E hr h => ?_)
  · obtain ⟨p, q', rfl, _⟩ := h
    rfl
  · obtain ⟨p, q', rfl, hl, tabs, q⟩ := h
    refine ⟨_, (pss_one (ps_ret (pe_allX (own := [("sign", 2), ("held", 3)]) (k := 0) (hr.mono (by decide)) rfl sc_holds_all.nd (by rfl) T.m_all (by decide +kernel) B.TB_holds_all T.cd_holds_all rfl rfl (by decide +kernel) (blkOk_by (own := [("sign", 2), ("held", 3)]) (N := ["product", "other", "sign", "held"]) (sc := defScope s_holds_all) (by decide +kernel)) (ZpG.pi_zip2 (by rfl) T.m_zip (pa_cons (pv 0) (pa_cons (pv 1) pa_nil))) (fun _ _ _ _ _ _ _ hr gd => (show PG _ _ (gTup K 2 _) from pg_tup rfl (pgs_cons (pg_name (i := 2) sc_holds_all.nd rfl (by first | exact .inl rfl | exact .inr rfl)) (pgs_cons (pg_name (i := 3) sc_holds_all.nd rfl (by first | exact .inl rfl | exact .inr rfl)) pgs_nil)))) (fun _ _ _ _ _ _ _ hr gd => pts_nil) (fun _ _ _ _ _ _ _ hr gd => (pe_cmpR (show OpR _ _ (rIn K false) from op_in_seq) (pv 2) (pe_tup (pa_cons pe_str (pa_cons (pv 3) pa_nil))) rfl)) (fun _ => rfl)))), ?_⟩
    have tab : GxR.TabG H T.P_holds_all := tabs _ (by simp [Tx.tabs])
    refine ⟨.str (SX.S p), rfl, .str (SX.S q'), rfl, .tx (SX.S p), .tx (SX.S q'), _, _, rfl, at_tx p, at_tx q', tab, fun H2 tb2 => ?_⟩
    have g2 := Gr.tab tab tb2
    refine ZpG.gx_zip2 (K := K) (n := p.length) (xs1 := p.map fun c => V.str (one c)) (xs2 := q'.map fun c => V.str (one c)) (by rw [List.length_map]) (by rw [List.length_map, hl]) (fun j _ H' => Gr H H' ∧ ((p.zip q').take j).all (fun z => decide (z.1 = 45) || decide (z.1 = z.2)) = true) ⟨g2, rfl⟩ (fun j _ H' _ _ => ⟨at_tx p, at_tx q'⟩) ?_ ?_
    · rintro j x y t _ H' hx hy nt ⟨g, ih⟩
      obtain ⟨a, ha, rfl⟩ := one_at hx
      obtain ⟨b, hb, rfl⟩ := one_at hy
      have g' := g.trans (Gr.none (o := .tup [V.str (one a), V.str (one b)]) nt)
      have ez := zip_take_succ ha hb
      refine ⟨t, _, rfl, SqT.of upd_same, rfl, _, _, rfl, _, _, rfl, rfl, rfl, ?_⟩
      refine ⟨.str (one a), rfl, .str (one b), rfl, sl2, fun u nu => ?_⟩
      have g'' := g'.trans (Gr.none (o := .tup [V.str (Str.ofString "-"), V.str (one b)]) nu)
      refine ⟨u, _, rfl, .inr (SqT.of upd_same), rfl, rfl, ?_⟩
      have ev : (if false = true then !inV (.str (one a)) [V.str (Str.ofString "-"), V.str (one b)] else inV (.str (one a)) [V.str (Str.ofString "-"), V.str (one b)]) = (decide (a = 45) || decide (a = b)) := by
        show (eqV (.str (Str.ofString "-")) (.str (one a)) || (eqV (.str (one b)) (.str (one a)) || false)) = _
        rw [dash_S, eqV_one, eqV_one, Bool.or_false]
        congr 1
        · exact decide_eq_decide.mpr ⟨Eq.symm, Eq.symm⟩
        · exact decide_eq_decide.mpr ⟨Eq.symm, Eq.symm⟩
      refine ⟨_, rfl, ?_⟩
      rw [ev]
      refine ite2 (fun e => ⟨g'', ?_⟩) (fun e => ?_)
      · rw [ez, List.all_append, ih]
        simpa using e
      · have : hall p q' = false := all_stop (f := fun z : Nat × Nat => decide (z.1 = 45) || decide (z.1 = z.2)) ez (Bool.eq_false_iff.mpr e)
        have z := q _ g''
        rw [this] at z
        exact z
    · rintro _ H' ⟨g, ih⟩
      have : (p.zip q').length ≤ p.length := by rw [List.length_zip]; omega
      rw [List.take_of_length_le this] at ih
      have z := q H' g
      unfold hall at z
      rw [ih] at z
      exact z
def sp_meet (T : Tx K mg) : Sp := fun vs H Q _ => ∃ (p q' : List Nat), vs = [.str (SX.S p), .str (SX.S q')] ∧ p.length = q'.length ∧ Tabs H T.tabs ∧ ∀ H', Gr H H' → Q (.bl (meetM p q')) H'
theorem ok_meet (T : Tx K mg) (B : Tb base T) : FnOk P w K mg base CX0 2 T.f_meet T.fd_meet ["product", "other"] (sp_meet T) := by
  refine okC T.F_meet sc_meet (fun vs H Q E h => ?_) (fun A outer s H vs Q E hr h => ?_)
  · obtain ⟨p, q', rfl, _⟩ := h
    rfl
  · obtain ⟨p, q', rfl, hl, tabs, q⟩ := h
    refine ⟨_, (pss_one (ps_ret (pe_allX (own := [("one", 2), ("two", 3)]) (k := 0) (hr.mono (by decide)) rfl sc_meet.nd (by rfl) T.m_all (by decide +kernel) B.TB_meet T.cd_meet rfl rfl (by decide +kernel) (blkOk_by (own := [("one", 2), ("two", 3)]) (N := ["product", "other", "one", "two"]) (sc := defScope s_meet) (by decide +kernel)) (ZpG.pi_zip2 (by rfl) T.m_zip (pa_cons (pv 0) (pa_cons (pv 1) pa_nil))) (fun _ _ _ _ _ _ _ hr gd => (show PG _ _ (gTup K 2 _) from pg_tup rfl (pgs_cons (pg_name (i := 2) sc_meet.nd rfl (by first | exact .inl rfl | exact .inr rfl)) (pgs_cons (pg_name (i := 3) sc_meet.nd rfl (by first | exact .inl rfl | exact .inr rfl)) pgs_nil)))) (fun _ _ _ _ _ _ _ hr gd => pts_nil) (fun _ _ _ _ _ _ _ hr gd => (pe_or (pe_cmpR (show OpR _ _ (rIn K false) from op_in_seq) pe_str (pe_tup (pa_cons (pv 2) (pa_cons (pv 3) pa_nil))) rfl) (pe_one (pe_cmpR op_eq (pv 2) (pv 3) (nomark _))))) (fun _ => rfl)))), ?_⟩
    have tab : GxR.TabG H T.P_meet := tabs _ (by simp [Tx.tabs])
    refine ⟨.str (SX.S p), rfl, .str (SX.S q'), rfl, .tx (SX.S p), .tx (SX.S q'), _, _, rfl, at_tx p, at_tx q', tab, fun H2 tb2 => ?_⟩
    have g2 := Gr.tab tab tb2
    refine ZpG.gx_zip2 (K := K) (n := p.length) (xs1 := p.map fun c => V.str (one c)) (xs2 := q'.map fun c => V.str (one c)) (by rw [List.length_map]) (by rw [List.length_map, hl]) (fun j _ H' => Gr H H' ∧ ((p.zip q').take j).all (fun z => decide (z.1 = 45) || decide (z.2 = 45) || decide (z.1 = z.2)) = true) ⟨g2, rfl⟩ (fun j _ H' _ _ => ⟨at_tx p, at_tx q'⟩) ?_ ?_
    · rintro j x y t _ H' hx hy nt ⟨g, ih⟩
      obtain ⟨a, ha, rfl⟩ := one_at hx
      obtain ⟨b, hb, rfl⟩ := one_at hy
      have g' := g.trans (Gr.none (o := .tup [V.str (one a), V.str (one b)]) nt)
      have ez := zip_take_succ ha hb
      refine ⟨t, _, rfl, SqT.of upd_same, rfl, _, _, rfl, _, _, rfl, rfl, rfl, ?_⟩
      refine ⟨.str (one a), rfl, .str (one b), rfl, sl2, fun u nu => ?_⟩
      have g'' := g'.trans (Gr.none (o := .tup [V.str (one a), V.str (one b)]) nu)
      have fin : ∀ c : Bool, c = (decide (a = 45) || decide (b = 45) || decide (a = b)) → ∃ b_1, V.bl c = V.bl b_1 ∧ if b_1 = true then Gr H (upd (upd H' t (.tup [V.str (one a), V.str (one b)])) u (.tup [V.str (one a), V.str (one b)])) ∧ ((p.zip q').take (j + 1)).all (fun z => decide (z.1 = 45) || decide (z.2 = 45) || decide (z.1 = z.2)) = true else Q (.bl false) (upd (upd H' t (.tup [V.str (one a), V.str (one b)])) u (.tup [V.str (one a), V.str (one b)])) := fun c hc => by
        refine ⟨c, rfl, ?_⟩
        refine ite2 (fun e => ⟨g'', ?_⟩) (fun e => ?_)
        · rw [ez, List.all_append, ih]
          rw [hc] at e
          simpa using e
        · rw [hc] at e
          have : meetM p q' = false := all_stop (f := fun z : Nat × Nat => decide (z.1 = 45) || decide (z.2 = 45) || decide (z.1 = z.2)) ez (Bool.eq_false_iff.mpr e)
          have z := q _ g''
          rw [this] at z
          exact z
      have ev : (if false = true then !inV (.str (Str.ofString "-")) [V.str (one a), V.str (one b)] else inV (.str (Str.ofString "-")) [V.str (one a), V.str (one b)]) = (decide (a = 45) || decide (b = 45)) := by
        show (eqV (.str (one a)) (.str (Str.ofString "-")) || (eqV (.str (one b)) (.str (Str.ofString "-")) || false)) = _
        rw [dash_S, eqV_one, eqV_one, Bool.or_false]
      refine ⟨u, _, rfl, .inr (SqT.of upd_same), rfl, rfl, _, rfl, ?_⟩
      rw [ev]
      refine ite2 (fun e => ?_) (fun e => ?_)
      · refine fin _ ?_
        rw [e]
        rfl
      · refine ⟨.str (one a), rfl, .str (one b), rfl, rfl, fin _ ?_⟩
        rw [Bool.eq_false_iff.mpr e, Bool.false_or, str_dec]
        exact one_inj
    · rintro _ H' ⟨g, ih⟩
      have : (p.zip q').length ≤ p.length := by rw [List.length_zip]; omega
      rw [List.take_of_length_le this] at ih
      have z := q H' g
      unfold meetM at z
      rw [ih] at z
      exact z

def sp_holds_row (T : Tx K mg) : Sp := fun vs H Q _ => ∃ (p : List Nat) (a : Addr) (r : List Int), vs = [.str (SX.S p), .ref a] ∧ H a = some (.tup (r.map V.int)) ∧ Row01' r ∧ p.length = r.length ∧ r.length ≤ 6 ∧ Tabs H T.tabs ∧ ∀ H', Gr H H' → Q (.bl (hrow p r)) H'
theorem ok_holds_row (T : Tx K mg) (B : Tb base T) : FnOk P w K mg base CX0 3 T.f_holds_row T.fd_holds_row ["product", "row"] (sp_holds_row T) := by
  refine T.F_holds_row.ok sc_holds_row (fun vs H Q E h => ?_) (fun cdv A outer s H vs Q E hr h => ?_)
  · obtain ⟨p, a, r, rfl, _⟩ := h
    rfl
  · obtain ⟨p, a, r, rfl, ha, ok, hl, l6, tabs, q⟩ := h
    refine ⟨_, (pss_one (ps_ret (pe_call (ok_holds_all T B) (hr.mono (by decide)) (by rfl) T.g_holds_all T.F_holds_all.kp T.b_holds_all .nil pass0 (pa_cons (pv 0) (pa_cons (pe_call (ok_show_row T B) (hr.mono (by decide)) (by rfl) T.g_show_row T.F_show_row.kp T.b_show_row .nil pass0 (pa_cons (pv 1) pa_nil)) pa_nil))))), ?_⟩
    refine ⟨.str (SX.S p), rfl, .ref a, rfl, a, r, rfl, ha, ok, l6, tabs, fun H1 g1 => ?_⟩
    exact ⟨p, rowS r, rfl, by unfold rowS; rw [List.length_map]; exact hl, g1.tabs tabs, fun H2 g2 => q H2 (g1.trans g2)⟩
def sp_cube_of (T : Tx K mg) : Sp := fun vs H Q _ => ∃ (c : Addr) (m : Nat) (a b : List Int), vs = [.ref c] ∧ ChAt H c a b ∧ ChOk m a b ∧ Tabs H T.tabs ∧ ∀ H', Gr H H' → Q (.str (SX.S (cubeM a b))) H'
theorem int_at {r : List Int} {i : Nat} {x : V} (h : (r.map V.int)[i]? = some x) : ∃ b, r[i]? = some b ∧ x = V.int b := by
  rw [List.getElem?_map] at h
  cases hz : r[i]? with
  | none => rw [hz] at h; cases h
  | some u => rw [hz] at h; exact ⟨u, rfl, (Option.some.inj h).symm⟩
theorem int_dec (x y : Int) : decide (V.int x = V.int y) = decide (x = y) := by
  by_cases z : x = y
  · rw [decide_eq_true z, decide_eq_true (by rw [z])]
  · rw [decide_eq_false z, decide_eq_false (fun k => z (V.int.inj k))]
theorem ok_cube_of (T : Tx K mg) (B : Tb base T) : FnOk P w K mg base CX0 2 T.f_cube_of T.fd_cube_of ["change"] (sp_cube_of T) := by
  refine okC T.F_cube_of sc_cube_of (fun vs H Q E h => ?_) (fun A outer s H vs Q E hr h => ?_)
  · obtain ⟨c, m, a, b, rfl, _⟩ := h
    rfl
  · obtain ⟨c, m, a, b, rfl, ⟨ra, rb, hc, ha, hb⟩, ok, tabs, q⟩ := h
    refine ⟨_, (pss_cons (ps_asg (pv 0) (pg_tup rfl (pgs_cons (pg_name (i := 1) sc_cube_of.nd rfl (by first | exact .inl rfl | exact .inr rfl)) (pgs_cons (pg_name (i := 2) sc_cube_of.nd rfl (by first | exact .inl rfl | exact .inr rfl)) pgs_nil)))) (pss_one (ps_ret (GxJ.pe_joinX (own := [("before", 3), ("after", 4)]) (k := 0) (hr.mono (by decide)) rfl sc_cube_of.nd pe_str B.TB_cube_of T.cd_cube_of rfl rfl (by decide +kernel) (blkOk_by (own := [("before", 3), ("after", 4)]) (N := ["change", "a", "b", "before", "after"]) (sc := defScope s_cube_of) (by decide +kernel)) (ZpG.pi_zip2 (by rfl) T.m_zip (pa_cons (pv 1) (pa_cons (pv 2) pa_nil))) (fun _ _ _ _ _ _ _ hr gd => (show PG _ _ (gTup K 2 _) from pg_tup rfl (pgs_cons (pg_name (i := 3) sc_cube_of.nd rfl (by first | exact .inl rfl | exact .inr rfl)) (pgs_cons (pg_name (i := 4) sc_cube_of.nd rfl (by first | exact .inl rfl | exact .inr rfl)) pgs_nil)))) (fun _ _ _ _ _ _ _ hr gd => pts_nil) (fun _ _ _ _ _ _ _ hr gd => (pe_ifExp (pt_cmpR op_eq (pv 3) (pv 4) (nomark _)) (pe_callTy call_str_int (by rfl) T.m_str (by decide +kernel) (pa_cons (pv 3) pa_nil)) pe_str)) (fun _ => rfl))))), ?_⟩
    have tab : GxR.TabG H T.P_cube_of := tabs _ (by simp [Tx.tabs])
    refine ⟨.ref c, rfl, c, _, rfl, SqT.of hc, rfl, _, _, rfl, _, _, rfl, rfl, ?_⟩
    refine ⟨_, rfl, .ref ra, rfl, .ref rb, rfl, .tu ra, .tu rb, _, _, rfl, SqT.of ha, SqT.of hb, tab, fun H2 tb2 => ?_⟩
    have g2 := Gr.tab tab tb2
    have la := ok.la
    have lb := ok.lb
    have m6 := ok.m6
    refine ZpG.gx_zip2 (K := K) (n := m) (xs1 := a.map V.int) (xs2 := b.map V.int) (by rw [List.length_map, la]) (by rw [List.length_map, lb]) (fun j ys H' => Gr H H' ∧ ys = ((((a.zip b).take j).map fun z => if z.1 = z.2 then wS z.1 else 45).map one).map V.str) ⟨g2, rfl⟩ (fun j _ H' _ z => ⟨SqT.of (z.1.tup ha), SqT.of (z.1.tup hb)⟩) ?_ ?_
    · rintro j x y t ys H' hx hy nt ⟨g, rfl⟩
      obtain ⟨u, hu, rfl⟩ := int_at hx
      obtain ⟨v, hv, rfl⟩ := int_at hy
      have u01 := ok.oa u (List.mem_of_getElem? hu)
      have g' := g.trans (Gr.none (o := .tup [V.int u, V.int v]) nt)
      have ez := zip_take_succ hu hv
      have ll : ((((((a.zip b).take j).map fun z => if z.1 = z.2 then wS z.1 else 45).map one).map V.str)).length < sizeLine := by
        rw [List.length_map, List.length_map, List.length_map, List.length_take, List.length_zip]
        exact Nat.lt_of_lt_of_le (show _ < 64 by omega) (by decide)
      refine ⟨t, _, rfl, SqT.of upd_same, rfl, _, _, rfl, _, _, rfl, rfl, rfl, ?_⟩
      refine ⟨.int u, rfl, .int v, rfl, rfl, _, rfl, ?_⟩
      rw [int_dec]
      refine ite2 (fun e => ?_) (fun e => ?_)
      · have e : u = v := of_decide_eq_true e
        refine ⟨.int u, rfl, u, rfl, by rcases u01 with rfl | rfl <;> decide, ll, g', ?_⟩
        rw [str01 u01, ez]
        simp [e]
      · have e : ¬ u = v := fun z => e (decide_eq_true z)
        refine ⟨ll, g', ?_⟩
        rw [dash_S, ez]
        simp [e]
    · rintro ys H' ⟨g, rfl⟩
      have : (a.zip b).length ≤ m := by rw [List.length_zip]; omega
      rw [List.take_of_length_le this]
      refine ⟨(cubeM a b).map one, rfl, joinOk_ones _ ?_, ?_⟩
      · unfold cubeM
        rw [List.length_map]
        omega
      · rw [join_one]
        exact q _ g
theorem cube_len {m : Nat} {a b : List Int} (ok : ChOk m a b) : (cubeM a b).length = m := by
  unfold cubeM
  rw [List.length_map, List.length_zip, ok.la, ok.lb, Nat.min_self]

theorem find_hit {α : Type} {l : List α} {f : α → Bool} {i : Nat} {a : α} (h : l[i]? = some a) (n : ∀ j, j < i → ∀ x, l[j]? = some x → f x = false) (e : f a = true) : l.findIdx? f = some i := by
  rw [List.findIdx?_eq_some_iff_getElem]
  obtain ⟨hl, rfl⟩ := List.getElem?_eq_some_iff.mp h
  exact ⟨hl, e, fun j hj => by simpa using n j hj _ (List.getElem?_eq_getElem _)⟩
theorem find_miss {α : Type} {l : List α} {f : α → Bool} (n : ∀ j, j < l.length → ∀ x, l[j]? = some x → f x = false) : l.findIdx? f = none := by
  rw [List.findIdx?_eq_none_iff]
  intro x hx
  obtain ⟨i, hi, rfl⟩ := List.getElem_of_mem hx
  exact n i hi _ (List.getElem?_eq_getElem _)

theorem for_enumT {K : PySem.W.Frag} {a : Addr} {xs : List V} {g : TG} {tb : TS} {D : Ends} {σ : L2.St} {H : Hp} (Pv : Nat → L2.St → Hp → Prop) (h0 : Pv 0 σ H) (hl : ∀ i σ H, i ≤ xs.length → Pv i σ H → SqT K H a xs)
    (hs : ∀ (i : Nat) (x : V) (T : Addr) (σ : L2.St) (H : Hp), xs[i]? = some x → H T = none → Pv i σ H → g (.ref T) σ (upd H T (.tup [.int (i : Nat), x])) fun σ2 H2 => tb { D with nx := Pv (i + 1), ct := Pv (i + 1), bk := D.nx } σ2 H2) (hd : ∀ σ H, Pv xs.length σ H → D.nx σ H) :
    ∃ W : Nat → Nat → L2.St → Hp → Prop, (∃ m, W 0 m σ H) ∧ ∀ i m σ H, W i m σ H →
      ((IteT K a).stop i H ∧ D.nx σ H) ∨ ((IteT K a).go i H ∧ ∃ N : L2.St → Hp → Prop, (∀ σ' H', N σ' H' → ∃ m', m' < m ∧ W (i + 1) m' σ' H') ∧ ∀ x H', (IteT K a).yld i H x H' → g x σ H' fun σ2 H2 => tb { D with nx := N, ct := N, bk := D.nx } σ2 H2) := by
  refine ⟨fun i m σ H => m = xs.length - i ∧ i ≤ xs.length ∧ Pv i σ H, ⟨xs.length, rfl, Nat.zero_le _, h0⟩, ?_⟩
  rintro i m σ H ⟨rfl, hi, p⟩
  have q := hl i σ H hi p
  by_cases hlt : i < xs.length
  · have hx : xs[i]? = some xs[i] := List.getElem?_eq_getElem hlt
    refine .inr ⟨⟨xs, xs[i], q, hx⟩, Pv (i + 1), fun σ' H' p' => ⟨xs.length - (i + 1), by omega, rfl, hlt, p'⟩, fun x H' y => ?_⟩
    obtain ⟨T, x1, rfl, nT, rfl, e1⟩ := y
    exact hs i x1 T σ H (e1 xs q) nT p
  · have e : i = xs.length := by omega
    subst e
    exact .inl ⟨⟨xs, q, rfl⟩, hd σ H p⟩

def CovAt (H : Hp) (c : Addr) (m : Nat) (ps : List (List Nat)) : Prop := ∃ t, H c = some (.tup [.int m, .ref t]) ∧ H t = some (.tup (pVs ps))
theorem CovAt.gr {H H' : Hp} {c : Addr} {m : Nat} {ps : List (List Nat)} (h : CovAt H c m ps) (g : Gr H H') : CovAt H' c m ps := by
  obtain ⟨t, h1, h2⟩ := h
  exact ⟨t, g.tup h1, g.tup h2⟩
def toldM (ps : List (List Nat)) (r : List Int) : Bool := ps.any fun p => hrow p r
def bI (b : Bool) : Int := if b = true then 1 else 0
theorem any_stop {α : Type} {l : List α} {f : α → Bool} {i : Nat} {a : α} (h : l[i]? = some a) (e : f a = true) : l.any f = true := List.any_eq_true.mpr ⟨a, List.mem_of_getElem? h, e⟩
def sp_told_of (T : Tx K mg) : Sp := fun vs H Q _ => ∃ (c a : Addr) (m : Nat) (ps : List (List Nat)) (r : List Int), vs = [.ref c, .ref a] ∧ CovAt H c m ps ∧ CovOk m ps ∧ H a = some (.tup (r.map V.int)) ∧ Row01' r ∧ r.length = m ∧ m ≤ 6 ∧ Tabs H T.tabs ∧ ∀ H', Gr H H' → Q (.int (bI (toldM ps r))) H'
theorem ok_told_of (T : Tx K mg) (B : Tb base T) : FnOk P w K mg base CX0 5 T.f_told_of T.fd_told_of ["cover", "row"] (sp_told_of T) := by
  refine okC T.F_told_of sc_told_of (fun vs H Q E h => ?_) (fun A outer s H vs Q E hr h => ?_)
  · obtain ⟨c, a, m, ps, r, rfl, _⟩ := h
    rfl
  · obtain ⟨c, a, m, ps, r, rfl, ⟨t, hc, ht⟩, okp, ha, ok, lr, m6, tabs, q⟩ := h
    refine ⟨_, (pss_one (ps_ret (pe_ifExp (pt_val (pe_anyX (own := [("product", 2)]) (k := 3) (hr.mono (by decide)) rfl sc_told_of.nd (by rfl) T.m_any (by decide +kernel) B.TB_told_of T.cd_told_of rfl rfl (by decide +kernel) (blkOk_by (own := [("product", 2)]) (N := ["cover", "row", "product"]) (sc := defScope s_told_of) (by decide +kernel)) (pi_tup (pe_ix ix_tup (pv 0) pe_int (fun _ _ => rfl))) (fun _ _ _ _ _ _ _ hr gd => (pg_name (i := 2) sc_told_of.nd rfl (by first | exact .inl rfl | exact .inr rfl))) (fun _ _ _ _ _ _ _ hr gd => pts_nil) (fun _ _ _ _ _ _ _ hr gd => (pe_call (ok_holds_row T B) (hr.mono (by decide)) (by rfl) T.g_holds_row T.F_holds_row.kp T.b_holds_row .nil pass0 (pa_cons (pv 2) (pa_cons (pv 1) pa_nil)))) (fun _ => rfl))) pe_int pe_int))), ?_⟩
    have tab : GxR.TabG H T.P_told_of := tabs _ (by simp [Tx.tabs])
    refine ⟨.ref c, rfl, c, _, _, .ref t, rfl, rfl, SqT.of hc, rfl, t, rfl, ⟨_, SqT.of ht⟩, tab, fun H2 tb2 => ?_⟩
    have g2 := Gr.tab tab tb2
    refine gx_tup (K := K) (a := t) (xs := pVs ps) (fun j _ H' => Gr H H' ∧ (ps.take j).any (fun p => hrow p r) = false) ⟨g2, rfl⟩ (fun j _ H' _ e => SqT.of (e.1.tup ht)) ?_ ?_
    · rintro j x _ H' hx ⟨g, ih⟩
      obtain ⟨p, hp, rfl⟩ := pV_at hx
      have okp' := okp p (List.mem_of_getElem? hp)
      refine ⟨rfl, .str (SX.S p), rfl, .ref a, rfl, p, a, r, rfl, g.tup ha, ok, by rw [okp'.1, lr], by omega, g.tabs tabs, fun H3 g3 => ?_⟩
      refine ⟨_, rfl, ite2 (fun e => ?_) (fun e => ⟨g.trans g3, ?_⟩)⟩
      · refine ⟨true, rfl, iteT ?_⟩
        have z := q H3 (g.trans g3)
        have e' : toldM ps r = true := any_stop hp e
        rw [e'] at z
        exact z
      · rw [List.take_add_one, hp, List.any_append, ih]
        simpa using e
    · rintro _ H' ⟨g, ih⟩
      refine ⟨false, rfl, iteF ?_⟩
      have : (pVs ps).length = ps.length := by unfold pVs; rw [List.length_map]
      rw [this, List.take_length] at ih
      have z := q H' g
      unfold toldM at z
      rw [ih] at z
      exact z
def firstH (ps : List (List Nat)) (a b : List Int) : Option Nat := ps.findIdx? fun p => hall p (cubeM a b)
def oV : Option Nat → V
  | none => .non
  | some k => .int k
def sp_first_holding (T : Tx K mg) : Sp := fun vs H Q _ => ∃ (t c : Addr) (m : Nat) (ps : List (List Nat)) (a b : List Int), vs = [.ref t, .ref c] ∧ H t = some (.tup (pVs ps)) ∧ CovOk m ps ∧ ChAt H c a b ∧ ChOk m a b ∧ Tabs H T.tabs ∧ ∀ H', Gr H H' → Q (oV (firstH ps a b)) H'
theorem ok_first_holding (T : Tx K mg) (B : Tb base T) : FnOk P w K mg base CX0 3 T.f_first_holding T.fd_first_holding ["products", "change"] (sp_first_holding T) := by
  refine T.F_first_holding.ok sc_first_holding (fun vs H Q E h => ?_) (fun cdv A outer s H vs Q E hr h => ?_)
  · obtain ⟨t, c, m, ps, a, b, rfl, _⟩ := h
    rfl
  · obtain ⟨t, c, m, ps, a, b, rfl, ht, okp, hch, ok, tabs, q⟩ := h
    refine ⟨_, (pss_cons (ps_set (i := 2) sc_first_holding.nd rfl (by first | exact .inl rfl | exact .inr rfl) (pe_call (ok_cube_of T B) (hr.mono (by decide)) (by rfl) T.g_cube_of T.F_cube_of.kp T.b_cube_of .nil pass0 (pa_cons (pv 1) pa_nil))) (pss_cons (ps_for PassesOwn.never rfl (pi_enumT (by rfl) T.m_enumerate (pa_cons (pv 0) pa_nil)) (pg_tup rfl (pgs_cons (pg_name (i := 3) sc_first_holding.nd rfl (by first | exact .inl rfl | exact .inr rfl)) (pgs_cons (pg_name (i := 4) sc_first_holding.nd rfl (by first | exact .inl rfl | exact .inr rfl)) pgs_nil))) (pss_one (ps_if (pt_val (pe_call (ok_holds_all T B) (hr.mono (by decide)) (by rfl) T.g_holds_all T.F_holds_all.kp T.b_holds_all .nil pass0 (pa_cons (pv 4) (pa_cons (pv 2) pa_nil)))) (pss_one (ps_ret (pv 3))) pss_nil))) (pss_one (ps_ret pe_non)))), ?_⟩
    refine ⟨.ref c, rfl, c, m, a, b, rfl, hch, ok, tabs, fun H1 g1 => ?_⟩
    refine ⟨.ref t, rfl, t, _, rfl, SqT.of (g1.tup ht), for_enumT (K := K) (a := t) (xs := pVs ps) (fun i σ H' => ∃ y3 y4, σ = [some (.ref t), some (.ref c), some (.str (SX.S (cubeM a b))), y3, y4] ∧ Gr H H' ∧ ∀ j, j < i → ∀ x, ps[j]? = some x → hall x (cubeM a b) = false)
      ⟨_, _, rfl, g1, fun j hj => absurd hj (Nat.not_lt_zero _)⟩ (fun i σ H' _ ⟨_, _, _, g, _⟩ => SqT.of (g.tup ht)) ?_ ?_⟩
    · rintro i x t' σ H2 hx nt ⟨y3, y4, rfl, g2, no⟩
      obtain ⟨p, hp, rfl⟩ := pV_at hx
      have okp' := okp p (List.mem_of_getElem? hp)
      have g3 := g2.trans (Gr.none (o := .tup [V.int (i : Nat), V.str (SX.S p)]) nt)
      refine ⟨t', _, rfl, SqT.of upd_same, rfl, _, _, rfl, _, _, rfl, rfl, ?_⟩
      refine ⟨.str (SX.S p), rfl, .str (SX.S (cubeM a b)), rfl, p, cubeM a b, rfl, by rw [okp'.1, cube_len ok], g3.tabs tabs, fun H4 g4 => ⟨_, rfl, ite2 (fun e => ?_) (fun e => ?_)⟩⟩
      · refine ⟨.int (i : Nat), rfl, ?_⟩
        have z := q H4 (g3.trans g4)
        have e' : firstH ps a b = some i := find_hit hp no e
        rw [e'] at z
        exact z
      · refine ⟨_, _, rfl, g3.trans g4, fun j hj x' hx' => ?_⟩
        by_cases h : j < i
        · exact no j h x' hx'
        · have : j = i := by omega
          subst this
          rw [hp] at hx'
          cases Option.some.inj hx'
          exact Bool.eq_false_iff.mpr e
    · rintro σ H2 ⟨y3, y4, rfl, g2, no⟩
      have z := q H2 g2
      have : (pVs ps).length = ps.length := by unfold pVs; rw [List.length_map]
      have e' : firstH ps a b = none := find_miss fun j hj => no j (by rw [this]; exact hj)
      rw [e'] at z
      exact z
def flashM (a b : List Int) (p : List Nat) : Bool := meetM p (cubeM a b) && (!hrow p a && !hrow p b)
def sp_flashes (T : Tx K mg) : Sp := fun vs H Q _ => ∃ (p : List Nat) (c : Addr) (m : Nat) (a b : List Int), vs = [.str (SX.S p), .ref c] ∧ ProdOk m p ∧ ChAt H c a b ∧ ChOk m a b ∧ Tabs H T.tabs ∧ ∀ H', Gr H H' → Q (.bl (flashM a b p)) H'
theorem ok_flashes (T : Tx K mg) (B : Tb base T) : FnOk P w K mg base CX0 4 T.f_flashes T.fd_flashes ["product", "change"] (sp_flashes T) := by
  refine T.F_flashes.ok sc_flashes (fun vs H Q E h => ?_) (fun cdv A outer s H vs Q E hr h => ?_)
  · obtain ⟨p, c, m, a, b, rfl, _⟩ := h
    rfl
  · obtain ⟨p, c, m, a, b, rfl, okp, hch, ok, tabs, q⟩ := h
    refine ⟨_, (pss_cons (ps_asg (pv 1) (pg_tup rfl (pgs_cons (pg_name (i := 2) sc_flashes.nd rfl (by first | exact .inl rfl | exact .inr rfl)) (pgs_cons (pg_name (i := 3) sc_flashes.nd rfl (by first | exact .inl rfl | exact .inr rfl)) pgs_nil)))) (pss_one (ps_ret (pe_and (pe_call (ok_meet T B) (hr.mono (by decide)) (by rfl) T.g_meet T.F_meet.kp T.b_meet .nil pass0 (pa_cons (pv 0) (pa_cons (pe_call (ok_cube_of T B) (hr.mono (by decide)) (by rfl) T.g_cube_of T.F_cube_of.kp T.b_cube_of .nil pass0 (pa_cons (pv 1) pa_nil)) pa_nil))) (pe_and (pe_not (pe_call (ok_holds_row T B) (hr.mono (by decide)) (by rfl) T.g_holds_row T.F_holds_row.kp T.b_holds_row .nil pass0 (pa_cons (pv 0) (pa_cons (pv 2) pa_nil)))) (pe_one (pe_not (pe_call (ok_holds_row T B) (hr.mono (by decide)) (by rfl) T.g_holds_row T.F_holds_row.kp T.b_holds_row .nil pass0 (pa_cons (pv 0) (pa_cons (pv 3) pa_nil)))))))))), ?_⟩
    obtain ⟨ra, rb, hc, ha, hb⟩ := id hch
    have la := ok.la
    have lb := ok.lb
    have m6 := ok.m6
    refine ⟨.ref c, rfl, c, _, rfl, SqT.of hc, rfl, _, _, rfl, _, _, rfl, rfl, ?_⟩
    refine ⟨.str (SX.S p), rfl, .ref c, rfl, c, m, a, b, rfl, hch, ok, tabs, fun H1 g1 => ?_⟩
    refine ⟨p, cubeM a b, rfl, by rw [okp.1, cube_len ok], g1.tabs tabs, fun H2 g2 => ⟨_, rfl, ite2 (fun e => ?_) (fun e => ?_)⟩⟩
    · have g12 := g1.trans g2
      refine ⟨.str (SX.S p), rfl, .ref ra, rfl, p, ra, a, rfl, g12.tup ha, ok.oa, by rw [okp.1, la], by omega, g12.tabs tabs, fun H3 g3 => ⟨_, rfl, _, rfl, ite2 (fun e2 => ?_) (fun e2 => ?_)⟩⟩
      · have g13 := g12.trans g3
        refine ⟨.str (SX.S p), rfl, .ref rb, rfl, p, rb, b, rfl, g13.tup hb, ok.ob, by rw [okp.1, lb], by omega, g13.tabs tabs, fun H4 g4 => ⟨_, rfl, ?_⟩⟩
        have z := q H4 (g13.trans g4)
        unfold flashM at z
        rw [e, e2, Bool.true_and, Bool.true_and] at z
        exact z
      · have z := q H3 (g12.trans g3)
        unfold flashM at z
        rw [e, Bool.eq_false_iff.mpr e2, Bool.true_and, Bool.false_and] at z
        exact z
    · have z := q H2 (g1.trans g2)
      unfold flashM at z
      rw [Bool.eq_false_iff.mpr e, Bool.false_and] at z
      exact z

end
end Gk

set_option Elab.async false
set_option linter.all false
set_option maxRecDepth 100000
set_option maxHeartbeats 1000000
set_option pp.maxSteps 1500
set_option pp.deepTerms false
namespace Gk
open PySem PySem.Spec PyProof.Rows L2
section
variable {P : Program} {w : World} {K : PySem.W.Frag} {mg : Str → Option Value} {base : Heap}
def gapS : Str := Str.ofString "gap"
def heldS : Str := Str.ofString "held"
def meetsS : Str := Str.ofString "meets"
def clearS : Str := Str.ofString "clear"
def judD (ps : List (List Nat)) (a b : List Int) : PyData :=
  if toldM ps a = true ∧ toldM ps b = true then (match firstH ps a b with
    | none => .tuple [.str gapS]
    | some k => .tuple [.str heldS, .int k])
  else (match ps.findIdx? (flashM a b) with
    | some k => .tuple [.str meetsS, .int k]
    | none => .tuple [.str clearS])
theorem bI_ne {H : Hp} (b : Bool) : TruV K (.int (bI b)) H b := by cases b <;> rfl
def sp_judged (T : Tx K mg) : Sp := fun vs H Q _ => ∃ (cv c : Addr) (m : Nat) (ps : List (List Nat)) (a b : List Int), vs = [.ref cv, .ref c] ∧ CovAt H cv m ps ∧ CovOk m ps ∧ ChAt H c a b ∧ ChOk m a b ∧ Tabs H T.tabs ∧ ∀ r H', Gr H H' → Tk H' (.ref r) (judD ps a b) → Q (.ref r) H'
theorem ok_judged (T : Tx K mg) (B : Tb base T) : FnOk P w K mg base CX0 6 T.f_judged T.fd_judged ["cover", "change"] (sp_judged T) := by
  refine T.F_judged.ok sc_judged (fun vs H Q E h => ?_) (fun cdv A outer s H vs Q E hr h => ?_)
  · obtain ⟨cv, c, m, ps, a, b, rfl, _⟩ := h
    rfl
  · obtain ⟨cv, c, m, ps, a, b, rfl, hcv, okp, hch, ok, tabs, q⟩ := h
    refine ⟨_, (pss_cons (ps_asg (pv 1) (pg_tup rfl (pgs_cons (pg_name (i := 2) sc_judged.nd rfl (by first | exact .inl rfl | exact .inr rfl)) (pgs_cons (pg_name (i := 3) sc_judged.nd rfl (by first | exact .inl rfl | exact .inr rfl)) pgs_nil)))) (pss_cons (ps_set (i := 4) sc_judged.nd rfl (by first | exact .inl rfl | exact .inr rfl) (pe_ix ix_tup (pv 0) pe_int (fun _ _ => rfl))) (pss_cons (ps_if (pt_cut (pw_and (pt_truth (pe_call (ok_told_of T B) (hr.mono (by decide)) (by rfl) T.g_told_of T.F_told_of.kp T.b_told_of .nil pass0 (pa_cons (pv 0) (pa_cons (pv 2) pa_nil))) (by intro _; rfl)) (pw_and1 (pt_truth (pe_call (ok_told_of T B) (hr.mono (by decide)) (by rfl) T.g_told_of T.F_told_of.kp T.b_told_of .nil pass0 (pa_cons (pv 0) (pa_cons (pv 3) pa_nil))) (by intro _; rfl)))).pt) (pss_cons (ps_set (i := 5) sc_judged.nd rfl (by first | exact .inl rfl | exact .inr rfl) (pe_call (ok_first_holding T B) (hr.mono (by decide)) (by rfl) T.g_first_holding T.F_first_holding.kp T.b_first_holding .nil pass0 (pa_cons (pv 4) (pa_cons (pv 1) pa_nil)))) (pss_one (ps_ret (pe_ifExp (pt_cmpR op_isN (pv 5) pe_non (nomark _)) (pe_tup (pa_cons pe_str pa_nil)) (pe_tup (pa_cons pe_str (pa_cons (pv 5) pa_nil))))))) pss_nil) (pss_cons (ps_for PassesOwn.never rfl (pi_enumT (by rfl) T.m_enumerate (pa_cons (pv 4) pa_nil)) (pg_tup rfl (pgs_cons (pg_name (i := 5) sc_judged.nd rfl (by first | exact .inl rfl | exact .inr rfl)) (pgs_cons (pg_name (i := 6) sc_judged.nd rfl (by first | exact .inl rfl | exact .inr rfl)) pgs_nil))) (pss_one (ps_if (pt_val (pe_call (ok_flashes T B) (hr.mono (by decide)) (by rfl) T.g_flashes T.F_flashes.kp T.b_flashes .nil pass0 (pa_cons (pv 6) (pa_cons (pv 1) pa_nil)))) (pss_one (ps_ret (pe_tup (pa_cons pe_str (pa_cons (pv 5) pa_nil))))) pss_nil))) (pss_one (ps_ret (pe_tup (pa_cons pe_str pa_nil)))))))), ?_⟩
    obtain ⟨ra, rb, hc, ha, hb⟩ := id hch
    obtain ⟨t, h1, ht⟩ := id hcv
    have la := ok.la
    have lb := ok.lb
    have m6 := ok.m6
    refine ⟨.ref c, rfl, c, _, rfl, SqT.of hc, rfl, _, _, rfl, _, _, rfl, rfl, ?_⟩
    refine ⟨.ref cv, rfl, cv, _, _, .ref t, rfl, rfl, SqT.of h1, rfl, ?_⟩
    -- both 1
    refine ⟨fun z H' => Gr H H' ∧ (z = true ↔ toldM ps a = true ∧ toldM ps b = true), ?_, ?_⟩
    · refine ⟨.ref cv, rfl, .ref ra, rfl, cv, ra, m, ps, a, rfl, hcv, okp, ha, ok.oa, la, m6, tabs, fun H1 g1 => ⟨_, bI_ne _, ite2 (fun e => ?_) (fun e => ⟨g1, Iff.intro (fun z => by cases z) (fun z => absurd z.1 e)⟩)⟩⟩
      refine ⟨.ref cv, rfl, .ref rb, rfl, cv, rb, m, ps, b, rfl, hcv.gr g1, okp, g1.tup hb, ok.ob, lb, m6, g1.tabs tabs, fun H2 g2 => ⟨_, bI_ne _, g1.trans g2, Iff.intro (fun z => ⟨e, z⟩) (fun z => z.2)⟩⟩
    · rintro z H2 ⟨g2, hz⟩
      refine ite2 (fun e => ?_) (fun e => ?_)
      · have e' := hz.mp e
        refine ⟨.ref t, rfl, .ref c, rfl, t, c, m, ps, a, b, rfl, g2.tup ht, okp, hch.gr g2, ok, g2.tabs tabs, fun H3 g3 => ?_⟩
        have g23 := g2.trans g3
        have ej : judD ps a b = (match firstH ps a b with | none => .tuple [.str gapS] | some k => .tuple [.str heldS, .int k]) := if_pos e'
        cases hf : firstH ps a b with
        | none =>
          rw [hf] at ej
          refine ⟨.non, rfl, rfl, _, rfl, iteT ⟨sl1, fun r nr => ?_⟩⟩
          refine q r _ (g23.trans (Gr.none nr)) ?_
          rw [ej]
          exact .tup upd_same (.cons (.str _) .nil)
        | some k =>
          rw [hf] at ej
          refine ⟨.int k, rfl, rfl, _, rfl, iteF ⟨.int k, rfl, sl2, fun r nr => ?_⟩⟩
          refine q r _ (g23.trans (Gr.none nr)) ?_
          rw [ej]
          exact .tup upd_same (.cons (.str _) (.cons (.int _) .nil))
      · have e' : ¬ (toldM ps a = true ∧ toldM ps b = true) := fun k => e (hz.mpr k)
        have ej : judD ps a b = (match ps.findIdx? (flashM a b) with | some k => .tuple [.str meetsS, .int k] | none => .tuple [.str clearS]) := if_neg e'
        refine ⟨.ref t, rfl, t, _, rfl, SqT.of (g2.tup ht), for_enumT (K := K) (a := t) (xs := pVs ps) (fun i σ H' => ∃ y5 y6, σ = [some (.ref cv), some (.ref c), some (.ref ra), some (.ref rb), some (.ref t), y5, y6] ∧ Gr H H' ∧ ∀ j, j < i → ∀ x, ps[j]? = some x → flashM a b x = false)
          ⟨_, _, rfl, g2, fun j hj => absurd hj (Nat.not_lt_zero _)⟩ (fun i σ H' _ ⟨_, _, _, g, _⟩ => SqT.of (g.tup ht)) ?_ ?_⟩
        · rintro i x t' σ H3 hx nt ⟨y5, y6, rfl, g3, no⟩
          obtain ⟨p, hp, rfl⟩ := pV_at hx
          have okp' := okp p (List.mem_of_getElem? hp)
          have g4 := g3.trans (Gr.none (o := .tup [V.int (i : Nat), V.str (SX.S p)]) nt)
          refine ⟨t', _, rfl, SqT.of upd_same, rfl, _, _, rfl, _, _, rfl, rfl, ?_⟩
          refine ⟨.str (SX.S p), rfl, .ref c, rfl, p, c, m, a, b, rfl, okp', hch.gr g4, ok, g4.tabs tabs, fun H5 g5 => ⟨_, rfl, ite2 (fun e => ?_) (fun e => ?_)⟩⟩
          · refine ⟨.int (i : Nat), rfl, sl2, fun r nr => ?_⟩
            refine q r _ ((g4.trans g5).trans (Gr.none nr)) ?_
            rw [ej, find_hit hp no e]
            exact .tup upd_same (.cons (.str _) (.cons (.int _) .nil))
          · refine ⟨_, _, rfl, g4.trans g5, fun j hj x' hx' => ?_⟩
            by_cases h : j < i
            · exact no j h x' hx'
            · have : j = i := by omega
              subst this
              rw [hp] at hx'
              cases Option.some.inj hx'
              exact Bool.eq_false_iff.mpr e
        · rintro σ H3 ⟨y5, y6, rfl, g3, no⟩
          have : (pVs ps).length = ps.length := by unfold pVs; rw [List.length_map]
          refine ⟨sl1, fun r nr => ?_⟩
          refine q r _ (g3.trans (Gr.none nr)) ?_
          rw [ej, find_miss fun j hj => no j (by rw [this]; exact hj)]
          exact .tup upd_same (.cons (.str _) .nil)
def judS (ps : List (List Nat)) (a b : List Int) : Str :=
  if toldM ps a = true ∧ toldM ps b = true then (match firstH ps a b with
    | none => gapS
    | some _ => heldS)
  else (match ps.findIdx? (flashM a b) with
    | some _ => meetsS
    | none => clearS)
theorem jud_head (ps : List (List Nat)) (a b : List Int) : ∃ r, judD ps a b = .tuple (.str (judS ps a b) :: r) := by
  unfold judD judS
  split
  · cases firstH ps a b with
    | none => exact ⟨_, rfl⟩
    | some k => exact ⟨_, rfl⟩
  · cases ps.findIdx? (flashM a b) with
    | none => exact ⟨_, rfl⟩
    | some k => exact ⟨_, rfl⟩
def froM (ps : List (List Nat)) (a b : List Int) : Bool := decide (judS ps a b = gapS) || decide (judS ps a b = meetsS)
def cwD (ps : List (List Nat)) (a b : List Int) : PyData := .tuple [.int (bI (toldM ps a)), .int (bI (toldM ps b)), .bool (froM ps a b)]
theorem eqV_str (x y : Str) : eqV (.str x) (.str y) = decide (y = x) := by
  show (x == y) = _
  by_cases z : y = x
  · subst z
    simp
  · rw [decide_eq_false z]
    exact beq_eq_false_iff_ne.mpr fun k => z k.symm
def sp_cover_word (T : Tx K mg) : Sp := fun vs H Q _ => ∃ (cv c : Addr) (m : Nat) (ps : List (List Nat)) (a b : List Int), vs = [.ref cv, .ref c] ∧ CovAt H cv m ps ∧ CovOk m ps ∧ ChAt H c a b ∧ ChOk m a b ∧ Tabs H T.tabs ∧ ∀ r H', Gr H H' → Tk H' (.ref r) (cwD ps a b) → Q (.ref r) H'
theorem ok_cover_word (T : Tx K mg) (B : Tb base T) : FnOk P w K mg base CX0 7 T.f_cover_word T.fd_cover_word ["cover", "change"] (sp_cover_word T) := by
  refine T.F_cover_word.ok sc_cover_word (fun vs H Q E h => ?_) (fun cdv A outer s H vs Q E hr h => ?_)
  · obtain ⟨cv, c, m, ps, a, b, rfl, _⟩ := h
    rfl
  · obtain ⟨cv, c, m, ps, a, b, rfl, hcv, okp, hch, ok, tabs, q⟩ := h
    refine ⟨_, (pss_cons (ps_asg (pv 1) (pg_tup rfl (pgs_cons (pg_name (i := 2) sc_cover_word.nd rfl (by first | exact .inl rfl | exact .inr rfl)) (pgs_cons (pg_name (i := 3) sc_cover_word.nd rfl (by first | exact .inl rfl | exact .inr rfl)) pgs_nil)))) (pss_one (ps_ret (pe_tup (pa_cons (pe_call (ok_told_of T B) (hr.mono (by decide)) (by rfl) T.g_told_of T.F_told_of.kp T.b_told_of .nil pass0 (pa_cons (pv 0) (pa_cons (pv 2) pa_nil))) (pa_cons (pe_call (ok_told_of T B) (hr.mono (by decide)) (by rfl) T.g_told_of T.F_told_of.kp T.b_told_of .nil pass0 (pa_cons (pv 0) (pa_cons (pv 3) pa_nil))) (pa_cons (pe_cmpR op_in_seq (pe_ix ix_tup (pe_call (ok_judged T B) (hr.mono (by decide)) (by rfl) T.g_judged T.F_judged.kp T.b_judged .nil pass0 (pa_cons (pv 0) (pa_cons (pv 1) pa_nil))) pe_int (fun _ _ => rfl)) (pe_tup (pa_cons pe_str (pa_cons pe_str pa_nil))) rfl) pa_nil))))))), ?_⟩
    obtain ⟨ra, rb, hc, ha, hb⟩ := id hch
    have la := ok.la
    have lb := ok.lb
    have m6 := ok.m6
    refine ⟨.ref c, rfl, c, _, rfl, SqT.of hc, rfl, _, _, rfl, _, _, rfl, rfl, ?_⟩
    refine ⟨.ref cv, rfl, .ref ra, rfl, cv, ra, m, ps, a, rfl, hcv, okp, ha, ok.oa, la, m6, tabs, fun H1 g1 => ?_⟩
    refine ⟨.ref cv, rfl, .ref rb, rfl, cv, rb, m, ps, b, rfl, hcv.gr g1, okp, g1.tup hb, ok.ob, lb, m6, g1.tabs tabs, fun H2 g2 => ?_⟩
    have g12 := g1.trans g2
    refine ⟨.ref cv, rfl, .ref c, rfl, cv, c, m, ps, a, b, rfl, hcv.gr g12, okp, hch.gr g12, ok, g12.tabs tabs, fun r H3 g3 tr => ?_⟩
    obtain ⟨rest, er⟩ := jud_head ps a b
    rw [er] at tr
    obtain ⟨r', xs, e, hr', tx⟩ := tr.tup_inv
    cases e
    cases tx with
    | cons t1 t2 =>
      cases t1
      refine ⟨r, _, _, .str (judS ps a b), rfl, rfl, SqT.of hr', atI_nat (j := 0) rfl, sl2, fun u nu => ?_⟩
      refine ⟨u, _, rfl, .inr (SqT.of upd_same), rfl, rfl, sl3, fun r2 n2 => ?_⟩
      refine q r2 _ (((g12.trans g3).trans (Gr.none nu)).trans (Gr.none n2)) ?_
      have ev : (if false = true then !inV (.str (judS ps a b)) [V.str (Str.ofString "gap"), V.str (Str.ofString "meets")] else inV (.str (judS ps a b)) [V.str (Str.ofString "gap"), V.str (Str.ofString "meets")]) = froM ps a b := by
        show (eqV (.str (Str.ofString "gap")) (.str (judS ps a b)) || (eqV (.str (Str.ofString "meets")) (.str (judS ps a b)) || false)) = _
        rw [eqV_str, eqV_str, Bool.or_false]
        rfl
      rw [ev]
      exact .tup upd_same (.cons (.int _) (.cons (.int _) (.cons (.bl _) .nil)))

end
end Gk

set_option Elab.async false
set_option linter.all false
set_option maxRecDepth 100000
set_option maxHeartbeats 1000000
set_option pp.maxSteps 1500
set_option pp.deepTerms false
namespace Gk
open PySem PySem.Spec PyProof.Rows L2
section
variable {P : Program} {w : World} {K : PySem.W.Frag} {mg : Str → Option Value} {base : Heap}
/-! ### sizes of what is shown -/
def fineB (n m : Nat) (d : PyData) : Bool := d.showable && (d.leavesShort 200 && (decide (d.weight ≤ n) && decide (d.depth ≤ m)))
theorem fine_iff {n m : Nat} {d : PyData} : fineB n m d = true ↔ d.showable = true ∧ d.leavesShort 200 = true ∧ d.weight ≤ n ∧ d.depth ≤ m := by
  unfold fineB
  rw [Bool.and_eq_true, Bool.and_eq_true, Bool.and_eq_true, decide_eq_true_eq, decide_eq_true_eq]
theorem fine_mono {n m n' m' : Nat} {d : PyData} (h : fineB n m d = true) (a : n ≤ n') (b : m ≤ m') : fineB n' m' d = true := by
  obtain ⟨h1, h2, h3, h4⟩ := fine_iff.mp h
  exact fine_iff.mpr ⟨h1, h2, Nat.le_trans h3 a, Nat.le_trans h4 b⟩
theorem fine_fits {n m : Nat} {d : PyData} (h : fineB n m d = true) (hn : n ≤ 50000) : d.shown.length ≤ sizeLine := by
  obtain ⟨_, h2, h3, _⟩ := fine_iff.mp h
  have := PyData.shown_le 200 (by decide) d h2
  have e : sizeLine = 16777216 := by decide
  rw [e]
  omega
theorem fine_all {n m : Nat} : ∀ {ds : List PyData}, (∀ d ∈ ds, fineB n m d = true) → PyData.showableAll ds = true ∧ PyData.leavesShortAll 200 ds = true ∧ PyData.weightAll ds ≤ ds.length * (n + 1) ∧ PyData.depthAll ds ≤ m
  | [], _ => ⟨rfl, rfl, Nat.zero_le _, Nat.zero_le _⟩
  | d :: r, h => by
    obtain ⟨a1, a2, a3, a4⟩ := fine_iff.mp (h d (List.mem_cons_self ..))
    obtain ⟨b1, b2, b3, b4⟩ := fine_all (ds := r) fun x hx => h x (List.mem_cons_of_mem _ hx)
    refine ⟨?_, ?_, ?_, ?_⟩
    · unfold PyData.showableAll
      rw [a1, b1]
      rfl
    · unfold PyData.leavesShortAll
      rw [a2, b2]
      rfl
    · unfold PyData.weightAll
      rw [List.length_cons, Nat.succ_mul]
      omega
    · unfold PyData.depthAll
      omega
theorem fine_tup {n m k : Nat} {ds : List PyData} (h : ∀ d ∈ ds, fineB n m d = true) (hk : ds.length ≤ k) : fineB (k * (n + 1)) (m + 1) (.tuple ds) = true := by
  obtain ⟨b1, b2, b3, b4⟩ := fine_all h
  refine fine_iff.mpr ⟨b1, b2, ?_, ?_⟩
  · show PyData.weightAll ds ≤ _
    exact Nat.le_trans b3 (Nat.mul_le_mul_right _ hk)
  · show PyData.depthAll ds + 1 ≤ _
    omega
theorem fine_lst {n m k : Nat} {ds : List PyData} (h : ∀ d ∈ ds, fineB n m d = true) (hk : ds.length ≤ k) : fineB (k * (n + 1)) (m + 1) (.list ds) = true := by
  obtain ⟨b1, b2, b3, b4⟩ := fine_all h
  refine fine_iff.mpr ⟨b1, b2, ?_, ?_⟩
  · show PyData.weightAll ds ≤ _
    exact Nat.le_trans b3 (Nat.mul_le_mul_right _ hk)
  · show PyData.depthAll ds + 1 ≤ _
    omega

mutual
theorem Sh.gr {H H' : Hp} (s : Gr H H') : ∀ {v : V} {d : PyData}, Sh H v d → Sh H' v d
  | _, _, .non => .non
  | _, _, .bl b => .bl b
  | _, _, .int i => .int i
  | _, _, .str x => .str x
  | _, _, .lst h n t => .lst (s.lst h) n (t.gr s)
  | _, _, .tup h t => .tup (s.tup h) (t.gr s)
  | _, _, .dic h t => .dic (s.1 _ _ (fun _ z => by cases z) h) (t.gr s)
theorem ShAll.gr {H H' : Hp} (s : Gr H H') : ∀ {vs : List V} {ds : List PyData}, ShAll H vs ds → ShAll H' vs ds
  | _, _, .nil => .nil
  | _, _, .cons h t => .cons (h.gr s) (t.gr s)
end
theorem ShAll.get {H : Hp} : ∀ {xs : List V} {ds : List PyData} {j : Nat} {x : V}, ShAll H xs ds → xs[j]? = some x → ∃ d, ds[j]? = some d ∧ Sh H x d
  | _, _, _, _, .nil, h => by simp at h
  | _, _, 0, _, .cons (d := d) a _, h => by
    cases (Option.some.inj h)
    exact ⟨d, rfl, a⟩
  | _, _, j + 1, _, .cons _ t, h => t.get h
theorem ShAll.append {H : Hp} : ∀ {xs ys : List V} {ds es : List PyData}, ShAll H xs ds → ShAll H ys es → ShAll H (xs ++ ys) (ds ++ es)
  | _, _, _, _, .nil, t => t
  | _, _, _, _, .cons a r, t => .cons a (r.append t)
theorem ShAll.take {H : Hp} : ∀ {xs : List V} {ds : List PyData} (n : Nat), ShAll H xs ds → ShAll H (xs.take n) (ds.take n)
  | _, _, 0, _ => by rw [List.take_zero, List.take_zero]; exact .nil
  | _, _, n + 1, .nil => .nil
  | _, _, n + 1, .cons a r => .cons a (r.take n)
theorem ShAll.drop {H : Hp} : ∀ {xs : List V} {ds : List PyData} (n : Nat), ShAll H xs ds → ShAll H (xs.drop n) (ds.drop n)
  | _, _, 0, h => h
  | _, _, n + 1, .nil => .nil
  | _, _, n + 1, .cons _ r => r.drop n
theorem notT {b : Bool} (h : (!b) = true) : ¬ b = true := by cases b <;> simp_all
theorem notF {b : Bool} (h : ¬ (!b) = true) : b = true := by cases b <;> simp_all

/-! ### kinds of data -/
def isIntD : PyData → Bool
  | .int _ => true
  | .bool _ => true
  | _ => false
def isBoolD : PyData → Bool
  | .bool _ => true
  | _ => false
def isTupD : PyData → Bool
  | .tuple _ => true
  | _ => false
def isStrD : PyData → Bool
  | .str _ => true
  | _ => false
theorem kitInt : ∀ d : PyData, kitB (tyD d) "int" = some (isIntD d)
  | .none => (by decide +kernel : kitB "NoneType" "int" = some false)
  | .bool _ => (by decide +kernel : kitB "bool" "int" = some true)
  | .int _ => (by decide +kernel : kitB "int" "int" = some true)
  | .str _ => (by decide +kernel : kitB "str" "int" = some false)
  | .list _ => (by decide +kernel : kitB "list" "int" = some false)
  | .tuple _ => (by decide +kernel : kitB "tuple" "int" = some false)
  | .dict _ => (by decide +kernel : kitB "dict" "int" = some false)
theorem kitBool : ∀ d : PyData, kitB (tyD d) "bool" = some (isBoolD d)
  | .none => (by decide +kernel : kitB "NoneType" "bool" = some false)
  | .bool _ => (by decide +kernel : kitB "bool" "bool" = some true)
  | .int _ => (by decide +kernel : kitB "int" "bool" = some false)
  | .str _ => (by decide +kernel : kitB "str" "bool" = some false)
  | .list _ => (by decide +kernel : kitB "list" "bool" = some false)
  | .tuple _ => (by decide +kernel : kitB "tuple" "bool" = some false)
  | .dict _ => (by decide +kernel : kitB "dict" "bool" = some false)
theorem kitTup : ∀ d : PyData, kitB (tyD d) "tuple" = some (isTupD d)
  | .none => (by decide +kernel : kitB "NoneType" "tuple" = some false)
  | .bool _ => (by decide +kernel : kitB "bool" "tuple" = some false)
  | .int _ => (by decide +kernel : kitB "int" "tuple" = some false)
  | .str _ => (by decide +kernel : kitB "str" "tuple" = some false)
  | .list _ => (by decide +kernel : kitB "list" "tuple" = some false)
  | .tuple _ => (by decide +kernel : kitB "tuple" "tuple" = some true)
  | .dict _ => (by decide +kernel : kitB "dict" "tuple" = some false)
theorem kitStr : ∀ d : PyData, kitB (tyD d) "str" = some (isStrD d)
  | .none => (by decide +kernel : kitB "NoneType" "str" = some false)
  | .bool _ => (by decide +kernel : kitB "bool" "str" = some false)
  | .int _ => (by decide +kernel : kitB "int" "str" = some false)
  | .str _ => (by decide +kernel : kitB "str" "str" = some true)
  | .list _ => (by decide +kernel : kitB "list" "str" = some false)
  | .tuple _ => (by decide +kernel : kitB "tuple" "str" = some false)
  | .dict _ => (by decide +kernel : kitB "dict" "str" = some false)
def wholeD : PyData → Bool
  | .int _ => true
  | _ => false
def worthD : PyData → Bool
  | .int i => decide (0 ≤ i) && decide (i ≤ 1)
  | _ => false
theorem whole_of : ∀ {d : PyData}, isIntD d = true → wholeD d = !isBoolD d
  | .int _, _ => rfl
  | .bool _, _ => rfl
  | .none, h => by cases h
  | .str _, h => by cases h
  | .list _, h => by cases h
  | .tuple _, h => by cases h
  | .dict _, h => by cases h
theorem whole_not : ∀ {d : PyData}, ¬ isIntD d = true → wholeD d = false
  | .int _, h => absurd rfl h
  | .bool _, h => absurd rfl h
  | .none, _ => rfl
  | .str _, _ => rfl
  | .list _, _ => rfl
  | .tuple _, _ => rfl
  | .dict _, _ => rfl
theorem whole_int : ∀ {d : PyData}, wholeD d = true → ∃ i, d = .int i
  | .int i, _ => ⟨i, rfl⟩
  | .bool _, h => by cases h
  | .none, h => by cases h
  | .str _, h => by cases h
  | .list _, h => by cases h
  | .tuple _, h => by cases h
  | .dict _, h => by cases h
theorem worth_not : ∀ {d : PyData}, ¬ wholeD d = true → worthD d = false
  | .int _, h => absurd rfl h
  | .bool _, _ => rfl
  | .none, _ => rfl
  | .str _, _ => rfl
  | .list _, _ => rfl
  | .tuple _, _ => rfl
  | .dict _, _ => rfl
theorem tup_of : ∀ {d : PyData}, isTupD d = true → ∃ ds, d = .tuple ds
  | .tuple ds, _ => ⟨ds, rfl⟩
  | .bool _, h => by cases h
  | .none, h => by cases h
  | .str _, h => by cases h
  | .list _, h => by cases h
  | .int _, h => by cases h
  | .dict _, h => by cases h
def sp_is_whole (K : PySem.W.Frag) : Sp := fun vs H Q _ => ∃ (v : V) (d : PyData), vs = [v] ∧ Sh H v d ∧ Q (.bl (wholeD d)) H
theorem ok_is_whole (T : Tx K mg) : FnOk P w K mg base CX0 1 T.f_is_whole T.fd_is_whole ["thing"] (sp_is_whole K) := by
  refine T.F_is_whole.ok sc_is_whole (fun vs H Q E h => ?_) (fun cdv A outer s H vs Q E hr h => ?_)
  · obtain ⟨v, d, rfl, _⟩ := h
    rfl
  · obtain ⟨v, d, rfl, sh, q⟩ := h
    refine ⟨_, (pss_one (ps_ret (pe_and (pe_callB call_isi (by rfl) T.m_isinstance (by decide +kernel) (pa_cons (pv 0) (pa_cons (pe_bltn (v := .ty "int") (u := .type "int") (by rfl) T.m_int (by decide +kernel) rfl) pa_nil))) (pe_one (pe_not (pe_callB call_isi (by rfl) T.m_isinstance (by decide +kernel) (pa_cons (pv 0) (pa_cons (pe_bltn (v := .ty "bool") (u := .type "bool") (by rfl) T.m_bool (by decide +kernel) rfl) pa_nil)))))))), ?_⟩
    refine ⟨v, rfl, _, _, _, _, _, rfl, .ty _, sh.ty, kit_ty (kitInt d), _, rfl, ite2 (fun e => ?_) (fun e => ?_)⟩
    · refine ⟨v, rfl, _, _, _, _, _, rfl, .ty _, sh.ty, kit_ty (kitBool d), _, rfl, ?_⟩
      rw [← whole_of e]
      exact q
    · rw [whole_not e] at q
      exact q

/-! ### products and covers, of anything -/
def sgB (c : Nat) : Bool := decide (c ∈ (Str.ofString "01-").cps.toList)
def isProdD (m : Int) : PyData → Bool
  | .str x => decide ((x.length : Int) = m) && x.cps.toList.all sgB
  | _ => false
def covParts (a b : PyData) : Bool :=
  match a with
  | .int m => (match b with
    | .tuple ds => decide (1 ≤ m) && (decide (m ≤ 6) && ds.all (isProdD m))
    | _ => false)
  | _ => false
def isCovD : PyData → Bool
  | .tuple ds => (match ds with
    | [a, b] => covParts a b
    | _ => false)
  | _ => false
theorem prod_not {m : Int} : ∀ {d : PyData}, ¬ isStrD d = true → isProdD m d = false
  | .str _, h => absurd rfl h
  | .bool _, _ => rfl
  | .none, _ => rfl
  | .tuple _, _ => rfl
  | .list _, _ => rfl
  | .int _, _ => rfl
  | .dict _, _ => rfl
theorem cov_not : ∀ {d : PyData}, ¬ isTupD d = true → isCovD d = false
  | .tuple _, h => absurd rfl h
  | .bool _, _ => rfl
  | .none, _ => rfl
  | .str _, _ => rfl
  | .list _, _ => rfl
  | .int _, _ => rfl
  | .dict _, _ => rfl
theorem cov_len : ∀ {ds : List PyData}, ¬ ds.length = 2 → isCovD (.tuple ds) = false
  | [], _ => rfl
  | [_], _ => rfl
  | [_, _], h => absurd rfl h
  | _ :: _ :: _ :: _, _ => rfl
theorem cov_int : ∀ {a : PyData} (b : PyData), ¬ wholeD a = true → covParts a b = false
  | .int _, _, h => absurd rfl h
  | .bool _, _, _ => rfl
  | .none, _, _ => rfl
  | .str _, _, _ => rfl
  | .list _, _, _ => rfl
  | .tuple _, _, _ => rfl
  | .dict _, _, _ => rfl
theorem cov_tup (m : Int) : ∀ {b : PyData}, ¬ isTupD b = true → covParts (.int m) b = false
  | .tuple _, h => absurd rfl h
  | .bool _, _ => rfl
  | .none, _ => rfl
  | .str _, _ => rfl
  | .list _, _ => rfl
  | .int _, _ => rfl
  | .dict _, _ => rfl
theorem strD_of : ∀ {d : PyData}, isStrD d = true → ∃ z, d = .str z
  | .str z, _ => ⟨z, rfl⟩
  | .bool _, h => by cases h
  | .none, h => by cases h
  | .tuple _, h => by cases h
  | .list _, h => by cases h
  | .int _, h => by cases h
  | .dict _, h => by cases h
theorem w_line {x : Str} (h : (PyData.str x).weight ≤ 50000) : x.length ≤ sizeLine := Nat.le_trans (show x.length ≤ 50000 from h) (by decide)
theorem len_eqI {n : Nat} {m : Int} : decide (V.int (n : Int) = V.int m) = decide ((n : Int) = m) := by
  by_cases h : (n : Int) = m
  · rw [decide_eq_true h, decide_eq_true (by rw [h])]
  · rw [decide_eq_false h, decide_eq_false fun z => h (V.int.inj z)]
theorem cps_at {x : Str} {j c : Nat} (h : x.cps[j]? = some c) : x.cps.toList[j]? = some c := by rw [Array.getElem?_toList]; exact h
theorem all_stopD {α : Type} {f : α → Bool} {l : List α} {j : Nat} {x : α} (h : l[j]? = some x) (n : ¬ f x = true) : l.all f = false := by
  cases e : l.all f with
  | false => rfl
  | true => exact absurd (List.all_eq_true.mp e x (List.mem_of_getElem? h)) n
theorem all_takeD {α : Type} {f : α → Bool} {l : List α} {j : Nat} {x : α} (h : l[j]? = some x) (p : (l.take j).all f = true) (hx : f x = true) : (l.take (j + 1)).all f = true := by
  rw [List.take_add_one, h, List.all_append, p, Bool.true_and]
  show (f x && true) = true
  rw [hx]
  rfl
def sp_is_product (T : Tx K mg) : Sp := fun vs H Q _ => ∃ (m : Int) (v : V) (d : PyData), vs = [.int m, v] ∧ Sh H v d ∧ d.weight ≤ 50000 ∧ GxR.TabG H T.P_is_product ∧ ∀ H', Gr H H' → Q (.bl (isProdD m d)) H'
theorem ok_is_product (T : Tx K mg) (B : Tb base T) : FnOk P w K mg base CX0 2 T.f_is_product T.fd_is_product ["many", "thing"] (sp_is_product T) := by
  refine okC T.F_is_product sc_is_product (fun vs H Q E h => ?_) (fun A outer s H vs Q E hr h => ?_)
  · obtain ⟨m, v, d, rfl, _⟩ := h
    rfl
  · obtain ⟨m, v, d, rfl, sh, wt, tab, q⟩ := h
    refine ⟨_, (pss_one (ps_ret (pe_and (pe_callB call_isi (by rfl) T.m_isinstance (by decide +kernel) (pa_cons (pv 1) (pa_cons (pe_bltn (v := .ty "str") (u := .type "str") (by rfl) T.m_str (by decide +kernel) rfl) pa_nil))) (pe_and (pe_cmpR op_eq (pe_callB call_len_str (by rfl) T.m_len PySem.boot_len (pa_cons (pv 1) pa_nil)) (pv 0) (nomark _)) (pe_one (pe_allX (own := [("sign", 2)]) (k := 0) (hr.mono (by decide)) rfl sc_is_product.nd (by rfl) T.m_all (by decide +kernel) B.TB_is_product T.cd_is_product rfl rfl (by decide +kernel) (blkOk_by (own := [("sign", 2)]) (N := ["many", "thing", "sign"]) (sc := defScope s_is_product) (by decide +kernel)) (pi_str (pv 1)) (fun _ _ _ _ _ _ _ hr gd => (pg_name (i := 2) sc_is_product.nd rfl (by first | exact .inl rfl | exact .inr rfl))) (fun _ _ _ _ _ _ _ hr gd => pts_nil) (fun _ _ _ _ _ _ _ hr gd => (pe_cmpR op_in_sign (pv 2) pe_str rfl)) (fun _ => rfl))))))), ?_⟩
    refine ⟨v, rfl, _, _, _, _, _, rfl, .ty _, sh.ty, kit_ty (kitStr d), _, rfl, ite2 (fun e => ?_) (fun e => ?_)⟩
    · obtain ⟨x, rfl⟩ := strD_of e
      cases sh
      refine ⟨.str x, rfl, x, rfl, w_line wt, .int m, rfl, rfl, _, rfl, ?_⟩
      rw [len_eqI]
      refine ite2 (fun e1 => ?_) (fun e1 => ?_)
      · refine ⟨.str x, rfl, x, rfl, tab, fun H2 tb => ?_⟩
        have g2 := Gr.tab tab tb
        refine gx_str (z := x) (fun j _ H' => H' = H2 ∧ (x.cps.toList.take j).all sgB = true) ⟨rfl, rfl⟩ ?_ ?_
        · rintro j c _ H' hx ⟨rfl, ih⟩
          have hc := cps_at hx
          refine ⟨rfl, .str ⟨#[c]⟩, rfl, c, _, rfl, rfl, _, rfl, ite2 (fun z => ⟨rfl, all_takeD hc ih z⟩) (fun z => ?_)⟩
          have q' := q H' g2
          have : isProdD m (.str x) = false := by
            show (decide ((x.length : Int) = m) && x.cps.toList.all sgB) = false
            rw [all_stopD hc z, Bool.and_false]
          rw [this] at q'
          exact q'
        · rintro _ H' ⟨rfl, ih⟩
          have : x.cps.size = x.cps.toList.length := Array.length_toList.symm
          rw [this, List.take_length] at ih
          have q' := q H' g2
          have : isProdD m (.str x) = true := by
            show (decide ((x.length : Int) = m) && x.cps.toList.all sgB) = true
            rw [ih, e1]
            rfl
          rw [this] at q'
          exact q'
      · have q' := q H Gr.refl
        have : isProdD m (.str x) = false := by
          show (decide ((x.length : Int) = m) && x.cps.toList.all sgB) = false
          rw [Bool.eq_false_iff.mpr e1, Bool.false_and]
        rw [this] at q'
        exact q'
    · have q' := q H Gr.refl
      rw [prod_not e] at q'
      exact q'
theorem weight_get {ds : List PyData} {j : Nat} {d : PyData} (h : ds[j]? = some d) : d.weight ≤ PyData.weightAll ds := by
  induction ds generalizing j with
  | nil => simp at h
  | cons x r ih =>
    cases j with
    | zero =>
      cases Option.some.inj h
      show d.weight ≤ d.weight + 1 + PyData.weightAll r
      omega
    | succ j =>
      have := ih (j := j) h
      show d.weight ≤ x.weight + 1 + PyData.weightAll r
      omega
theorem two_of {ds : List PyData} (h : ds.length = 2) : ∃ a b, ds = [a, b] := by
  match ds, h with
  | [a, b], _ => exact ⟨a, b, rfl⟩
def sp_is_cover (T : Tx K mg) : Sp := fun vs H Q _ => ∃ (v : V) (d : PyData), vs = [v] ∧ Sh H v d ∧ d.weight ≤ 50000 ∧ GxR.TabG H T.P_is_product ∧ GxR.TabG H T.P_is_cover ∧ ∀ H', Gr H H' → Q (.bl (isCovD d)) H'
theorem ok_is_cover (T : Tx K mg) (B : Tb base T) : FnOk P w K mg base CX0 4 T.f_is_cover T.fd_is_cover ["thing"] (sp_is_cover T) := by
  refine okC T.F_is_cover sc_is_cover (fun vs H Q E h => ?_) (fun A outer s H vs Q E hr h => ?_)
  · obtain ⟨v, d, rfl, _⟩ := h
    rfl
  · obtain ⟨v, d, rfl, sh, wt, tab0, tab, q⟩ := h
    refine ⟨_, (pss_cons (ps_if (pw_or (pt_not (pt_val (pe_callB call_isi (by rfl) T.m_isinstance (by decide +kernel) (pa_cons (pv 0) (pa_cons (pe_bltn (v := .ty "tuple") (u := .type "tuple") (by rfl) T.m_tuple (by decide +kernel) rfl) pa_nil))))) (pw_or1 (pt_cmpR op_ne (pe_callB call_len_seq (by rfl) T.m_len PySem.boot_len (pa_cons (pv 0) pa_nil)) pe_int (nomark _)))).pt (pss_one (ps_ret pe_bl)) pss_nil) (pss_cons (ps_asg (pv 0) (pg_tup rfl (pgs_cons (pg_name (i := 1) sc_is_cover.nd rfl (by first | exact .inl rfl | exact .inr rfl)) (pgs_cons (pg_name (i := 2) sc_is_cover.nd rfl (by first | exact .inl rfl | exact .inr rfl)) pgs_nil)))) (pss_cons (ps_if (pw_or (pt_not (pt_val (pe_call (ok_is_whole T) (hr.mono (by decide)) (by rfl) T.g_is_whole T.F_is_whole.kp T.b_is_whole .nil pass0 (pa_cons (pv 1) pa_nil)))) (pw_or1 (pt_not (pt_chain op_le op_le pe_int (pv 1) (pe_glob (v := .int 6) (by rfl) T.k_MOST_INPUTS.choose_spec ⟨_, rfl⟩))))).pt (pss_one (ps_ret pe_bl)) pss_nil) (pss_one (ps_ret (pe_and (pe_callB call_isi (by rfl) T.m_isinstance (by decide +kernel) (pa_cons (pv 2) (pa_cons (pe_bltn (v := .ty "tuple") (u := .type "tuple") (by rfl) T.m_tuple (by decide +kernel) rfl) pa_nil))) (pe_one (pe_allX (own := [("product", 3)]) (k := 2) (hr.mono (by decide)) rfl sc_is_cover.nd (by rfl) T.m_all (by decide +kernel) B.TB_is_cover T.cd_is_cover rfl rfl (by decide +kernel) (blkOk_by (own := [("product", 3)]) (N := ["thing", "many", "products", "product"]) (sc := defScope s_is_cover) (by decide +kernel)) (pi_tup (pv 2)) (fun _ _ _ _ _ _ _ hr gd => (pg_name (i := 3) sc_is_cover.nd rfl (by first | exact .inl rfl | exact .inr rfl))) (fun _ _ _ _ _ _ _ hr gd => pts_nil) (fun _ _ _ _ _ _ _ hr gd => (pe_call (ok_is_product T B) (hr.mono (by decide)) (by rfl) T.g_is_product T.F_is_product.kp T.b_is_product .nil pass0 (pa_cons (pv 1) (pa_cons (pv 3) pa_nil)))) (fun _ => rfl))))))))), ?_⟩
    refine ⟨v, rfl, _, _, _, _, _, rfl, .ty _, sh.ty, kit_ty (kitTup d), _, rfl, ite2 (fun e => ?_) (fun e => ?_)⟩
    · have q' := q H Gr.refl
      rw [cov_not (notT e)] at q'
      exact q'
    obtain ⟨ds, rfl⟩ := tup_of (notF e)
    cases sh with
    | @tup a xs _ h t =>
      have lx := t.length
      refine ⟨.ref a, rfl, a, xs, rfl, .inr (SqT.of h), rfl, _, rfl, ?_⟩
      have e2 : decide (V.int (xs.length : Int) = V.int 2) = decide (ds.length = 2) := by
        rw [lx, len_eqI]
        by_cases z : ds.length = 2
        · rw [decide_eq_true z, decide_eq_true (by omega)]
        · rw [decide_eq_false z, decide_eq_false (by omega)]
      rw [e2]
      refine ite2 (fun e1 => ?_) (fun e1 => ?_)
      · have q' := q H Gr.refl
        rw [cov_len (fun z => by rw [z] at e1; cases e1)] at q'
        exact q'
      obtain ⟨d0, d1, rfl⟩ := two_of (ds := ds) (of_decide_eq_true (notF e1))
      cases t with
      | @cons v0 _ _ _ t0 t1 =>
        cases t1 with
        | @cons v1 _ _ _ t1 t2 =>
          cases t2
          refine ⟨.ref a, rfl, a, _, rfl, SqT.of h, rfl, _, _, rfl, _, _, rfl, rfl, ?_⟩
          refine ⟨v0, rfl, v0, d0, rfl, t0, _, rfl, ite2 (fun e3 => ?_) (fun e3 => ?_)⟩
          · have q' := q H Gr.refl
            have : isCovD (.tuple [d0, d1]) = false := cov_int d1 (notT e3)
            rw [this] at q'
            exact q'
          obtain ⟨m, rfl⟩ := whole_int (notF e3)
          cases t0
          have no : (decide (1 ≤ m) && (decide (m ≤ 6) && true)) = false → isCovD (.tuple [.int m, d1]) = false := fun z => by
            show covParts (.int m) d1 = false
            by_cases hb : isTupD d1 = true
            · obtain ⟨ds, rfl⟩ := tup_of hb
              show (decide (1 ≤ m) && (decide (m ≤ 6) && ds.all (isProdD m))) = false
              cases h1 : decide (1 ≤ m)
              · rfl
              · rw [h1] at z
                cases h2 : decide (m ≤ 6)
                · rfl
                · rw [h2] at z; cases z
            · exact cov_tup m hb
          refine ⟨.int m, rfl, 1, _, rfl, rfl, _, rfl, ite2 (fun e4 => ?_) (fun e4 => ?_)⟩
          · refine ⟨_, 6, rfl, rfl, _, rfl, ite2 (fun e5 => ?_) (fun e5 => ?_)⟩
            · have q' := q H Gr.refl
              have e5 : decide (m ≤ 6) = false := by simpa using e5
              rw [no (by rw [e5, Bool.false_and, Bool.and_false])] at q'
              exact q'
            have e5 : decide (m ≤ 6) = true := by simpa using e5
            refine ⟨v1, rfl, _, _, _, _, _, rfl, .ty _, t1.ty, kit_ty (kitTup d1), _, rfl, ite2 (fun e6 => ?_) (fun e6 => ?_)⟩
            · obtain ⟨ds, rfl⟩ := tup_of e6
              cases t1 with
              | @tup b ys _ hb tb =>
                have ly := tb.length
                have val : isCovD (.tuple [.int m, .tuple ds]) = ds.all (isProdD m) := by
                  show (decide (1 ≤ m) && (decide (m ≤ 6) && ds.all (isProdD m))) = _
                  rw [e4, e5]
                  rfl
                rw [val] at q
                have wd : PyData.weightAll ds ≤ 50000 := by
                  have : m.natAbs + 0 ≤ m.natAbs := Nat.le_refl _
                  have w2 := weight_get (ds := [.int m, .tuple ds]) (j := 1) (d := .tuple ds) rfl
                  have w3 : (PyData.tuple [.int m, .tuple ds]).weight = PyData.weightAll [.int m, .tuple ds] := rfl
                  have w4 : (PyData.tuple ds).weight = PyData.weightAll ds := rfl
                  omega
                refine ⟨.ref b, rfl, b, rfl, ⟨_, SqT.of hb⟩, tab, fun H2 tb2 => ?_⟩
                have g2 := Gr.tab tab tb2
                refine gx_tup (K := K) (a := b) (xs := ys) (fun j _ H' => Gr H H' ∧ (ds.take j).all (isProdD m) = true) ⟨g2, rfl⟩ (fun j _ H' _ e => SqT.of (e.1.tup hb)) ?_ ?_
                · rintro j x _ H' hx ⟨g3, p⟩
                  obtain ⟨e0, he0, te0⟩ := tb.get hx
                  refine ⟨rfl, .int m, rfl, x, rfl, m, x, e0, rfl, te0.gr g3, Nat.le_trans (weight_get he0) wd, g3.2 _ tab0, fun H4 g4 => ⟨_, rfl, ite2 (fun z => ⟨g3.trans g4, all_takeD he0 p z⟩) (fun z => ?_)⟩⟩
                  have q' := q H4 (g3.trans g4)
                  rw [all_stopD he0 z] at q'
                  exact q'
                · rintro _ H' ⟨g3, p⟩
                  rw [ly, List.take_length] at p
                  have q' := q H' g3
                  rw [p] at q'
                  exact q'
            · have q' := q H Gr.refl
              have : isCovD (.tuple [.int m, d1]) = false := cov_tup m e6
              rw [this] at q'
              exact q'
          · have q' := q H Gr.refl
            have e4 : decide (1 ≤ m) = false := by simpa using e4
            rw [no (by rw [e4]; rfl)] at q'
            exact ⟨false, rfl, iteT q'⟩

end
end Gk

set_option Elab.async false
set_option linter.all false
set_option maxRecDepth 100000
set_option maxHeartbeats 1000000
set_option pp.maxSteps 1500
set_option pp.deepTerms false
namespace Gk
open PySem PySem.Spec PyProof.Rows L2
section
variable {P : Program} {w : World} {K : PySem.W.Frag} {mg : Str → Option Value} {base : Heap}
/-! ### what is allowed, and why not: the program's own -/
def tTru (K : PySem.W.Frag) (ta : TE) : TT := fun σ H Q => ta σ H fun x H' => ∃ k, TruV K x H' k ∧ Q k H'
theorem pt_tru {X : Cx} {a : Expr} {ta : TE} (ha : PE X a ta) (he : ∀ whole, isTrue a X.env whole = (do let v ← whole; standAt a.pos; holding [v] (truthy v))) : PT X a (tTru X.K ta) := pt_truth ha he
def oneB (bs : List Bool) (r : List Int) : Bool := decide (gateM bs r = 1)
def atM (bs : List Bool) (p : List Nat) (a b : List Int) : Bool := (oneB bs a && oneB bs b) || (oneB bs a && hrow p a) || (oneB bs b && hrow p b) || !meetM p (cubeM a b)
abbrev Why := Option (List Int ⊕ Nat)
def whyM (m : Nat) (bs : List Bool) (cs : List Ch) (p : List Nat) : Why :=
  match ((rowsI m).zip bs).find? (fun z => !z.2 && hrow p z.1) with
  | some z => some (.inl z.1)
  | none => (cs.findIdx? fun c => !atM bs p c.1 c.2).map .inr
def WhyV (H : Hp) : Why → V → Prop
  | none, v => v = .non
  | some (.inl r), v => Tk H v (.tuple [.str (Str.ofString "row"), rowD r])
  | some (.inr k), v => Tk H v (.tuple [.str (Str.ofString "change"), .int k])
theorem s0_one : Str.ofString "0" = one 48 := by decide +kernel
theorem s1_one : Str.ofString "1" = one 49 := by decide +kernel
def bitS (b : Bool) : Nat := if b = true then 49 else 48
theorem tab_S (bs : List Bool) : tabOf bs = SX.S (bs.map bitS) := rfl
theorem ch_rows {m : Nat} {a b : List Int} (ok : ChOk m a b) : ∀ r ∈ [a, b], r.length = m ∧ Row01' r := fun r hr => by
  simp only [List.mem_cons, List.not_mem_nil, or_false] at hr
  rcases hr with rfl | rfl
  · exact ⟨ok.la, ok.oa⟩
  · exact ⟨ok.lb, ok.ob⟩
theorem ones_two (bs : List Bool) (a b : List Int) : decide (([a, b].filter (oneB bs)).length = 2) = (oneB bs a && oneB bs b) := by
  cases h1 : oneB bs a <;> cases h2 : oneB bs b <;> simp [List.filter, h1, h2]
theorem ones_any (bs : List Bool) (p : List Nat) (a b : List Int) : ([a, b].filter (oneB bs)).any (fun r => hrow p r) = ((oneB bs a && hrow p a) || (oneB bs b && hrow p b)) := by
  cases h1 : oneB bs a <;> cases h2 : oneB bs b <;> simp [List.filter, h1, h2]
theorem Tk.row_at {H : Hp} {xs : List V} {rs : List (List Int)} (t : TkAll H xs (rs.map rowD)) {j : Nat} {v : V} (h : xs[j]? = some v) : ∃ p r, v = .ref p ∧ rs[j]? = some r ∧ H p = some (.tup (r.map V.int)) := by
  obtain ⟨r, hr, tr⟩ := t.at h
  obtain ⟨p, rfl, hp⟩ := tr.row_inv
  exact ⟨p, r, rfl, hr, hp⟩
theorem chs_mem {α : Type} : ∀ (n : Nat) (ls : List (List α)), ls.length = n → ∀ q ∈ chs ls, ∀ c ∈ q, ∃ l ∈ ls, c ∈ l := by
  intro n
  induction n with
  | zero =>
    intro ls h q hq c hc
    cases List.eq_nil_of_length_eq_zero h
    rw [List.mem_singleton.mp hq] at hc
    cases hc
  | succ n ih =>
    intro ls h q hq c hc
    have hne : ls ≠ [] := fun z => by rw [z] at h; cases h
    obtain ⟨r, x, rfl⟩ : ∃ r x, ls = r ++ [x] := ⟨ls.dropLast, ls.getLast hne, (List.dropLast_concat_getLast hne).symm⟩
    rw [chs_snoc] at hq
    obtain ⟨c0, h0, hq⟩ := List.mem_flatMap.mp hq
    obtain ⟨o, ho, rfl⟩ := List.mem_map.mp hq
    rcases List.mem_append.mp hc with z | z
    · obtain ⟨l, hl, hc⟩ := ih r (by rw [List.length_append] at h; simpa using h) c0 h0 c z
      exact ⟨l, List.mem_append_left _ hl, hc⟩
    · rw [List.mem_singleton.mp z]
      exact ⟨x, by simp, ho⟩

theorem find_stop {α : Type} {l : List α} {f : α → Bool} {i : Nat} {a : α} (h : l.take (i + 1) = l.take i ++ [a]) (n : (l.take i).find? f = none) (e : f a = true) : l.find? f = some a := by
  rw [← List.take_append_drop (i + 1) l, h, List.find?_append, List.find?_append, n]
  simp [List.find?, e]
theorem find_more {α : Type} {l : List α} {f : α → Bool} {i : Nat} {a : α} (h : l.take (i + 1) = l.take i ++ [a]) (n : (l.take i).find? f = none) (e : f a = false) : (l.take (i + 1)).find? f = none := by
  rw [h, List.find?_append, n]
  simp [List.find?, e]
theorem rowsI_len {m : Nat} (h : m ≤ 6) : (rowsI m).length = 2 ^ m := by
  have := List.all_eq_true.mp rows_ends m (List.mem_range.mpr (by omega))
  rw [Bool.and_eq_true] at this
  exact of_decide_eq_true this.1
theorem rowsI_ok {m : Nat} (hm : m ≤ 6) : ∀ r ∈ rowsI m, r.length = m ∧ Row01' r := fun r hr => by
  obtain ⟨i, hi, rfl⟩ := List.getElem_of_mem hr
  refine ⟨rows_len (List.getElem?_eq_getElem hi), fun x hx => ?_⟩
  obtain ⟨l, hl, hx'⟩ := chs_mem _ _ rfl _ hr x hx
  rw [(List.mem_replicate.mp hl).2] at hx'
  simpa using hx'
def hit (p : List Nat) (z : List Int × Bool) : Bool := !z.2 && hrow p z.1
theorem bit48 (b : Bool) : decide (V.str (one (bitS b)) = V.str (Str.ofString "0")) = !b := by
  rw [s0_one, str_dec, one_inj]
  cases b <;> rfl
end
end Gk

set_option Elab.async false
set_option linter.all false
set_option maxRecDepth 100000
set_option maxHeartbeats 1000000
set_option pp.maxSteps 1500
set_option pp.deepTerms false
namespace Gk
open PySem PySem.Spec PyProof.Rows L2
section
variable {P : Program} {w : World} {K : PySem.W.Frag} {mg : Str → Option Value} {base : Heap}
/-! ### all choices, in order -/
theorem lt_app {x y : List Nat} : ∀ {a b : List Nat}, a.length = b.length → a < b → a ++ x < b ++ y
  | [], [], _, h => absurd h (List.lt_irrefl _)
  | [], _ :: _, h, _ => by cases h
  | _ :: _, [], h, _ => by cases h
  | p :: a, q :: b, h, z => by
    rw [List.cons_append, List.cons_append, List.cons_lt_cons_iff]
    rcases List.cons_lt_cons_iff.mp z with z1 | ⟨z1, z2⟩
    · exact .inl z1
    · exact .inr ⟨z1, lt_app (Nat.succ.inj h) z2⟩
theorem lt_snoc {o o' : Nat} (h : o < o') : ∀ a : List Nat, a ++ [o] < a ++ [o']
  | [] => List.cons_lt_cons_iff.mpr (.inl h)
  | p :: a => by
    rw [List.cons_append, List.cons_append, List.cons_lt_cons_iff]
    exact .inr ⟨rfl, lt_snoc h a⟩
theorem stepC_sorted {cs : List (List Nat)} {os : List Nat} {n : Nat} (hl : ∀ c ∈ cs, c.length = n) (h1 : cs.Pairwise (· < ·)) (h2 : os.Pairwise (· < ·)) : (stepC cs os).Pairwise (· < ·) := by
  unfold stepC
  rw [List.pairwise_flatMap]
  refine ⟨fun c _ => List.pairwise_map.mpr (h2.imp fun h => lt_snoc h c), ?_⟩
  refine List.Pairwise.imp_of_mem (fun {a b} ha hb hab => ?_) h1
  intro x hx y hy
  obtain ⟨o, _, rfl⟩ := List.mem_map.mp hx
  obtain ⟨o', _, rfl⟩ := List.mem_map.mp hy
  exact lt_app (by rw [hl a ha, hl b hb]) hab
theorem chs_sorted : ∀ (n : Nat) (ls : List (List Nat)), ls.length = n → (∀ l ∈ ls, l.Pairwise (· < ·)) → (chs ls).Pairwise (· < ·) := by
  intro n
  induction n with
  | zero =>
    intro ls h _
    cases List.eq_nil_of_length_eq_zero h
    exact List.pairwise_singleton _ _
  | succ n ih =>
    intro ls h hs
    have hne : ls ≠ [] := fun z => by rw [z] at h; cases h
    obtain ⟨r, x, rfl⟩ : ∃ r x, ls = r ++ [x] := ⟨ls.dropLast, ls.getLast hne, (List.dropLast_concat_getLast hne).symm⟩
    rw [chs_snoc]
    exact stepC_sorted (n := r.length) (fun c hc => chs_width r c hc) (ih r (by rw [List.length_append] at h; simpa using h) fun l hl => hs l (List.mem_append_left _ hl)) (hs x (by simp))

/-! ### all products -/
def prodL : Nat → List (List Nat)
  | 0 => [[]]
  | k + 1 => ((prodL k).map (· ++ [45]) ++ (prodL k).map (· ++ [48])) ++ (prodL k).map (· ++ [49])
def prodsU (m : Nat) : List (List Nat) := chs (List.replicate m [45, 48, 49])
theorem prodL_len : ∀ k, (prodL k).length = 3 ^ k
  | 0 => rfl
  | k + 1 => by
    unfold prodL
    rw [List.length_append, List.length_append, List.length_map, List.length_map, List.length_map, prodL_len k, Nat.pow_succ]
    omega
theorem prodL_wid : ∀ k, ∀ p ∈ prodL k, p.length = k
  | 0, p, h => by rw [List.mem_singleton.mp h]; rfl
  | k + 1, p, h => by
    unfold prodL at h
    have ih := prodL_wid k
    rcases List.mem_append.mp h with h | h
    · rcases List.mem_append.mp h with h | h
      · obtain ⟨q, hq, rfl⟩ := List.mem_map.mp h
        rw [List.length_append, ih q hq]; rfl
      · obtain ⟨q, hq, rfl⟩ := List.mem_map.mp h
        rw [List.length_append, ih q hq]; rfl
    · obtain ⟨q, hq, rfl⟩ := List.mem_map.mp h
      rw [List.length_append, ih q hq]; rfl
theorem perm_prods : ((List.range 5).all fun m => (prodL m).isPerm (prodsU m)) = true := by decide +kernel
theorem prodsU_sorted (m : Nat) : ((prodsU m).map SX.S).Pairwise (fun x y => SrtS.ltC y x = false) := by
  rw [List.pairwise_map]
  refine (chs_sorted _ (List.replicate m [45, 48, 49]) rfl fun l hl => ?_).imp fun {a b} hab => ?_
  · rw [(List.mem_replicate.mp hl).2]
    decide
  · refine decide_eq_false ?_
    show ¬ (b.toArray.toList < a.toArray.toList)
    exact List.lt_asymm hab
theorem prodsU_ok {m : Nat} : ∀ p ∈ prodsU m, ProdOk m p := fun p hp => by
  have h := chs_width _ _ hp
  rw [List.length_replicate] at h
  refine ⟨h, fun c hc => ?_⟩
  obtain ⟨l, hl, hc'⟩ := chs_mem _ _ rfl _ hp c hc
  rw [(List.mem_replicate.mp hl).2] at hc'
  simpa [SgOk] using hc'
theorem pVs_S (ps : List (List Nat)) : pVs ps = (ps.map SX.S).map V.str := by
  unfold pVs
  rw [List.map_map]
  rfl
theorem sg_add (p : List Nat) {x : Str} {c : Nat} (h : x = one c) (l : p.length ≤ 64) : (SX.S p).length + x.length ≤ sizeLine ∧ SX.S p ++ x = SX.S (p ++ [c]) := by
  subst h
  refine ⟨?_, S_app p [c]⟩
  rw [SX.S_len]
  exact Nat.le_trans (show p.length + 1 ≤ 65 by omega) (by decide)
def sp_all_products (K : PySem.W.Frag) : Sp := fun vs H Q _ => ∃ m : Nat, vs = [.int m] ∧ 1 ≤ m ∧ m ≤ 4 ∧ ∀ r H', H r = none → Same H H' → H' r = some (.lst (pVs (prodsU m))) → Q (.ref r) H'
theorem ok_all_products (T : Tx K mg) : FnOk P w K mg base CX0 1 T.f_all_products T.fd_all_products ["_law_many"] (sp_all_products K) := by
  refine T.F_all_products.ok sc_all_products (fun vs H Q E h => ?_) (fun cdv A outer s H vs Q E hr h => ?_)
  · obtain ⟨m, rfl, _⟩ := h
    rfl
  · obtain ⟨m, rfl, m1, m4, q⟩ := h
    refine ⟨_, (pss_cons (ps_set (i := 1) sc_all_products.nd rfl (by first | exact .inl rfl | exact .inr rfl) (pe_lst (pa_cons pe_str pa_nil))) (pss_cons (ps_for PassesOwn.never rfl (pi_range1 (by rfl) T.m_range (pa_cons (pv 0) pa_nil)) (pg_name (i := 2) sc_all_products.nd rfl (by first | exact .inl rfl | exact .inr rfl)) (pss_one (ps_set (i := 1) sc_all_products.nd rfl (by first | exact .inl rfl | exact .inr rfl) (pe_op op_cat (pe_op op_cat (pe_lc (own := [("_law_one", 3)]) (by rfl) sc_all_products.nd (pi_list (pv 1)) (blkOk_by (own := [("_law_one", 3)]) (N := ["_law_many", "_law_found", "_law_place", "_law_one"]) (sc := defScope s_all_products) (by decide +kernel)) (fun _ _ _ _ _ => (pg_name (i := 3) sc_all_products.nd rfl (by first | exact .inl rfl | exact .inr rfl))) (fun _ _ _ _ _ => pts_nil) (fun _ _ _ _ _ => (pe_op op_add_str (pv 3) pe_str))) (pe_lc (own := [("_law_one", 3)]) (by rfl) sc_all_products.nd (pi_list (pv 1)) (blkOk_by (own := [("_law_one", 3)]) (N := ["_law_many", "_law_found", "_law_place", "_law_one"]) (sc := defScope s_all_products) (by decide +kernel)) (fun _ _ _ _ _ => (pg_name (i := 3) sc_all_products.nd rfl (by first | exact .inl rfl | exact .inr rfl))) (fun _ _ _ _ _ => pts_nil) (fun _ _ _ _ _ => (pe_op op_add_str (pv 3) pe_str)))) (pe_lc (own := [("_law_one", 3)]) (by rfl) sc_all_products.nd (pi_list (pv 1)) (blkOk_by (own := [("_law_one", 3)]) (N := ["_law_many", "_law_found", "_law_place", "_law_one"]) (sc := defScope s_all_products) (by decide +kernel)) (fun _ _ _ _ _ => (pg_name (i := 3) sc_all_products.nd rfl (by first | exact .inl rfl | exact .inr rfl))) (fun _ _ _ _ _ => pts_nil) (fun _ _ _ _ _ => (pe_op op_add_str (pv 3) pe_str))))))) (pss_one (ps_ret (pe_callB cr_sortedTx (by rfl) T.m_sorted (by decide +kernel) (pa_cons (pv 1) pa_nil)))))), ?_⟩
    refine ⟨sl1, fun c0 nc0 => ?_⟩
    refine ⟨.int m, rfl, (m : Int), rfl, by omega, by omega, ?_⟩
    refine for_range (lo := 0) (n := (m : Int).toNat) (fun i σ H' => ∃ ca y2 y3, σ = [some (.int m), some (.ref ca), y2, y3] ∧ Same H H' ∧ H' ca = some (.lst (pVs (prodL i))))
      ⟨c0, _, _, rfl, same_upd nc0, by rw [show Str.ofString "" = SX.S [] from by decide +kernel]; exact upd_same⟩ ?_ ?_
    · rintro i σ H1 hi ⟨ca, y2, y3, rfl, s1, hca⟩
      have hi' : i < m := by simpa using hi
      have big : (prodL i).length ≤ 27 := by
        rw [prodL_len]
        exact Nat.pow_le_pow_right (by decide) (show i ≤ 3 by omega)
      have wid := prodL_wid i
      revert hca big wid
      generalize eps : prodL i = ps
      intro hca big wid
      have lcs : (pVs ps).length = ps.length := by unfold pVs; rw [List.length_map]
      have snoc : ∀ (c : Nat) (k : Nat) (p : List Nat), ps[k]? = some p → pVs ((ps.take k).map (· ++ [c])) ++ [V.str (SX.S (p ++ [c]))] = pVs ((ps.take (k + 1)).map (· ++ [c])) := fun c k p h => by
        rw [List.take_add_one, h]
        unfold pVs
        simp
      have small : ∀ (c k : Nat), (pVs ((ps.take k).map (· ++ [c]))).length < sizeLine := fun c k => by
        unfold pVs
        rw [List.length_map, List.length_map, List.length_take]
        exact Nat.lt_of_lt_of_le (show _ < 64 by omega) (by decide)
      refine ⟨.ref ca, rfl, ca, rfl, ⟨_, SqL.of hca⟩, fun D nD => ?_⟩
      refine lc_list (K := K) (a := ca) (xs := pVs ps) (fun k H' => Same H1 (hd1 D H') ∧ H' D = some (.lst (pVs ((ps.take k).map (· ++ [45]))))) ⟨hd1_of (same_upd nD) nD, upd_same⟩ (fun k H' _ z => SqL.of (hd1_le _ _ (z.1 _ _ hca))) ?_ ?_
      · rintro k x H2 hx ⟨s2, hD⟩
        obtain ⟨p, hp, rfl⟩ := pV_at hx
        obtain ⟨f1, f2⟩ := sg_add p dash_S (by have := wid p (List.mem_of_getElem? hp); omega)
        refine ⟨rfl, .str (SX.S p), rfl, _, _, rfl, rfl, f1, ?_⟩
        rw [f2]
        exact ⟨_, hD, small 45 k, s2.trans hd1_upd, by rw [upd_same, snoc 45 k p hp]⟩
      rintro H2 ⟨s2, hD⟩
      rw [lcs, List.take_length] at hD
      have s12 : Same H1 H2 := fun b o e => hd1_le _ _ (s2 _ _ e)
      refine ⟨.ref ca, rfl, ca, rfl, ⟨_, SqL.of (s12 _ _ hca)⟩, fun D' nD' => ?_⟩
      refine lc_list (K := K) (a := ca) (xs := pVs ps) (fun k H' => Same H2 (hd1 D' H') ∧ H' D' = some (.lst (pVs ((ps.take k).map (· ++ [48]))))) ⟨hd1_of (same_upd nD') nD', upd_same⟩ (fun k H' _ z => SqL.of (hd1_le _ _ (z.1 _ _ (s12 _ _ hca)))) ?_ ?_
      · rintro k x H3 hx ⟨s3, hD3⟩
        obtain ⟨p, hp, rfl⟩ := pV_at hx
        obtain ⟨f1, f2⟩ := sg_add p s0_one (by have := wid p (List.mem_of_getElem? hp); omega)
        refine ⟨rfl, .str (SX.S p), rfl, _, _, rfl, rfl, f1, ?_⟩
        rw [f2]
        exact ⟨_, hD3, small 48 k, s3.trans hd1_upd, by rw [upd_same, snoc 48 k p hp]⟩
      rintro H3 ⟨s3, hD3⟩
      rw [lcs, List.take_length] at hD3
      have s23 : Same H2 H3 := fun b o e => hd1_le _ _ (s3 _ _ e)
      have len3 : ∀ c : Nat, (pVs (ps.map (· ++ [c]))).length = ps.length := fun c => by unfold pVs; rw [List.length_map, List.length_map]
      refine ⟨D, D', _, _, rfl, rfl, s23 _ _ hD, hD3, by rw [len3, len3]; exact Nat.le_trans (show _ ≤ 128 by omega) (by decide), fun F nF => ?_⟩
      have s4 := same_upd (o := (HO.lst (pVs (ps.map (· ++ [45])) ++ pVs (ps.map (· ++ [48]))))) nF
      have h4 : upd H3 F (HO.lst (pVs (ps.map (· ++ [45])) ++ pVs (ps.map (· ++ [48])))) F = some (HO.lst (pVs (ps.map (· ++ [45])) ++ pVs (ps.map (· ++ [48])))) := upd_same
      generalize upd H3 F (HO.lst (pVs (ps.map (· ++ [45])) ++ pVs (ps.map (· ++ [48])))) = H4 at s4 h4 ⊢
      have s14 := (s12.trans s23).trans s4
      refine ⟨.ref ca, rfl, ca, rfl, ⟨_, SqL.of (s14 _ _ hca)⟩, fun D2 nD2 => ?_⟩
      refine lc_list (K := K) (a := ca) (xs := pVs ps) (fun k H' => Same H4 (hd1 D2 H') ∧ H' D2 = some (.lst (pVs ((ps.take k).map (· ++ [49]))))) ⟨hd1_of (same_upd nD2) nD2, upd_same⟩ (fun k H' _ z => SqL.of (hd1_le _ _ (z.1 _ _ (s14 _ _ hca)))) ?_ ?_
      · rintro k x H5 hx ⟨s5, hD5⟩
        obtain ⟨p, hp, rfl⟩ := pV_at hx
        obtain ⟨f1, f2⟩ := sg_add p s1_one (by have := wid p (List.mem_of_getElem? hp); omega)
        refine ⟨rfl, .str (SX.S p), rfl, _, _, rfl, rfl, f1, ?_⟩
        rw [f2]
        exact ⟨_, hD5, small 49 k, s5.trans hd1_upd, by rw [upd_same, snoc 49 k p hp]⟩
      rintro H5 ⟨s5, hD5⟩
      rw [lcs, List.take_length] at hD5
      have s45 : Same H4 H5 := fun b o e => hd1_le _ _ (s5 _ _ e)
      refine ⟨F, D2, _, _, rfl, rfl, s45 _ _ h4, hD5, by rw [List.length_append, len3, len3, len3]; exact Nat.le_trans (show _ ≤ 128 by omega) (by decide), fun G nG => ?_⟩
      refine ⟨G, _, _, rfl, ((s1.trans s14).trans s45).trans (same_upd nG), ?_⟩
      rw [upd_same]
      unfold prodL
      rw [eps]
      unfold pVs
      rw [List.map_append, List.map_append]
    · rintro σ H1 ⟨ca, y2, y3, rfl, s1, hca⟩
      rw [show (m : Int).toNat = m by omega] at hca
      refine ⟨.ref ca, rfl, ca, (prodL m).map SX.S, rfl, SqL.of (by rw [hca, pVs_S]), fun ys p pm st np => ?_⟩
      have hp := List.isPerm_iff.mp (List.all_eq_true.mp perm_prods m (List.mem_range.mpr (by omega)))
      have e := sorted_uniq (pm.trans (hp.map SX.S)) st (prodsU_sorted m)
      subst e
      have np0 : H p = none := by
        cases z : H p with
        | none => rfl
        | some o => rw [s1 _ _ z] at np; cases np
      exact q p _ np0 (s1.trans (same_upd np)) (by rw [upd_same, pVs_S])

end
end Gk

set_option Elab.async false
set_option linter.all false
set_option maxRecDepth 100000
set_option maxHeartbeats 1000000
set_option pp.maxSteps 1500
set_option pp.deepTerms false
namespace Gk
open PySem PySem.Spec PyProof.Rows L2
section
variable {P : Program} {w : World} {K : PySem.W.Frag} {mg : Str → Option Value} {base : Heap}
/-! ### l != [] of any list -/
namespace NeL
section
open PySem.W PySem.Calls HT
variable {X : Cx}
def rNeN (K : PySem.W.Frag) : R2 := fun x y H Q => ∃ a b xs, x = .ref a ∧ y = .ref b ∧ SqL K H a xs ∧ SqL K H b [] ∧ Q (.bl (!xs.isEmpty)) H
theorem op_neN (hu : X.A.units + 64 < cLine) : OpR X (compareOp .NotEq) (rNeN X.K) := by
  intro pins s σ H x y v u Q I rx ry h
  obtain ⟨a, b, xs, rfl, rfl, ha, hb, q⟩ := h
  cases rx
  cases ry
  obtain ⟨us, r1, t1, _⟩ := I.list ha
  obtain ⟨ws, r2, t2, _⟩ := I.list hb
  cases r2
  cases r1 with
  | nil => exact SeqAt.RcNeAt.lists (e := fun _ => true) t1.isList t2.isList rfl (by omega) (fun j h1 _ => absurd h1 (Nat.not_lt_zero _)) _ _ _ _ ⟨.bl false, H, I, rfl, q⟩
  | cons _ _ => exact SeqAt.RcNeAt.lists_lengths t1.isList t2.isList (by simp) (by omega) _ _ _ _ ⟨.bl true, H, I, rfl, q⟩
def rEqN (K : PySem.W.Frag) : R2 := fun x y H Q => ∃ a b xs, x = .ref a ∧ y = .ref b ∧ SqL K H a xs ∧ SqL K H b [] ∧ Q (.bl xs.isEmpty) H
theorem op_eqN (hu : X.A.units + 64 < cLine) : OpR X (compareOp .Eq) (rEqN X.K) := by
  intro pins s σ H x y v u Q I rx ry h
  obtain ⟨a, b, xs, rfl, rfl, ha, hb, q⟩ := h
  cases rx
  cases ry
  obtain ⟨us, r1, t1, _⟩ := I.list ha
  obtain ⟨ws, r2, t2, _⟩ := I.list hb
  cases r2
  cases r1 with
  | nil => exact SeqAt.RcAt.lists (e := fun _ => true) t1.isList t2.isList rfl (by omega) (fun j h1 _ => absurd h1 (Nat.not_lt_zero _)) _ _ _ _ ⟨.bl true, H, I, rfl, q⟩
  | cons _ _ => exact SeqAt.RcAt.lists_lengths t1.isList t2.isList (by simp) (by omega) _ _ _ _ ⟨.bl false, H, I, rfl, q⟩
end
end NeL

/-! ### what is allowed: the law's own -/
theorem wish_row {H : Hp} {p : Addr} {r : List Int} (h : H p = some (.tup (r.map V.int))) : Tk H (.ref p) (rowD r) := .tup h (TkAll.ints r)
def sp_fits (K : PySem.W.Frag) : Sp := fun vs H Q _ => ∃ (wa c : Addr) (m : Nat) (bs : List Bool) (x : V) (p : List Nat) (a b : List Int), vs = [.ref wa, .str (SX.S p), .ref c] ∧ H wa = some (.tup [.int m, .str (tabOf bs), x]) ∧ bs.length = 2 ^ m ∧ ProdOk m p ∧ ChAt H c a b ∧ ChOk m a b ∧ ∀ H', Same H H' → Q (.bl (atM bs p a b)) H'
theorem ok_fits (T : Tx K mg) : FnOk P w K mg base CX0 2 T.f_fits T.fd_fits ["_law_wish_here", "_law_product_here", "_law_change_here"] (sp_fits K) := by
  refine T.F_fits.ok sc_fits (fun vs H Q E h => ?_) (fun cdv A outer s H vs Q E hr h => ?_)
  · obtain ⟨wa, c, m, bs, x, p, a, b, rfl, _⟩ := h
    rfl
  · obtain ⟨wa, c, m, bs, x, p, a, b, rfl, hw, lb, okp, ⟨ra, rb, hc, ha, hb⟩, ok, q⟩ := h
    refine ⟨_, (pss_cons (ps_if (pt_not (pt_val (pe_call (ok_meets T) (hr.mono (by decide)) (by rfl) T.g_meets T.F_meets.kp T.b_meets .nil pass0 (pa_cons (pv 1) (pa_cons (pe_call (ok_cube T) (hr.mono (by decide)) (by rfl) T.g_cube T.F_cube.kp T.b_cube .nil pass0 (pa_cons (pe_ix ix_tup (pv 2) pe_int (fun _ _ => rfl)) (pa_cons (pe_ix ix_tup (pv 2) pe_int (fun _ _ => rfl)) pa_nil))) pa_nil))))) (pss_one (ps_ret pe_bl)) pss_nil) (pss_cons (ps_setLc (i := 3) (own := [("_law_row", 4)]) (by rfl) sc_fits.nd rfl rfl (sw_true rfl rfl rfl (by decide +kernel)) (pi_tup (pv 2)) (blkOk_by (own := [("_law_row", 4)]) (N := ["_law_wish_here", "_law_product_here", "_law_change_here", "_law_bright", "_law_row"]) (sc := defScope s_fits) (by decide +kernel)) (fun _ _ _ _ _ => (pg_name (i := 4) sc_fits.nd rfl (by first | exact .inl rfl | exact .inr rfl))) (fun _ _ _ _ _ => (pts_one (pt_cmpR op_eq (pe_call (ok_worth T) (hr.mono (by decide)) (by rfl) T.g_worth T.F_worth.kp T.b_worth .nil pass0 (pa_cons (pv 0) (pa_cons (pv 4) pa_nil))) pe_int (nomark _)))) (fun _ _ _ _ _ => (pv 4))) (pss_cons (ps_if (pt_cmpR op_eq (pe_callB call_len_seq (by rfl) T.m_len PySem.boot_len (pa_cons (pv 3) pa_nil)) pe_int (nomark _)) (pss_one (ps_ret pe_bl)) pss_nil) (pss_one (ps_ret (pe_and (pe_cmpR (NeL.op_neN hr.units) (pv 3) (pe_lst pa_nil) (nomark _)) (pe_one (pe_call (ok_holds T) (hr.mono (by decide)) (by rfl) T.g_holds T.F_holds.kp T.b_holds .nil pass0 (pa_cons (pv 1) (pa_cons (pe_ix ix_list (pv 3) pe_int (fun _ _ => rfl)) pa_nil)))))))))), ?_⟩
    have m6 := ok.m6
    refine ⟨.str (SX.S p), rfl, .ref c, rfl, c, _, _, .ref ra, rfl, rfl, SqT.of hc, rfl, .ref c, rfl, c, _, _, .ref rb, rfl, rfl, SqT.of hc, rfl, m, ra, rb, a, b, rfl, ha, hb, ok.oa, ok.la, ok.lb, m6, fun H1 s1 => ?_⟩
    refine ⟨m, p, cubeM a b, rfl, okp.1, cube_len ok, m6, fun H2 s2 => ⟨_, rfl, ite2 (fun e => ?_) (fun e => ?_)⟩⟩
    · have z := q H2 (s1.trans s2)
      unfold atM at z
      rw [show (!meetM p (cubeM a b)) = true from e, Bool.or_true] at z
      exact z
    have em : (!meetM p (cubeM a b)) = false := Bool.eq_false_iff.mpr e
    have s12 := s1.trans s2
    have hc2 := s12 _ _ hc
    refine ⟨.ref c, rfl, c, rfl, ⟨_, SqT.of hc2⟩, fun L nL => ?_⟩
    have tx : TkAll H2 [V.ref ra, .ref rb] (([a, b]).map rowD) := .cons (wish_row (s12 _ _ ha)) (.cons (wish_row (s12 _ _ hb)) .nil)
    refine lc_tup (K := K) (a := c) (xs := [V.ref ra, .ref rb]) (fun j H' => Same H2 (hd1 L H') ∧ ∃ ys, H' L = some (.lst ys) ∧ TkAll (hd1 L H') ys ((([a, b].take j).filter (oneB bs)).map rowD)) ⟨hd1_of (same_upd nL) nL, [], upd_same, .nil⟩ (fun j H' _ z => SqT.of (hd1_le _ _ (z.1 _ _ hc2))) ?_ ?_
    · rintro j v H3 hv ⟨s3, ys, hL, ty⟩
      obtain ⟨r, hr', tr⟩ := tx.at hv
      obtain ⟨t, rfl, ht⟩ := tr.row_inv
      obtain ⟨lr, or⟩ := ch_rows ok r (List.mem_of_getElem? hr')
      refine ⟨rfl, .ref wa, rfl, .ref t, rfl, wa, t, m, bs, x, r, rfl, hd1_le _ _ (s3 _ _ (s12 _ _ hw)), hd1_le _ _ (s3 _ _ ht), or, lr, m6, lb, rfl, _, rfl, ?_⟩
      have et : ([a, b].take (j + 1)).filter (oneB bs) = ([a, b].take j).filter (oneB bs) ++ (if oneB bs r = true then [r] else []) := by
        rw [List.take_add_one, hr', List.filter_append]
        congr 1
        show List.filter _ [r] = _
        rw [List.filter_cons, List.filter_nil]
      have ly := ty.length
      rw [List.length_map] at ly
      have l2 := List.length_filter_le (oneB bs) ([a, b].take j)
      have l3 : ([a, b].take j).length ≤ 2 := by rw [List.length_take]; exact Nat.min_le_right _ _
      have eo : decide (V.int (gateM bs r) = V.int 1) = oneB bs r := int_dec _ _
      refine ite2 (fun e => ?_) (fun e => ?_)
      · have e1 := eo.symm.trans e
        refine ⟨.ref t, rfl, ys, hL, Nat.lt_of_lt_of_le (show _ < 128 by omega) (by decide), s3.trans hd1_upd, ys ++ [V.ref t], upd_same, ?_⟩
        rw [et, if_pos e1, List.map_append]
        exact (ty.same hd1_upd).append (.cons ((tr.same s3).same hd1_upd) .nil)
      · have e1 : ¬ oneB bs r = true := fun z => e (eo.trans z)
        refine ⟨s3, ys, hL, ?_⟩
        rw [et, if_neg e1, List.append_nil]
        exact ty
    rintro H3 ⟨s3, ys, hL, ty⟩
    have s13 : Same H H3 := s12.trans fun b o e => hd1_le _ _ (s3 _ _ e)
    replace ty : TkAll H3 ys (([a, b].filter (oneB bs)).map rowD) := ty.same hd1_le
    have lx := ty.length
    rw [List.length_map] at lx
    have okf : ∀ r ∈ [a, b].filter (oneB bs), r.length = m ∧ Row01' r := fun r hr => ch_rows ok r (List.mem_filter.mp hr).1
    have e2 := ones_two bs a b
    have ea := ones_any bs p a b
    have el : ([a, b].filter (oneB bs)).length ≤ 2 := List.length_filter_le _ _
    revert lx ty okf e2 ea el
    generalize [a, b].filter (oneB bs) = fs
    intro ty lx okf e2 ea el
    refine ⟨.ref L, rfl, L, ys, rfl, .inl (SqL.of hL), rfl, _, rfl, ite2 (fun e => ?_) (fun e => ?_)⟩
    · have e' : (oneB bs a && oneB bs b) = true := by
        rw [← e2, ← lx]
        have z : (ys.length : Int) = 2 := V.int.inj (of_decide_eq_true e)
        exact decide_eq_true (by omega)
      have z := q H3 s13
      unfold atM at z
      rw [e', Bool.true_or, Bool.true_or, Bool.true_or] at z
      exact z
    have e' : (oneB bs a && oneB bs b) = false := by
      rw [← e2, ← lx]
      refine decide_eq_false fun z => e (decide_eq_true ?_)
      show V.int (ys.length : Int) = V.int 2
      rw [z]
      rfl
    have ez : atM bs p a b = fs.any (fun r => hrow p r) := by
      unfold atM
      rw [e', Bool.false_or, em, Bool.or_false, ea]
    have n2 : fs.length ≠ 2 := fun z => by rw [decide_eq_true z] at e2; rw [e'] at e2; cases e2
    refine ⟨.ref L, rfl, Nat.zero_le _, fun e0 ne0 => ?_⟩
    have s4 := same_upd (o := HO.lst []) ne0
    refine ⟨L, e0, ys, rfl, rfl, SqL.of (s4 _ _ hL), SqL.of upd_same, ?_⟩
    cases ys with
    | nil =>
      refine ⟨_, rfl, iteF ?_⟩
      have z := q _ (s13.trans s4)
      rw [ez] at z
      cases fs with
      | nil => exact z
      | cons _ _ => cases lx
    | cons v rest =>
      refine ⟨_, rfl, iteT ?_⟩
      match fs, lx, n2, el with
      | [r], lx, _, _ =>
        obtain ⟨t, r', rfl, hr', ht⟩ := Tk.row_at (ty.same s4) (j := 0) (v := v) rfl
        cases Option.some.inj hr'
        obtain ⟨lr, or⟩ := okf r (List.mem_singleton.mpr rfl)
        have hL4 := s4 _ _ hL
        refine ⟨.str (SX.S p), rfl, .ref L, rfl, L, _, 0, .ref t, rfl, rfl, SqL.of hL4, atI_nat (j := 0) rfl, m, p, t, r, rfl, okp.1, ht, or, lr, m6, fun H5 s5 => ?_⟩
        have z := q H5 ((s13.trans s4).trans s5)
        rw [ez] at z
        simpa using z
      | _ :: _ :: _, _, n2, el =>
        exfalso
        simp only [List.length_cons] at n2 el
        omega
theorem rows_UI : ((List.range 7).all fun m => decide (rowsU m = rowsI m)) = true := by decide +kernel
theorem rowsUI {m : Nat} (h : m ≤ 6) : rowsU m = rowsI m := of_decide_eq_true (List.all_eq_true.mp rows_UI m (List.mem_range.mpr (by omega)))
theorem idx_none {α : Type} {l : List α} {f : α → Bool} : (l.findIdx? fun c => !f c).isNone = l.all f := by
  cases h : l.findIdx? fun c => !f c with
  | none =>
    have := List.findIdx?_eq_none_iff.mp h
    refine (List.all_eq_true.mpr fun x hx => ?_).symm
    simpa using this x hx
  | some i =>
    obtain ⟨hi, e, _⟩ := List.findIdx?_eq_some_iff_getElem.mp h
    refine (Bool.eq_false_iff.mpr fun z => ?_).symm
    have := List.all_eq_true.mp z _ (List.getElem_mem hi)
    rw [this] at e
    cases e
theorem why_isNone (m : Nat) (bs : List Bool) (cs : List Ch) (p : List Nat) : (whyM m bs cs p).isNone = ((((rowsI m).zip bs).find? (hit p)).isNone && cs.all fun c => atM bs p c.1 c.2) := by
  rw [← idx_none]
  unfold whyM hit
  cases ((rowsI m).zip bs).find? fun z => !z.2 && hrow p z.1 with
  | some z => rfl
  | none =>
    rw [Option.isNone_map]
    rfl
def sp_allowed (K : PySem.W.Frag) : Sp := fun vs H Q _ => ∃ (wa : Addr) (m : Nat) (bs : List Bool) (cs : List Ch) (p : List Nat), vs = [.ref wa, .str (SX.S p)] ∧ Tk H (.ref wa) (wishD m bs cs) ∧ WishOk m bs cs ∧ ProdOk m p ∧ ∀ H', Same H H' → Q (.bl (whyM m bs cs p).isNone) H'
theorem ok_allowed (T : Tx K mg) : FnOk P w K mg base CX0 3 T.f_allowed T.fd_allowed ["_law_wish_here", "_law_product_here"] (sp_allowed K) := by
  refine T.F_allowed.ok sc_allowed (fun vs H Q E h => ?_) (fun cdv A outer s H vs Q E hr h => ?_)
  · obtain ⟨wa, m, bs, cs, p, rfl, _⟩ := h
    rfl
  · obtain ⟨wa, m, bs, cs, p, rfl, tw, ok, okp, q⟩ := h
    obtain ⟨_, t, xs, e, hw, ht, tx⟩ := tw.wish_inv
    cases e
    have m1 := ok.m1
    have m4 := ok.m4
    have lb := ok.lb
    rw [why_isNone] at q
    refine ⟨_, (pss_cons (ps_for PassesOwn.never rfl (pi_enum (by rfl) T.m_enumerate (pa_cons (pe_call (ok_rows T) (hr.mono (by decide)) (by rfl) T.g_rows T.F_rows.kp T.b_rows .nil pass0 (pa_cons (pe_ix ix_tup (pv 0) pe_int (fun _ _ => rfl)) pa_nil)) pa_nil)) (pg_tup rfl (pgs_cons (pg_name (i := 2) sc_allowed.nd rfl (by first | exact .inl rfl | exact .inr rfl)) (pgs_cons (pg_name (i := 3) sc_allowed.nd rfl (by first | exact .inl rfl | exact .inr rfl)) pgs_nil))) (pss_one (ps_if (pw_and (pt_cmpR op_eq (pe_item_str (pe_ix ix_tup (pv 0) pe_int (fun _ _ => rfl)) (pv 2) (fun _ _ => rfl)) pe_str (nomark _)) (pw_and1 (pt_val (pe_call (ok_holds T) (hr.mono (by decide)) (by rfl) T.g_holds T.F_holds.kp T.b_holds .nil pass0 (pa_cons (pv 1) (pa_cons (pv 3) pa_nil)))))).pt (pss_one (ps_ret pe_bl)) pss_nil))) (pss_one (ps_ret (pe_cmpR (NeL.op_eqN hr.units) (pe_lc (own := [("_law_change_here", 4)]) (by rfl) sc_allowed.nd (pi_tup (pe_ix ix_tup (pv 0) pe_int (fun _ _ => rfl))) (blkOk_by (own := [("_law_change_here", 4)]) (N := ["_law_wish_here", "_law_product_here", "_law_k", "_law_row", "_law_change_here"]) (sc := defScope s_allowed) (by decide +kernel)) (fun _ _ _ _ _ => (pg_name (i := 4) sc_allowed.nd rfl (by first | exact .inl rfl | exact .inr rfl))) (fun _ _ _ _ _ => (pts_one (pt_not (pt_val (pe_call (ok_fits T) (hr.mono (by decide)) (by rfl) T.g_fits T.F_fits.kp T.b_fits .nil pass0 (pa_cons (pv 0) (pa_cons (pv 1) (pa_cons (pv 4) pa_nil)))))))) (fun _ _ _ _ _ => (pv 4))) (pe_lst pa_nil) (nomark _))))), ?_⟩
    refine ⟨.ref wa, rfl, wa, _, _, .int m, rfl, rfl, SqT.of hw, rfl, m, rfl, m1, by omega, fun r H1 nr s1 tr => ?_⟩
    obtain ⟨_, rs, e, hr1, trs⟩ := tr.lst_inv
    cases e
    rw [rowsUI (by omega)] at trs
    have lrs : rs.length = 2 ^ m := by
      have := trs.length
      rw [List.length_map] at this
      rw [this, rowsI_len (by omega)]
    refine ⟨r, rs, rfl, SqL.of hr1, ?_⟩
    refine for_enumL (K := K) (a := r) (xs := rs) (fun j σ H' => ∃ y2 y3, σ = [some (.ref wa), some (.str (SX.S p)), y2, y3, none] ∧ Same H1 H' ∧ (((rowsI m).zip bs).take j).find? (hit p) = none) ⟨_, _, rfl, Same.refl _, rfl⟩ (fun j σ H' _ ⟨_, _, _, g, _⟩ => SqL.of (g _ _ hr1)) ?_ ?_
    · rintro j x Tq σ H2 hx nT ⟨y2, y3, rfl, g, ih⟩
      obtain ⟨ra, rw', rfl, hrw, hra⟩ := Tk.row_at trs hx
      have hj := (List.getElem?_eq_some_iff.mp hx).1
      have l64 : 2 ^ m ≤ 64 := Nat.pow_le_pow_right (by decide) (show m ≤ 6 by omega)
      have hb : bs[j]? = some (bs[j]'(by omega)) := List.getElem?_eq_getElem _
      obtain ⟨lr, or⟩ := rowsI_ok (by omega) rw' (List.mem_of_getElem? hrw)
      have ez := zip_take_succ hrw hb
      have sT := same_upd (o := HO.tup [.int (j : Nat), .ref ra]) nT
      have gT := g.trans sT
      have hw2 := gT _ _ (s1 _ _ hw)
      refine ⟨Tq, _, rfl, SqT.of upd_same, rfl, _, _, rfl, _, _, rfl, rfl, ?_⟩
      have tc : (tabOf bs).cps[(((j : Nat) : Int)).toNat]? = some (bitS bs[j]) := tab_cps (by omega)
      refine ⟨.ref wa, rfl, wa, _, _, .str (tabOf bs), rfl, rfl, SqT.of hw2, rfl, .int (j : Nat), rfl, tabOf bs, ((j : Nat) : Int), _, rfl, rfl, by omega, by omega, by rw [tab_len]; omega, tc, rfl, _, rfl, ite2 (fun e => ?_) (fun e => ?_)⟩
      · have e1 := (bit48 bs[j]).symm.trans e
        refine ⟨.str (SX.S p), rfl, .ref ra, rfl, m, p, ra, rw', rfl, okp.1, gT _ _ hra, or, lr, by omega, fun H3 s3 => ⟨_, rfl, ite2 (fun e2 => ?_) (fun e2 => ?_)⟩⟩
        · have z := q H3 ((s1.trans gT).trans s3)
          rw [find_stop (f := hit p) ez ih (show (!bs[j] && hrow p rw') = true by rw [e1, e2]; rfl)] at z
          exact z
        · refine ⟨_, _, rfl, gT.trans s3, find_more ez ih ?_⟩
          show (!bs[j] && hrow p rw') = false
          rw [Bool.eq_false_iff.mpr e2, Bool.and_false]
      · refine iteF ⟨_, _, rfl, gT, find_more ez ih ?_⟩
        show (!bs[j] && hrow p rw') = false
        have : (!bs[j]) = false := Bool.eq_false_iff.mpr fun z => e ((bit48 _).trans z)
        rw [this, Bool.false_and]
    · rintro σ H2 ⟨y2, y3, rfl, g, ih⟩
      have ez : ((rowsI m).zip bs).length ≤ rs.length := by rw [List.length_zip]; omega
      rw [List.take_of_length_le ez] at ih
      rw [ih] at q
      have gg := s1.trans g
      have ht2 := gg _ _ ht
      have lx := tx.length
      rw [List.length_map] at lx
      have lc := ok.lc
      refine ⟨.ref wa, rfl, wa, _, _, .ref t, rfl, rfl, SqT.of (gg _ _ hw), rfl, t, rfl, ⟨_, SqT.of ht2⟩, fun L nL => ?_⟩
      refine lc_tup (K := K) (a := t) (xs := xs) (fun j H' => Same H2 (hd1 L H') ∧ ∃ ys, H' L = some (.lst ys) ∧ ys.length ≤ j ∧ ys.isEmpty = (cs.take j).all fun c => atM bs p c.1 c.2) ⟨hd1_of (same_upd nL) nL, [], upd_same, Nat.zero_le _, rfl⟩ (fun j H' _ z => SqT.of (hd1_le _ _ (z.1 _ _ ht2))) ?_ ?_
      · rintro j x H3 hx ⟨s3, ys, hL, ly, ey⟩
        obtain ⟨c, hc, tc⟩ := tx.at hx
        have hj := (List.getElem?_eq_some_iff.mp hx).1
        have s3' : Same H H3 := gg.trans fun b o e => hd1_le _ _ (s3 _ _ e)
        obtain ⟨ca, rfl, hca⟩ := ChAt.of_tk (tc.same s3')
        have okc := ok.oc c (List.mem_of_getElem? hc)
        have ec : (cs.take (j + 1)).all (fun c => atM bs p c.1 c.2) = (ys.isEmpty && atM bs p c.1 c.2) := by
          rw [List.take_add_one, hc, List.all_append, ey]
          simp
        refine ⟨rfl, .ref wa, rfl, .str (SX.S p), rfl, .ref ca, rfl, wa, ca, m, bs, _, p, c.1, c.2, rfl, s3' _ _ hw, lb, okp, hca, okc, fun H4 s4 => ⟨_, rfl, ite2 (fun e => ?_) (fun e => ?_)⟩⟩
        · have e1 : atM bs p c.1 c.2 = false := by simpa using e
          refine ⟨.ref ca, rfl, ys, s4 _ _ hL, Nat.lt_of_lt_of_le (show _ < 128 by omega) (by decide), (s3.trans (hd1_same s4)).trans hd1_upd, ys ++ [V.ref ca], upd_same, by rw [List.length_append]; exact Nat.succ_le_succ ly, ?_⟩
          rw [ec, e1, Bool.and_false]
          cases ys <;> rfl
        · have e1 : atM bs p c.1 c.2 = true := by simpa using e
          refine ⟨s3.trans (hd1_same s4), ys, s4 _ _ hL, by omega, ?_⟩
          rw [ec, e1, Bool.and_true]
      · rintro H3 ⟨s3, ys, hL, ly, ey⟩
        rw [lx, List.take_length] at ey
        refine ⟨Nat.zero_le _, fun e0 ne0 => ?_⟩
        have s4 := same_upd (o := HO.lst []) ne0
        refine ⟨L, e0, ys, rfl, rfl, SqL.of (s4 _ _ hL), SqL.of upd_same, ?_⟩
        rw [ey]
        exact q _ ((gg.trans fun b o e => hd1_le _ _ (s3 _ _ e)).trans s4)

end
end Gk

set_option Elab.async false
set_option linter.all false
set_option maxRecDepth 100000
set_option maxHeartbeats 1000000
set_option pp.maxSteps 1500
set_option pp.deepTerms false
namespace Gk
open PySem PySem.Spec PyProof.Rows L2
section
variable {P : Program} {w : World} {K : PySem.W.Frag} {mg : Str → Option Value} {base : Heap}
theorem hall_iff {p q : List Nat} : hall p q = true ↔ ∀ (i a b : Nat), p[i]? = some a → q[i]? = some b → a = 45 ∨ a = b := by
  unfold hall
  rw [List.all_eq_true]
  constructor
  · intro h i a b ha hb
    have := h (a, b) (List.mem_of_getElem? (i := i) (by rw [List.getElem?_zip_eq_some]; exact ⟨ha, hb⟩))
    simpa using this
  · intro h z hz
    obtain ⟨i, hi⟩ := List.getElem?_of_mem hz
    rw [List.getElem?_zip_eq_some] at hi
    simpa using h i z.1 z.2 hi.1 hi.2
theorem hrow_iff {p : List Nat} {r : List Int} : hrow p r = true ↔ ∀ (i a : Nat) (x : Int), p[i]? = some a → r[i]? = some x → a = 45 ∨ a = wS x := by
  unfold hrow
  rw [hall_iff]
  constructor
  · intro h i a x ha hx
    exact h i a (wS x) ha (by unfold rowS; rw [List.getElem?_map, hx]; rfl)
  · intro h i a b ha hb
    unfold rowS at hb
    rw [List.getElem?_map] at hb
    obtain ⟨x, hx, e⟩ := Option.map_eq_some_iff.mp hb
    rw [← e]
    exact h i a x ha hx

/-! ### all products that are allowed, the greatest of them: the program's own -/
def allowedM (m : Nat) (bs : List Bool) (cs : List Ch) : List (List Nat) := (prodsU m).filter fun p => (whyM m bs cs p).isNone
def greatM (m : Nat) (bs : List Bool) (cs : List Ch) : List (List Nat) := (allowedM m bs cs).filter fun p => !((allowedM m bs cs).any fun o => !decide (o = p) && hall o p)
theorem prodsU_len (m : Nat) : (prodsU m).length ≤ 3 ^ m := by
  have := chs_len 3 (by decide) m (List.replicate m [45, 48, 49]) (by rw [List.length_replicate]) fun l hl => by rw [(List.mem_replicate.mp hl).2]; exact Nat.le_refl _
  exact this
theorem prodsU_81 {m : Nat} (h : m ≤ 4) : (prodsU m).length ≤ 81 := Nat.le_trans (prodsU_len m) (Nat.pow_le_pow_right (by decide) h)
theorem prods_data (m : Nat) : chs (List.replicate m ([45, 48, 49].map fun c => PyData.str (SX.S [c]))) = (prodsU m).map (List.map fun c => PyData.str (SX.S [c])) := by
  rw [show List.replicate m ([45, 48, 49].map fun c => PyData.str (SX.S [c])) = (List.replicate m [45, 48, 49]).map (List.map fun c => PyData.str (SX.S [c])) from by rw [List.map_replicate], chs_map _ _ _ rfl]
  rfl
theorem tk_strs {H : Hp} : ∀ {vs : List V} {cs : List Nat}, TkAll H vs (cs.map fun c => PyData.str (SX.S [c])) → vs = (cs.map one).map V.str
  | _, [], .nil => rfl
  | _, c :: r, .cons h t => by
    cases h
    rw [tk_strs t]
    rfl
theorem m01_S : Str.ofString "-01" = SX.S [45, 48, 49] := by decide +kernel
theorem filter_snoc {α : Type} {f : α → Bool} {l : List α} {j : Nat} {x : α} (h : l[j]? = some x) : (l.take (j + 1)).filter f = (l.take j).filter f ++ (if f x = true then [x] else []) := by
  rw [List.take_add_one, h, List.filter_append]
  congr 1
  show List.filter _ [x] = _
  rw [List.filter_cons, List.filter_nil]
theorem str_ne (p q : List Nat) : (!decide (V.str (SX.S p) = V.str (SX.S q))) = !decide (p = q) := by
  rw [str_dec]
  congr 1
  exact decide_eq_decide.mpr ⟨fun h => SX.S_inj h, fun h => by rw [h]⟩
/-! ### what is asked: rows of 1, cubes of the changes between two of them -/
def bothB (bs : List Bool) (c : Ch) : Bool := oneB bs c.1 && oneB bs c.2
def cubeC (c : Ch) : List Nat := cubeM c.1 c.2
def askedL (m : Nat) (bs : List Bool) (cs : List Ch) : List (List Nat) := ((rowsI m).filter (oneB bs)).map rowS ++ (cs.filter (bothB bs)).map cubeC
def askedM (m : Nat) (bs : List Bool) (cs : List Ch) : List (List Nat) := (prodsU m).filter fun p => decide (p ∈ askedL m bs cs)
theorem prodsU_mem {m : Nat} {p : List Nat} (ok : ProdOk m p) : p ∈ prodsU m := by
  have : ∀ (m : Nat) (p : List Nat), p.length = m → (∀ c ∈ p, SgOk c) → p ∈ chs (List.replicate m [45, 48, 49]) := fun m => by
    induction m with
    | zero =>
      intro p lp _
      rw [List.length_eq_zero_iff.mp lp]
      exact List.mem_singleton.mpr rfl
    | succ k ih =>
      intro p lp hc
      have hne : p ≠ [] := fun z => by rw [z] at lp; cases lp
      obtain ⟨r, x, rfl⟩ : ∃ r x, p = r ++ [x] := ⟨p.dropLast, p.getLast hne, (List.dropLast_concat_getLast hne).symm⟩
      rw [List.replicate_succ', chs_snoc]
      refine List.mem_flatMap.mpr ⟨r, ih r (by rw [List.length_append] at lp; simpa using lp) fun c h => hc c (List.mem_append_left _ h), List.mem_map.mpr ⟨x, ?_, rfl⟩⟩
      have := hc x (by simp)
      unfold SgOk at this
      rcases this with z | z | z <;> rw [z] <;> decide
  exact this m p ok.1 ok.2
theorem prodsU_nodup {m : Nat} (h : m ≤ 4) : (prodsU m).Nodup := by
  have : ((List.range 5).all fun m => decide (prodsU m).Nodup) = true := by decide +kernel
  exact of_decide_eq_true (List.all_eq_true.mp this m (List.mem_range.mpr (by omega)))
theorem rowS_ok {m : Nat} {r : List Int} (l : r.length = m) (o : Row01' r) : ProdOk m (rowS r) := by
  refine ⟨by unfold rowS; rw [List.length_map, l], fun c hc => ?_⟩
  unfold rowS at hc
  obtain ⟨x, _, rfl⟩ := List.mem_map.mp hc
  unfold wS SgOk
  split <;> decide
theorem cubeC_ok {m : Nat} {c : Ch} (ok : ChOk m c.1 c.2) : ProdOk m (cubeC c) := by
  refine ⟨cube_len ok, fun z hz => ?_⟩
  unfold cubeC cubeM at hz
  obtain ⟨x, _, rfl⟩ := List.mem_map.mp hz
  unfold wS SgOk
  split
  · split <;> decide
  · decide
theorem askedL_ok {m : Nat} {bs : List Bool} {cs : List Ch} (h : m ≤ 6) (oc : ∀ c ∈ cs, ChOk m c.1 c.2) : ∀ p ∈ askedL m bs cs, ProdOk m p := fun p hp => by
  rcases List.mem_append.mp hp with h' | h'
  · obtain ⟨r, hr, rfl⟩ := List.mem_map.mp h'
    obtain ⟨lr, or⟩ := rowsI_ok h r (List.mem_filter.mp hr).1
    exact rowS_ok lr or
  · obtain ⟨c, hc, rfl⟩ := List.mem_map.mp h'
    exact cubeC_ok (oc c (List.mem_filter.mp hc).1)
theorem sorted_sub {m : Nat} {f : List Nat → Bool} : (((prodsU m).filter f).map SX.S).Pairwise (fun x y => SrtS.ltC y x = false) := (prodsU_sorted m).sublist ((List.filter_sublist).map _)
theorem nodup_S {ps : List (List Nat)} (h : ps.Nodup) : (ps.map SX.S).Nodup := List.Pairwise.map _ (fun a b h e => h (SX.S_inj e)) h
/-- sorted texts, each once, of products: just those of prodsU -/
theorem asked_uniq {m : Nat} (h : m ≤ 4) {l : List (List Nat)} (okl : ∀ p ∈ l, ProdOk m p) {ys : List Str} (st : ys.Pairwise (fun x y => SrtS.ltC y x = false)) (nd : ys.Nodup) (mem : ∀ x, x ∈ ys ↔ x ∈ l.map SX.S) : ys = ((prodsU m).filter fun p => decide (p ∈ l)).map SX.S := by
  refine sorted_uniq ((List.perm_ext_iff_of_nodup nd (nodup_S ((prodsU_nodup h).sublist List.filter_sublist))).mpr fun x => ?_) st sorted_sub
  rw [mem, List.mem_map, List.mem_map]
  constructor
  · rintro ⟨p, hp, rfl⟩
    exact ⟨p, List.mem_filter.mpr ⟨prodsU_mem (okl p hp), decide_eq_true hp⟩, rfl⟩
  · rintro ⟨p, hp, rfl⟩
    exact ⟨p, of_decide_eq_true (List.mem_filter.mp hp).2, rfl⟩
/-! ### free covers: judged by rows and changes, and by what is allowed and asked -/
theorem row_num : ((List.range 7).all fun m => decide ((rowsI m).map plc = (List.range (2 ^ m)).map Int.ofNat)) = true := by decide +kernel
theorem row_gate {m : Nat} (h : m ≤ 6) {bs : List Bool} {i : Nat} {r : List Int} {b : Bool} (hr : (rowsI m)[i]? = some r) (hb : bs[i]? = some b) : oneB bs r = b := by
  have e := of_decide_eq_true (List.all_eq_true.mp row_num m (List.mem_range.mpr (by omega)))
  have e1 : ((rowsI m).map plc)[i]? = some (plc r) := by rw [List.getElem?_map, hr]; rfl
  have hi : i < 2 ^ m := by
    rw [← rowsI_len h]
    exact (List.getElem?_eq_some_iff.mp hr).1
  rw [e, List.getElem?_map, List.getElem?_range hi] at e1
  have e2 : plc r = (i : Int) := (Option.some.inj e1).symm
  unfold oneB gateM
  rw [e2, List.getD_eq_getElem?_getD, show ((i : Int)).toNat = i by omega, hb]
  cases b <;> rfl
theorem hall_cube {p : List Nat} {a b : List Int} (hl : a.length = b.length) (oa : Row01' a) (ob : Row01' b) : hall p (cubeM a b) = (hrow p a && hrow p b) := by
  have key : hall p (cubeM a b) = true ↔ hrow p a = true ∧ hrow p b = true := by
    rw [hall_iff, hrow_iff, hrow_iff]
    have cat : ∀ (i : Nat) (x y : Int), a[i]? = some x → b[i]? = some y → (cubeM a b)[i]? = some (if x = y then wS x else 45) := fun i x y hx hy => by
      unfold cubeM
      rw [List.getElem?_map, List.getElem?_zip_eq_some.mpr (show a[i]? = some (x, y).1 ∧ b[i]? = some (x, y).2 from ⟨hx, hy⟩)]
      rfl
    have other : ∀ {u v : List Int} {i : Nat} {x : Int}, u.length = v.length → u[i]? = some x → ∃ y, v[i]? = some y := fun {u v i x} l h => ⟨_, List.getElem?_eq_getElem (by have := (List.getElem?_eq_some_iff.mp h).1; omega)⟩
    constructor
    · intro h
      refine ⟨fun i u x hu hx => ?_, fun i u y hu hy => ?_⟩
      · obtain ⟨y, hy⟩ := other hl hx
        have := h i u _ hu (cat i x y hx hy)
        by_cases e : x = y
        · rw [if_pos e] at this; exact this
        · rw [if_neg e] at this; exact .inl (this.elim id id)
      · obtain ⟨x, hx⟩ := other hl.symm hy
        have := h i u _ hu (cat i x y hx hy)
        by_cases e : x = y
        · rw [if_pos e, e] at this; exact this
        · rw [if_neg e] at this; exact .inl (this.elim id id)
    · rintro ⟨h1, h2⟩ i u v hu hv
      have li := (List.getElem?_eq_some_iff.mp hv).1
      unfold cubeM at li
      rw [List.length_map, List.length_zip] at li
      have hx : a[i]? = some (a[i]'(by omega)) := List.getElem?_eq_getElem _
      have hy : b[i]? = some (b[i]'(by omega)) := List.getElem?_eq_getElem _
      revert hx hy
      generalize a[i]'(by omega) = x
      generalize b[i]'(by omega) = y
      intro hx hy
      rw [cat i x y hx hy] at hv
      cases Option.some.inj hv
      have k1 := h1 i u x hu hx
      have k2 := h2 i u y hu hy
      have o1 := oa x (List.mem_of_getElem? hx)
      have o2 := ob y (List.mem_of_getElem? hy)
      by_cases e : x = y
      · rw [if_pos e]; exact k1
      · rw [if_neg e]
        refine .inl ?_
        have w0 : wS 0 = 48 := rfl
        have w1 : wS 1 = 49 := rfl
        rcases o1 with rfl | rfl <;> rcases o2 with rfl | rfl
        · exact absurd rfl e
        · rw [w0] at k1; rw [w1] at k2; omega
        · rw [w1] at k1; rw [w0] at k2; omega
        · exact absurd rfl e
  rw [Bool.eq_iff_iff, key, Bool.and_eq_true]
theorem rowsI_mem {m : Nat} {r : List Int} (l : r.length = m) (o : Row01' r) : r ∈ rowsI m := by
  have : ∀ (m : Nat) (r : List Int), r.length = m → Row01' r → r ∈ chs (List.replicate m [0, 1]) := fun m => by
    induction m with
    | zero =>
      intro r l _
      rw [List.length_eq_zero_iff.mp l]
      exact List.mem_singleton.mpr rfl
    | succ k ih =>
      intro p lp hc
      have hne : p ≠ [] := fun z => by rw [z] at lp; cases lp
      obtain ⟨r, x, rfl⟩ : ∃ r x, p = r ++ [x] := ⟨p.dropLast, p.getLast hne, (List.dropLast_concat_getLast hne).symm⟩
      rw [List.replicate_succ', chs_snoc]
      refine List.mem_flatMap.mpr ⟨r, ih r (by rw [List.length_append] at lp; simpa using lp) fun c h => hc c (List.mem_append_left _ h), List.mem_map.mpr ⟨x, ?_, rfl⟩⟩
      rcases hc x (by simp) with z | z <;> rw [z] <;> decide
  exact this m r l o
/-- to and fro at a change -/
def froB (ps : List (List Nat)) (a b : List Int) : Bool :=
  if toldM ps a = true ∧ toldM ps b = true then !ps.any (fun p => hall p (cubeM a b)) else ps.any (flashM a b)
def freeM (m : Nat) (bs : List Bool) (cs : List Ch) (ps : List (List Nat)) : Bool := ((rowsI m).all fun r => decide (toldM ps r = oneB bs r)) && cs.all fun c => !froB ps c.1 c.2
def otherM (m : Nat) (bs : List Bool) (cs : List Ch) (ps : List (List Nat)) : Bool := (ps.all fun p => (whyM m bs cs p).isNone) && (askedL m bs cs).all fun a => ps.any fun p => hall p a
theorem hit_none {m : Nat} (h : m ≤ 6) {bs : List Bool} (lb : bs.length = 2 ^ m) {p : List Nat} : (((rowsI m).zip bs).find? (hit p)).isNone = (rowsI m).all fun r => oneB bs r || !hrow p r := by
  rw [Bool.eq_iff_iff, Option.isNone_iff_eq_none, List.find?_eq_none, List.all_eq_true]
  constructor
  · intro z r hr
    obtain ⟨i, hi⟩ := List.getElem?_of_mem hr
    have li := (List.getElem?_eq_some_iff.mp hi).1
    rw [rowsI_len h] at li
    have hb : bs[i]? = some (bs[i]'(by omega)) := List.getElem?_eq_getElem _
    have := z (r, bs[i]'(by omega)) (List.mem_of_getElem? (List.getElem?_zip_eq_some.mpr ⟨hi, hb⟩))
    rw [row_gate h hi hb]
    unfold hit at this
    revert this
    cases bs[i]'(by omega) <;> cases hrow p r <;> simp
  · intro z x hx
    obtain ⟨i, hi⟩ := List.getElem?_of_mem hx
    obtain ⟨h1, h2⟩ := List.getElem?_zip_eq_some.mp hi
    have := z x.1 (List.mem_of_getElem? h1)
    rw [row_gate h h1 h2] at this
    unfold hit
    revert this
    cases x.2 <;> cases hrow p x.1 <;> simp
theorem free_other {m : Nat} {bs : List Bool} {cs : List Ch} (ok : WishOk m bs cs) {ps : List (List Nat)} : freeM m bs cs ps = otherM m bs cs ps := by
  have m4 := ok.m4
  have m6 : m ≤ 6 := by omega
  have mem : ∀ c ∈ cs, c.1 ∈ rowsI m ∧ c.2 ∈ rowsI m := fun c hc => ⟨rowsI_mem (ok.oc c hc).la (ok.oc c hc).oa, rowsI_mem (ok.oc c hc).lb (ok.oc c hc).ob⟩
  have cube : ∀ c ∈ cs, ∀ p, hall p (cubeM c.1 c.2) = (hrow p c.1 && hrow p c.2) := fun c hc p => hall_cube (by have := ok.oc c hc; rw [this.la, this.lb]) (ok.oc c hc).oa (ok.oc c hc).ob
  rw [Bool.eq_iff_iff]
  unfold freeM otherM
  rw [Bool.and_eq_true, Bool.and_eq_true, List.all_eq_true, List.all_eq_true, List.all_eq_true, List.all_eq_true]
  constructor
  · rintro ⟨h1, h2⟩
    have told : ∀ r ∈ rowsI m, toldM ps r = oneB bs r := fun r hr => of_decide_eq_true (h1 r hr)
    refine ⟨fun p hp => ?_, fun a ha => ?_⟩
    · rw [why_isNone, Bool.and_eq_true, hit_none m6 ok.lb, List.all_eq_true, List.all_eq_true]
      have held : ∀ r, hrow p r = true → toldM ps r = true := fun r e => List.any_eq_true.mpr ⟨p, hp, e⟩
      refine ⟨fun r hr => ?_, fun c hc => ?_⟩
      · cases e : hrow p r with
        | false => simp
        | true => rw [← told r hr, held r e]; rfl
      · have t1 := told _ (mem c hc).1
        have t2 := told _ (mem c hc).2
        have f := h2 c hc
        unfold froB at f
        unfold atM
        by_cases e : toldM ps c.1 = true ∧ toldM ps c.2 = true
        · rw [← t1, ← t2, e.1, e.2]
          simp
        · rw [if_neg e] at f
          have f' : ps.any (flashM c.1 c.2) = false := by simpa using f
          have f2 : flashM c.1 c.2 p = false := by
            cases z : flashM c.1 c.2 p with
            | false => rfl
            | true => rw [List.any_eq_true.mpr ⟨p, hp, z⟩] at f'; cases f'
          unfold flashM at f2
          rw [← t1, ← t2]
          have k1 := held c.1
          have k2 := held c.2
          revert f2 k1 k2
          cases meetM p (cubeM c.1 c.2) <;> cases hrow p c.1 <;> cases hrow p c.2 <;> cases toldM ps c.1 <;> cases toldM ps c.2 <;> simp
    · unfold askedL at ha
      rcases List.mem_append.mp ha with h | h
      · obtain ⟨r, hr, rfl⟩ := List.mem_map.mp h
        obtain ⟨hr, e⟩ := List.mem_filter.mp hr
        rw [← told r hr] at e
        exact e
      · obtain ⟨c, hc, rfl⟩ := List.mem_map.mp h
        obtain ⟨hc, e⟩ := List.mem_filter.mp hc
        unfold bothB at e
        rw [Bool.and_eq_true, ← told _ (mem c hc).1, ← told _ (mem c hc).2] at e
        have f := h2 c hc
        unfold froB at f
        rw [if_pos e] at f
        unfold cubeC
        simpa using f
  · rintro ⟨h1, h2⟩
    have al : ∀ p ∈ ps, (∀ r ∈ rowsI m, (oneB bs r || !hrow p r) = true) ∧ ∀ c ∈ cs, atM bs p c.1 c.2 = true := fun p hp => by
      have := h1 p hp
      rw [why_isNone, Bool.and_eq_true, hit_none m6 ok.lb, List.all_eq_true, List.all_eq_true] at this
      exact this
    have told : ∀ r ∈ rowsI m, toldM ps r = oneB bs r := fun r hr => by
      cases e : oneB bs r with
      | true => exact h2 (rowS r) (List.mem_append_left _ (List.mem_map.mpr ⟨r, List.mem_filter.mpr ⟨hr, e⟩, rfl⟩))
      | false =>
        cases z : toldM ps r with
        | false => rfl
        | true =>
          obtain ⟨p, hp, hz⟩ := List.any_eq_true.mp z
          have := (al p hp).1 r hr
          rw [e, hz] at this
          cases this
    refine ⟨fun r hr => decide_eq_true (told r hr), fun c hc => ?_⟩
    have t1 := told _ (mem c hc).1
    have t2 := told _ (mem c hc).2
    unfold froB
    by_cases e : toldM ps c.1 = true ∧ toldM ps c.2 = true
    · rw [if_pos e]
      have := h2 (cubeC c) (List.mem_append_right _ (List.mem_map.mpr ⟨c, List.mem_filter.mpr ⟨hc, by unfold bothB; rw [← t1, ← t2, e.1, e.2]; rfl⟩, rfl⟩))
      unfold cubeC at this
      rw [this]
      rfl
    · rw [if_neg e]
      have no : ps.any (flashM c.1 c.2) = false := by
        cases z : ps.any (flashM c.1 c.2) with
        | false => rfl
        | true =>
          obtain ⟨p, hp, hz⟩ := List.any_eq_true.mp z
          have f := (al p hp).2 c hc
          unfold flashM at hz
          unfold atM at f
          rw [← t1, ← t2] at f
          revert f hz e
          cases meetM p (cubeM c.1 c.2) <;> cases hrow p c.1 <;> cases hrow p c.2 <;> cases toldM ps c.1 <;> cases toldM ps c.2 <;> simp
      rw [no]
      rfl
/-- the program's judgement is this one -/
theorem fro_B (ps : List (List Nat)) (a b : List Int) : froM ps a b = froB ps a b := by
  unfold froM judS froB firstH
  have g1 : decide (gapS = gapS) = true := decide_eq_true rfl
  have g2 : (decide (heldS = gapS) || decide (heldS = meetsS)) = false := by decide +kernel
  have g3 : (decide (clearS = gapS) || decide (clearS = meetsS)) = false := by decide +kernel
  by_cases e : toldM ps a = true ∧ toldM ps b = true
  · rw [if_pos e, if_pos e]
    cases z : ps.findIdx? fun p => hall p (cubeM a b) with
    | none =>
      have := List.findIdx?_eq_none_iff.mp z
      rw [show ps.any (fun p => hall p (cubeM a b)) = false from by simpa using this, g1]
      rfl
    | some k =>
      obtain ⟨hi, w, _⟩ := List.findIdx?_eq_some_iff_getElem.mp z
      rw [List.any_eq_true.mpr ⟨_, List.getElem_mem hi, w⟩]
      exact g2
  · rw [if_neg e, if_neg e]
    cases z : ps.findIdx? (flashM a b) with
    | none =>
      have := List.findIdx?_eq_none_iff.mp z
      rw [show ps.any (flashM a b) = false from by simpa using this]
      exact g3
    | some k =>
      obtain ⟨hi, w, _⟩ := List.findIdx?_eq_some_iff_getElem.mp z
      rw [List.any_eq_true.mpr ⟨_, List.getElem_mem hi, w⟩]
      show (decide (meetsS = gapS) || decide (meetsS = meetsS)) = true
      rw [decide_eq_true (rfl : meetsS = meetsS), Bool.or_true]
/-- the order of the products, and one more than once, play no part -/
theorem fro_same {ps qs : List (List Nat)} (h : ∀ p, p ∈ ps ↔ p ∈ qs) (a b : List Int) : froB ps a b = froB qs a b := by
  have an : ∀ f : List Nat → Bool, ps.any f = qs.any f := fun f => by
    rw [Bool.eq_iff_iff, List.any_eq_true, List.any_eq_true]
    exact ⟨fun ⟨x, hx, e⟩ => ⟨x, (h x).mp hx, e⟩, fun ⟨x, hx, e⟩ => ⟨x, (h x).mpr hx, e⟩⟩
  unfold froB toldM
  rw [an, an, an, an]
theorem told_same {ps qs : List (List Nat)} (h : ∀ p, p ∈ ps ↔ p ∈ qs) (r : List Int) : toldM ps r = toldM qs r := by
  unfold toldM
  rw [Bool.eq_iff_iff, List.any_eq_true, List.any_eq_true]
  exact ⟨fun ⟨x, hx, e⟩ => ⟨x, (h x).mp hx, e⟩, fun ⟨x, hx, e⟩ => ⟨x, (h x).mpr hx, e⟩⟩

end
end Gk

set_option Elab.async false
set_option linter.all false
set_option maxRecDepth 100000
set_option maxHeartbeats 1000000
set_option pp.maxSteps 1500
namespace Gk
open PySem PySem.Spec PyProof.Rows L2
/-! ### set(xs) of texts (a list or a tuple of them), sorted(set(..)) -/
namespace StX
open PySem PySem.Spec PyProof.Rows L2
section
variable {P : Program} {w : World} {A : Around} {E : Value → Shared → Prop} {s : Shared} {a : Addr}
def tx (e : Int × Value) : PySem.Str := match e.2 with
  | .str x _ => x
  | _ => PySem.Str.empty
abbrev Led (w : World) (t : SetTable) : Prop := w.params.followText "set-order" = true ∨ t.led = true
/-- entries whose texts are just those of xs, each once -/
structure Ent (P : Program) (w : World) (es : Array (Int × Value)) (xs : List PySem.Str) (n : Nat) : Prop where
  el : ElemsOf (PySem.strKind P w) es.toList
  nd : (es.toList.map tx).Nodup
  mem : ∀ x, x ∈ es.toList.map tx ↔ x ∈ xs
  few : es.size ≤ n
def TSet (P : Program) (w : World) (h : Heap) (a : Addr) (xs : List PySem.Str) (n : Nat) : Prop :=
  ∃ o es ep t, h.get? a = some o ∧ o.ExactSet ∧ o.data = .set es ep t ∧ Ent P w es xs n ∧ t.fits es.size = true ∧ Ris t.place.toList ∧ Led w t
theorem TSet.stays {h h' : Heap} {xs : List PySem.Str} {n : Nat} (R : TSet P w h a xs n) (k : ∀ o, h.get? a = some o → h'.get? a = some o) : TSet P w h' a xs n := by
  obtain ⟨o, es, ep, t, z, r⟩ := R
  exact ⟨o, es, ep, t, k o z, r⟩
theorem kind_is (x : PySem.Str) (tk : Tok) : (PySem.strKind P w).is x (.str x tk) = true := by
  show (x == x) = true
  exact beq_self_eq_true x
theorem el_tx {l : List (Int × Value)} (el : ElemsOf (PySem.strKind P w) l) {e : Int × Value} (he : e ∈ l) : ∃ tk, e.2 = .str (tx e) tk := by
  obtain ⟨⟨k, h, _⟩, _⟩ := el e he
  obtain ⟨tk, q⟩ := Value.isStrOf_shape h
  refine ⟨tk, ?_⟩
  unfold tx
  rw [q]
theorem el_is {l : List (Int × Value)} (el : ElemsOf (PySem.strKind P w) l) {e : Int × Value} (he : e ∈ l) (k : PySem.Str) : (PySem.strKind P w).is k e.2 = true ↔ tx e = k := by
  obtain ⟨tk, q⟩ := el_tx el he
  rw [q]
  show ((tx e == k) = true) ↔ _
  exact beq_iff_eq
/-- the entries stored, and the table laid anew where it is full -/
theorem store_all {tail : Bool → Sem Unit} (ht : ∀ (b : Bool) (z : Shared) (R : Unit → Shared → Prop), R () z → wpAny (model P w) A (tail b) R E z)
    {o : Obj} {es es1 : Array (Int × Value)} {ep : Nat} {t t2 : SetTable} {xs : List PySem.Str} {n : Nat} {was : Bool} {R : Option Bool → Shared → Prop} (u1 : s.heap.get? a = some o) (u2 : o.ExactSet) (u3 : o.data = .set es ep t)
    (u4 : Ent P w es1 xs n) (u5 : n < scanBound) (u6 : t2.fits es1.size = true) (u7 : Ris t2.place.toList) (u8 : Led w t2) (q : ∀ h', Heap.SameBut a s.heap h' → TSet P w h' a xs n → R (some true) { s with heap := h' }) :
    wpAny (model P w) A (do
        storeSet a es1 t2
        if (!was && t2.tooFull) = true then do
            tail (relayAll t2 es1 (SetTable.grown es1.size)).2.2
            storeSet a (relayAll t2 es1 (SetTable.grown es1.size)).1 (relayAll t2 es1 (SetTable.grown es1.size)).2.1
            pure (some true)
          else pure (some true)) R E s := by
  have sz1 : es1.size < scanBound := Nat.lt_of_le_of_lt u4.few u5
  have st1 := store_at (es' := es1) (t' := t2) u1 u3
  have but1 := Heap.SameBut.update s.heap a (Obj.putSet es1 t2)
  refine wpAny_bind (wpAny_storeSet_of u1 u3 ?_ (fits_of_scanBound sz1))
  by_cases full : (!was && t2.tooFull) = true
  · rw [if_pos full]
    have y1 := relayAll_perm t2 es1 (SetTable.grown es1.size)
    have y2 := relayAll_fits t2 es1 (SetTable.grown es1.size)
    have y3 := relayAll_ris t2 es1 (SetTable.grown es1.size)
    have y4 := relayAll_led t2 es1 (SetTable.grown es1.size)
    revert y1 y2 y3 y4
    generalize relayAll t2 es1 (SetTable.grown es1.size) = L
    obtain ⟨es2, t3, gv⟩ := L
    intro y1 y2 y3 y4
    have same : es2.size = es1.size := by
      have := y1.length_eq
      rwa [Array.length_toList, Array.length_toList] at this
    refine wpAny_bind (ht gv _ _ ?_)
    refine wpAny_bind (wpAny_storeSet_of st1 rfl ?_ (fits_of_scanBound (show es2.size < scanBound by omega)))
    have st2 := store_at (es' := es2) (t' := t3) st1 rfl
    refine wpAny_pure (q _ (but1.trans (Heap.SameBut.update _ a _)) ⟨_, es2, _, t3, st2, u2, rfl, ⟨u4.el.perm y1, ?_, fun x => ?_, by have := u4.few; omega⟩, y2, y3, ?_⟩)
    · exact (y1.map tx).nodup_iff.mpr u4.nd
    · rw [(y1.map tx).mem_iff]
      exact u4.mem x
    · rcases u8 with z | z
      · exact .inl z
      · exact .inr (y4.trans z)
  · rw [if_neg full]
    exact wpAny_pure (q _ but1 ⟨_, es1, _, t2, st1, u2, rfl, u4, u6, u7, u8⟩)
theorem put {x : PySem.Str} {tk : Tok} {xs : List PySem.Str} {n : Nat} {Q : Bool → Shared → Prop} (R : TSet P w s.heap a xs n) (room : n + 1 < scanBound)
    (q : ∀ b h', Heap.SameBut a s.heap h' → TSet P w h' a (xs ++ [x]) (n + 1) → Q b { s with heap := h' }) : wpAny (model P w) A (setAddHashed a (.str x tk) ((PySem.strKind P w).hash x)) Q E s := by
  obtain ⟨o, es, ep, t, u1, u2, u3, u4, u5, u6, u7⟩ := R
  have few := u4.few
  have small : es.size < scanBound := by omega
  unfold setAddHashed setAddHashedIn
  refine wpAny_holding (wpAny_bind (wpAny_setState_of u1 u3 u5 ?_))
  dsimp only
  rw [byScan_of (x := Value.str x tk) rfl small u4.el]
  simp only [↓reduceIte]
  unfold setAddByScan
  refine wpAny_bind (wpAny_bind (wpAny_rule ?_))
  refine wpAny_bind (wpAny_setScan_of (kind_is x tk) u1 u3 u5 u4.el ?_)
  cases hit : List.findIdx? (fun e => (PySem.strKind P w).is x e.2) es.toList with
  | some j =>
    obtain ⟨hj, pj, _⟩ := List.findIdx?_eq_some_iff_getElem.mp hit
    have old : x ∈ xs := (u4.mem x).mp (List.mem_map.mpr ⟨_, List.getElem_mem hj, (el_is u4.el (List.getElem_mem hj) x).mp pj⟩)
    refine wpAny_pure (wpAny_pure (q _ s.heap (Heap.SameBut.refl a s.heap) ⟨o, es, ep, t, u1, u2, u3, ⟨u4.el, u4.nd, fun y => ?_, by omega⟩, u5, u6, u7⟩))
    rw [u4.mem y, List.mem_append, List.mem_singleton]
    exact ⟨.inl, fun z => z.elim id fun e => e ▸ old⟩
  | none =>
    have new : x ∉ es.toList.map tx := fun z => by
      obtain ⟨e, he, ez⟩ := List.mem_map.mp z
      have no := List.findIdx?_eq_none_iff.mp hit e he
      rw [(el_is u4.el he x).mpr ez] at no
      cases no
    have y1 := layNew_perm t es ((PySem.strKind P w).hash x) (.str x tk)
    have y2 := layNew_fits t es ((PySem.strKind P w).hash x) (.str x tk)
    have y3 := layNew_ris t es ((PySem.strKind P w).hash x) (.str x tk) u6
    have y4 := layNew_led t es ((PySem.strKind P w).hash x) (.str x tk)
    dsimp only
    revert y1 y2 y3 y4
    generalize layNew t es ((PySem.strKind P w).hash x) (.str x tk) = L
    obtain ⟨es1, t1, was, gv⟩ := L
    intro y1 y2 y3 y4
    dsimp only at y1 y2 y3 y4 ⊢
    rw [Array.toList_push] at y1
    have pk : (es1.toList.map tx).Perm (es.toList.map tx ++ [x]) := by
      have := y1.map tx
      rwa [List.map_append] at this
    have led1 : Led w t1 := u7.imp id fun z => y4.trans z
    have ent : Ent P w es1 (xs ++ [x]) (n + 1) := by
      refine ⟨(u4.el.push (kind_is x tk) rfl).perm y1, ?_, fun y => ?_, ?_⟩
      · rw [pk.nodup_iff, List.nodup_append]
        exact ⟨u4.nd, List.nodup_cons.mpr ⟨by simp, List.nodup_nil⟩, fun y hy z hz e => new (by rw [List.mem_singleton.mp hz] at e; exact e ▸ hy)⟩
      · rw [pk.mem_iff, List.mem_append, List.mem_append, u4.mem y]
      · have := y1.length_eq
        rw [List.length_append, Array.length_toList, Array.length_toList] at this
        show es1.size ≤ n + 1
        have h1 : [((PySem.strKind P w).hash x, Value.str x tk)].length = 1 := rfl
        omega
    have give : ∀ (b : Bool) (z : Shared) (R : Unit → Shared → Prop), R () z → wpAny (model P w) A (match b with | true => rule "set.scan.the-table-gave-way" | false => pure ()) R E z := fun b z R h => by
      cases b
      · exact wpAny_pure h
      · exact wpAny_rule h
    refine wpAny_bind (give gv _ _ ?_)
    have go : ∀ t2 : SetTable, t2.fits es1.size = true → Ris t2.place.toList → Led w t2 → wpAny (model P w) A (do
        storeSet a es1 t2
        if (!was && t2.tooFull) = true then do
            (match (relayAll t2 es1 (SetTable.grown es1.size)).2.2 with | true => rule "set.scan.the-table-gave-way" | false => pure ())
            storeSet a (relayAll t2 es1 (SetTable.grown es1.size)).1 (relayAll t2 es1 (SetTable.grown es1.size)).2.1
            pure (some true)
          else pure (some true)) (fun r z => wpAny (model P w) A (match r with | some added => pure added | none => setAddHashedIn a (.str x tk) ((PySem.strKind P w).hash x) 99999) Q E z) E s := fun t2 z1 z2 z3 =>
      store_all (tail := fun b => match b with | true => rule "set.scan.the-table-gave-way" | false => pure ()) (fun b z R h => give b z R h) u1 u2 u3 ent room z1 z2 z3 fun h' sb r => wpAny_pure (q true h' sb r)
    by_cases pl : t1.plain = true
    · rw [if_pos pl]
      refine wpAny_bind ?_
      rw [hashByValue_scannable 8 (x := Value.str x tk) rfl]
      refine wpAny_pure ?_
      cases hk : plainKind (Value.str x tk)
      · exact go { t1 with plain := false } (SetTable.fits_plain_off y2) y3 led1
      · exact go t1 y2 y3 led1
    · rw [if_neg pl]
      refine wpAny_bind (wpAny_pure ?_)
      exact go t1 y2 y3 led1
/-- the texts put in, one behind the other -/
theorem fill {I : Addr} {fp wr : List Addr} {G : Array GenState → Array GenState → Prop} {n : Nat} {Pv : Nat → Value → Prop} {St : Nat → Shared → Prop} {R : Result → Shared → Prop} (W : WalksS P w A.in1 I fp wr G n Pv St) (S : Addr) (far : S ∉ fp) (xs : List PySem.Str) (len : n = xs.length) (room : n + 1 < scanBound)
    (its : ∀ i v, Pv i v → ∃ x t, xs[i]? = some x ∧ v = .str x t) : ∀ (k i : Nat) (s : Shared), n - i = k → i ≤ n → St i s → TSet P w s.heap S (xs.take i) i →
      (∀ z, Moved (S :: wr) G s z → TSet P w z.heap S xs n → R (.ok (.ret .none)) z) → codeAny (model P w) A (.builtin "set.update.loop" ⟨[.ref S, .ref I], []⟩) R s := by
  have away : S ∉ wr := fun z => far (W.sub _ z)
  have wide : ∀ b ∈ wr, b ∈ S :: wr := fun b z => List.mem_cons_of_mem _ z
  intro k
  induction k with
  | zero =>
    intro i s e0 le st T end_
    obtain rfl : i = n := by omega
    refine codeAny_builtin (F.entry_set_update_loop) ?_
    rw [Around.under_plainId (F.plain_set_update_loop) _]
    refine wpAny_bind (Q := _) (show wpAny _ A.in1 (pyNext (.ref I)) _ _ s from W.done s _ _ st fun z mv => ?_)
    show wpAny _ A.in1 (ret Value.none) _ _ z
    rw [List.take_of_length_le (by omega)] at T
    exact wpAny_pure (end_ z (mv.mono wide) (T.stays fun o h => mv.heap S o away h))
  | succ k ih =>
    intro i s e0 le st T end_
    have lt : i < n := by omega
    refine codeAny_builtin (F.entry_set_update_loop) ?_
    rw [Around.under_plainId (F.plain_set_update_loop) _]
    refine wpAny_bind (Q := _) (show wpAny _ A.in1 (pyNext (.ref I)) _ _ s from W.item i s _ _ lt st fun v z pv st1 mv => ?_)
    obtain ⟨x, t, hx, rfl⟩ := its i v pv
    have T1 := T.stays fun o h => mv.heap S o away h
    show wpAny _ A.in1 (holding [Value.str x t] (setAdd S (.str x t)) >>= _) _ _ z
    refine wpAny_bind (wpAny_holding ?_)
    unfold setAdd
    refine wpAny_holding (wpAny_bind ((PySem.strKind P w).pyHash (k := x) (kind_is x t) ?_))
    refine put (s := { z with toks := z.toks + 1 }) T1 (by omega) fun b h' sb T2 => ?_
    have et : xs.take i ++ [x] = xs.take (i + 1) := by rw [List.take_add_one, hx]; rfl
    rw [et] at T2
    have off : ∀ c o, c ≠ S → z.heap.get? c = some o → h'.get? c = some o := fun c o nc e => by rw [sb.2 c nc]; exact e
    refine wpAny_pure ⟨plainId_quiet (F.plain_set_update_loop) _, ih (i + 1) _ (by omega) lt (W.frame _ z _ _ st1 (Nat.le_succ _) fun c hc o e => off c o (fun z => far (z ▸ hc)) e) T2 fun z2 mv2 T3 => ?_⟩
    exact end_ z2 (Moved.trans W.gtrans ((mv.mono wide).then_heap (Nat.le_succ _) fun c o hc e => off c o (fun z => hc (z ▸ List.mem_cons_self)) e) mv2) T3
abbrev bare (w : World) : Obj := { cls := .type "set", dict := none, data := .set #[] 0 (.fresh 0 0 (!w.params.followText "set-order")) }
theorem none_yet {h : Heap} {xs : List PySem.Str} (e : h.get? a = some (bare w)) : TSet P w h a (xs.take 0) 0 := by
  refine ⟨_, #[], 0, _, e, ⟨rfl, rfl, rfl⟩, rfl, ⟨fun z hz => by simp at hz, by simp, fun x => by simp, by simp⟩, rfl, List.Pairwise.nil, ?_⟩
  show _ ∨ (!w.params.followText "set-order") = true
  cases w.params.followText "set-order"
  · exact .inr rfl
  · exact .inl rfl
def Held (h : Heap) (l : Addr) (its : Array Value) : Prop := h.IsList l its ∨ h.IsTuple l its
theorem texts_at {its : Array Value} {xs : List PySem.Str} (ht : StrsAre its.toList xs) : its.size = xs.length ∧ ∀ (i : Nat) (v : Value), its[i]? = some v → ∃ x t, xs[i]? = some x ∧ v = Value.str x t := by
  have len := StrsAre.len_eq ht
  rw [Array.length_toList] at len
  refine ⟨len, fun i v hv => ?_⟩
  have hi := (Array.getElem?_eq_some_iff.mp hv).1
  obtain ⟨t, e⟩ := SS.strs_at ht i v (by rw [Array.getElem?_toList]; exact hv)
  exact ⟨xs[i]'(by omega), t, List.getElem?_eq_getElem _, by rw [e, List.getD_eq_getElem?_getD, List.getElem?_eq_getElem (by omega)]; rfl⟩
abbrev Made (P : Program) (w : World) (s : Shared) (xs : List PySem.Str) (r : Value) (z : Shared) : Prop :=
  r = .none ∧ ∃ h' tk, z = { s with heap := h', toks := tk } ∧ TSet P w h' s.heap.objs.size xs xs.length ∧ ∀ b o, s.heap.get? b = some o → h'.get? b = some o
/-- set.__init__'s walk, over a list or a tuple -/
theorem walked {I : Addr} {its : Array Value} {xs : List PySem.Str} {it : Obj} {fp wr : List Addr} {St : Nat → Shared → Prop} {Pv : Nat → Value → Prop} (ht : StrsAre its.toList xs) (room : xs.length + 1 < scanBound)
    (eI : I = (s.heap.push (bare w)).objs.size) (W : WalksS P w A.in1 I fp wr (fun g g' => g' = g) its.size Pv St) (far : s.heap.objs.size ∉ fp) (own : ∀ b ∈ wr, b = I) (pv : ∀ i v, Pv i v → its[i]? = some v)
    (st : St 0 { s with heap := (s.heap.push (bare w)).push it }) :
    codeAny (model P w) A (.builtin "set.update.loop" ⟨[.ref s.heap.objs.size, .ref I], []⟩) (fun r z => wants (Made P w s xs) E r z) { s with heap := (s.heap.push (bare w)).push it } := by
  obtain ⟨len, at_⟩ := texts_at ht
  have old : ((s.heap.push (bare w)).push it).get? s.heap.objs.size = some (bare w) := Heap.get?_push_of_some _ (Heap.get?_push_size _ rfl)
  refine fill W s.heap.objs.size far xs len (by omega) (fun i v h => at_ i v (pv i v h)) (its.size - 0) 0 _ (by omega) (Nat.zero_le _) st (none_yet old) fun z mv T => ?_
  obtain ⟨h', g, d, tk, os⟩ := z
  obtain rfl : g = s.gens := mv.gens
  obtain rfl : d = s.drawn := mv.drawn
  obtain rfl : os = s.os := mv.os
  refine ⟨rfl, h', tk, rfl, by rw [← len]; exact T, fun b o e => ?_⟩
  have lt := Heap.lt_size e
  refine mv.heap b o (fun z => ?_) (Heap.get?_push_of_some _ (Heap.get?_push_of_some _ e))
  rcases List.mem_cons.mp z with z | z
  · exact absurd z (Nat.ne_of_lt lt)
  · have := own b z
    rw [eI, Heap.size_push] at this
    exact absurd this (Nat.ne_of_lt (Nat.lt_succ_of_lt lt))
theorem made_init {A0 : Around} {l : Addr} {its : Array Value} {xs : List PySem.Str} (hh : A.handled = none) (hl : Held s.heap l its) (ht : StrsAre its.toList xs) (room : xs.length + 1 < scanBound) :
    wpAny (model P w) A (Builtin.«set.__init__» ⟨[.ref s.heap.objs.size, .ref l], []⟩) (fun fin z => match fin with | .done f => wants (Made P w s xs) E (.ok f) z | .again c => c.quiet = true ∧ codeAny (model P w) A0 c (wants (Made P w s xs) E) z) (fun e z => wants (Made P w s xs) E (.error e) z) { s with heap := s.heap.push (bare w) } := by
  have calm : A.in1.handled = none := by simp [hh]
  rcases hl with hl | hl
  · have lt : l < s.heap.objs.size := by
      obtain ⟨o, h, _⟩ := hl
      exact Heap.lt_size h
    have hl1 : (s.heap.push (bare w)).IsList l its := hl.push _
    have ne : l ≠ (s.heap.push (bare w)).objs.size := by
      rw [Heap.size_push]
      exact Nat.ne_of_lt (Nat.lt_succ_of_lt lt)
    have far : s.heap.objs.size ∉ [(s.heap.push (bare w)).objs.size, l] := by
      intro z
      rw [Heap.size_push] at z
      rcases List.mem_cons.mp z with z | z
      · exact absurd z (Nat.ne_of_lt (Nat.lt_succ_self _))
      · exact absurd (List.mem_singleton.mp z) (Nat.ne_of_gt lt)
    obtain ⟨⟨cl, od, da, sl⟩, e1, e2, nn, e3⟩ := id hl1
    dsimp only at e2 e3
    subst e2
    subst e3
    have k1 := F.sub_list_set
    have k2 := F.sub_list_frozenset
    have k3 : (Value.type "list" == Value.type "dict") = false := by decide
    unfold Builtin.«set.__init__» noKeywords Builtin.Frozenset.updateFrom
    generalize ep : pyIter = PI
    wp_walk
    subst ep
    refine wpAny_pyIter_list hl1 (wpAny_bind (wpAny_runValue ?_))
    refine codeAny_mono (walked (s := s) (E := E) (I := (s.heap.push (bare w)).objs.size) ht room rfl (Walks.list (by simp [hh]) _ l ne its).toS far (fun b z => List.mem_singleton.mp z) (fun i v z => z) ⟨⟨_, Heap.get?_push_size _ rfl, rfl, rfl⟩, hl1.push _⟩) fun r z q => ?_
    match r, q with
    | .error e, q => exact q
    | .ok .next, q => exact q.elim
    | .ok .brk, q => exact q.elim
    | .ok .cont, q => exact q.elim
    | .ok (.ret v), q => exact wpAny_pure (wpAny_pure ⟨rfl, q.2⟩)
  · have lt : l < s.heap.objs.size := by
      obtain ⟨o, h, _⟩ := hl
      exact Heap.lt_size h
    have hl1 : (s.heap.push (bare w)).IsTuple l its := hl.push _
    have ne : l ≠ (s.heap.push (bare w)).objs.size := by
      rw [Heap.size_push]
      exact Nat.ne_of_lt (Nat.lt_succ_of_lt lt)
    have far : s.heap.objs.size ∉ [(s.heap.push (bare w)).objs.size, l] := by
      intro z
      rw [Heap.size_push] at z
      rcases List.mem_cons.mp z with z | z
      · exact absurd z (Nat.ne_of_lt (Nat.lt_succ_self _))
      · exact absurd (List.mem_singleton.mp z) (Nat.ne_of_gt lt)
    obtain ⟨⟨cl, od, da, sl⟩, e1, e2, nn, e3⟩ := id hl1
    dsimp only at e2 e3
    subst e2
    subst e3
    have k1 := F.sub_tuple_set
    have k2 := F.sub_tuple_frozenset
    have k3 : (Value.type "tuple" == Value.type "dict") = false := by decide
    unfold Builtin.«set.__init__» noKeywords Builtin.Frozenset.updateFrom
    generalize ep : pyIter = PI
    wp_walk
    subst ep
    refine wpAny_pyIter_tuple hl1 (wpAny_bind (wpAny_runValue ?_))
    refine codeAny_mono (walked (s := s) (E := E) (I := (s.heap.push (bare w)).objs.size) ht room rfl (Walks.tuple (by simp [hh]) _ l ne its).toS far (fun b z => List.mem_singleton.mp z) (fun i v z => z) ⟨⟨_, Heap.get?_push_size _ rfl, rfl, rfl⟩, hl1.push _⟩) fun r z q => ?_
    match r, q with
    | .error e, q => exact q
    | .ok .next, q => exact q.elim
    | .ok .brk, q => exact q.elim
    | .ok .cont, q => exact q.elim
    | .ok (.ret v), q => exact wpAny_pure (wpAny_pure ⟨rfl, q.2⟩)
theorem set_of {l : Addr} {its : Array Value} {xs : List PySem.Str} {Q : Value → Shared → Prop} (hh : A.handled = none) (hl : Held s.heap l its) (ht : StrsAre its.toList xs) (room : xs.length + 1 < scanBound)
    (q : ∀ h' tk, TSet P w h' s.heap.objs.size xs xs.length → (∀ b o, s.heap.get? b = some o → h'.get? b = some o) → Q (.ref s.heap.objs.size) { s with heap := h', toks := tk }) : wpAny (model P w) A (call (.type "set") [.ref l]) Q E s := by
  obtain ⟨cc, tail, a1⟩ := F.called_set.mro
  have a2 := F.called_set.made
  have a3 := F.called_set.sub
  have a4 := F.called_set.notType
  have a5 := F.called_set.canCreate
  have a6 := F.typeCall_set_1 (.ref l)
  refine wpAny_call (codeAny_of_tree ?_)
  show wpAny _ _ (callAny (.type "set") _) _ _ _
  refine wpAny_pure ⟨Code.quiet_builtin _ (by decide +kernel), (codeAny_builtin F.entry_type_call) ?_⟩
  rw [Around.under_plain (weight_type_call_type "set" [.ref l] []) (rfl)]
  repeat (any_goals (first | (assumption) | (wp_step)))
  refine codeAny_mono (code_set_led1 (.ref l) (E := E) (Q₁ := fun obj z => obj = .ref s.heap.objs.size ∧ z = { s with heap := s.heap.push (bare w) }) ⟨rfl, rfl⟩) fun r z made => ?_
  match r, made with
  | .error e, made => exact made
  | .ok .next, made => exact made.elim
  | .ok .brk, made => exact made.elim
  | .ok .cont, made => exact made.elim
  | .ok (.ret obj), made =>
    obtain ⟨rfl, rfl⟩ := made
    have new : (s.heap.push (bare w)).get? s.heap.objs.size = some (bare w) := Heap.get?_push_size _ rfl
    have b1 : Shared.TypeIs { s with heap := s.heap.push (bare w) } (.ref s.heap.objs.size) "set" := ⟨_, new, rfl⟩
    have b2 := F.called_set.init.lookup
    have b3 := F.called_set.init.bind (.ref s.heap.objs.size)
    repeat (any_goals (first | (assumption) | (wp_step)))
    refine codeAny_mono (codeAny_call_builtin (R := wants (Made P w s xs) E) F.called_set.init.plain F.entry_set_init (check_set_init_1 b1 ?_)) fun r2 z2 q2 => ?_
    · exact made_init (by simp [hh]) hl ht room
    · match r2, q2 with
      | .error e, q2 => exact q2
      | .ok .next, q2 => exact q2.elim
      | .ok .brk, q2 => exact q2.elim
      | .ok .cont, q2 => exact q2.elim
      | .ok (.ret r3), q2 =>
        obtain ⟨rfl, h', tk, rfl, T, old⟩ := q2
        repeat (any_goals (first | (assumption) | (wp_step)))
        exact q h' tk T old
theorem texts_of {es : List (Int × Value)} (el : ElemsOf (PySem.strKind P w) es) : ∀ {vs : List Value}, (∀ v ∈ vs, v ∈ es.map (·.2)) → StrsAre vs (vs.map SrtS.ss)
  | [], _ => .nil
  | v :: r, h => by
    obtain ⟨e, he, q⟩ := List.mem_map.mp (h v List.mem_cons_self)
    obtain ⟨tk, z⟩ := el_tx el he
    rw [z] at q
    subst q
    exact .cons _ tk (texts_of el fun u hu => h u (List.mem_cons_of_mem _ hu))
/-- sorted(a set of texts) -/
theorem in_order {xs : List PySem.Str} {n : Nat} {Q : Value → Shared → Prop} (T : TSet P w s.heap a xs n) (hh : A.handled = none) (room : n < scanBound)
    (q : ∀ z p (out : Array Value) (c : Nat) (ys : List PySem.Str), (∀ b o, s.heap.get? b = some o → z.heap.get? b = some o) → z.gens = s.gens → z.os = s.os → s.heap.objs.size ≤ p →
      z.heap.get? p = some (seqObj "list" out c) → StrsAre out.toList ys → ys.Pairwise (fun x y => SrtS.ltC y x = false) → ys.Nodup → (∀ x, x ∈ ys ↔ x ∈ xs) → ys.length ≤ n → Q (.ref p) z) : wpAny (model P w) A (call (.builtin "sorted") [.ref a]) Q E s := by
  obtain ⟨o, es, ep, t, u1, u2, u3, u4, u5, u6, u7⟩ := T
  have few := u4.few
  refine Calls.call_function_entry kind_sorted plain_sorted entry_sorted (args_sorted1 _) ?_
  unfold Builtin.«sorted»
  refine wpAny_bind (m := checkCount "sorted" 1 1 _) (wpAny_pure ?_)
  refine wpAny_bind (collect_set (A := A.in1) hh ⟨o, u1, u2.1, u3⟩ u5 (show es.size < scanBound by omega) u6 u7 fun z vs y1 y2 y3 y4 pm => ?_)
  have len : vs.length = es.size := by
    have := pm.length_eq
    rwa [List.length_map, Array.length_toList] at this
  have sl : vs.length ≤ sizeLine := by rw [len]; exact fits_of_scanBound (by omega)
  have txs : StrsAre vs (vs.map SrtS.ss) := texts_of u4.el fun v hv => pm.mem_iff.mp hv
  refine wpAny_bind (wpAny_newList ?_ sl)
  have hL : (z.heap.push (seqObj "list" vs.toArray 0)).get? z.heap.objs.size = some (seqObj "list" vs.toArray 0) := Heap.get?_push_size _ rfl
  refine wpAny_bind (wpAny_holding (wpAny_call_entry (slot_list_sort) ⟨_, hL, rfl⟩ (entry_list_sort) (SrtO.list_sort_ord SrtS.swo_str hL sl (fun two => SrtS.strs_sortable txs two) fun out k1 k2 => ⟨_, rfl, ?_⟩) (args_list_sort _)))
  obtain ⟨c, hc⟩ := sortedHeap_at (vs := vs) (out := out.toArray) hL
  obtain ⟨k3, k4, k5⟩ := SrtS.strs_out txs k1 k2
  have same : ∀ e : Int × Value, SrtS.ss e.2 = tx e := fun e => by
    obtain ⟨_, v⟩ := e
    cases v <;> rfl
  have pt : (vs.map SrtS.ss).Perm (es.toList.map tx) := by
    have := pm.map SrtS.ss
    rwa [List.map_map, funext (f := SrtS.ss ∘ fun e : Int × Value => e.2) (g := tx) same] at this
  have po := k4.trans pt
  refine wpAny_pure ⟨_, rfl, q _ z.heap.objs.size out.toArray c (out.map SrtS.ss) (fun b u e => ?_) y3 y4 y2 hc k3 k5 (po.nodup_iff.mpr u4.nd) (fun x => by rw [po.mem_iff, u4.mem x]) (by rw [po.length_eq, List.length_map, Array.length_toList]; exact few)⟩
  have e1 := y1 b u e
  have lt := Heap.lt_size e1
  show (sortedHeap (z.heap.push (seqObj "list" vs.toArray 0)) z.heap.objs.size vs out.toArray).get? b = some u
  rw [sortedHeap_old (Nat.ne_of_lt lt) (by rw [size_push']; exact Nat.lt_succ_of_lt lt)]
  exact Heap.get?_push_of_some _ e1
end
section
variable {X : Cx}
def SetTx (P : Program) (w : World) (a : Addr) (xs : List PySem.Str) (n : Nat) : HO := .ext fun h => TSet P w h a xs n
def rSetTx (K : PySem.W.Frag) (P : Program) (w : World) : List V → Hp → VK → Prop := fun vs H Q => ∃ l xs, vs = [.ref l] ∧ (SqL K H l (xs.map V.str) ∨ SqT K H l (xs.map V.str)) ∧ xs.length + 1 < scanBound ∧ ∀ p, H p = none → Q (.ref p) (upd H p (SetTx P w p xs xs.length))
theorem call_setTx (hc : X.calm = true) : CallR X (.type "set") (rSetTx X.K X.prog X.w) := by
  intro pins s σ H vs us Q I r h
  obtain ⟨l, xs, rfl, hs, room, q⟩ := h
  rw [Vals.ref1 r]
  have go : ∀ its : List Value, Held s.heap l its.toArray → StrsAre its xs → wpAny (model X.prog X.w) X.A (call (.type "set") [.ref l]) (EP X pins σ Q) X.xe s := fun its hl ht =>
    set_of (I.ok.hd hc) hl (by simpa using ht) room fun h' tk T old => ⟨.ref s.heap.objs.size, upd H s.heap.objs.size (SetTx X.prog X.w s.heap.objs.size xs xs.length), I.laid (t' := tk) (fun b o e => old b o e) (Nat.le_refl _) ⟨T, by
      obtain ⟨o, _, _, _, z, _⟩ := T
      exact ⟨o, z⟩, fun _ _ p k => TSet.stays p k⟩, rfl, q _ (I.hok.fresh (Nat.le_refl _))⟩
  rcases hs with hs | hs
  · obtain ⟨its, rv, hl, hz⟩ := I.list hs
    exact go its (.inl hl.isList) rv.strs
  · obtain ⟨its, rv, hl, hz⟩ := I.tuple hs
    exact go its (.inr hl) rv.strs
def rSortTx (P : Program) (w : World) : List V → Hp → VK → Prop := fun vs H Q => ∃ (a : Addr) (xs : List PySem.Str) (n : Nat), vs = [.ref a] ∧ H a = some (SetTx P w a xs n) ∧ n < scanBound ∧
  ∀ (ys : List PySem.Str) (p : Addr), ys.Pairwise (fun x y => SrtS.ltC y x = false) → ys.Nodup → (∀ x, x ∈ ys ↔ x ∈ xs) → ys.length ≤ n → H p = none → Q (.ref p) (upd H p (.lst (ys.map V.str)))
theorem cr_sortTx (hc : X.calm = true) : CallR X (.builtin "sorted") (rSortTx X.prog X.w) := by
  intro pins s σ H vs us Q I r h
  obtain ⟨a, xs, n, rfl, ha, room, q⟩ := h
  rw [Vals.ref1 r]
  refine in_order (I.hok a _ ha).1 (I.ok.hd hc) room fun z p out c ys keep g o hp hg hi k1 k2 k3 k4 => ?_
  have fresh : H p = none := I.hok.fresh hp
  have few : (ys.map V.str).length ≤ sizeLine := by
    rw [List.length_map]
    exact Nat.le_trans k4 (fits_of_scanBound room)
  have J : Inv X pins σ (upd H p (.lst (ys.map V.str))) { s with heap := z.heap, gens := z.gens, drawn := z.drawn, toks := z.toks } :=
    I.call (ch := []) (Un.laid keep hp fresh) (I.hok.laid keep hp ⟨few, out.toList, c, vals_of_strs hi, hg⟩) (by rw [g]; exact I.bare) (fun _ z => nomatch z)
  obtain ⟨zh, zg, zd, zt, zo⟩ := z
  obtain rfl : zo = s.os := o
  exact ⟨.ref p, _, J, rfl, q ys p k1 k2 k3 k4 fresh⟩
end
end StX

end Gk

set_option Elab.async false
set_option linter.all false
set_option maxRecDepth 100000
set_option maxHeartbeats 1000000
set_option pp.maxSteps 1500
namespace Gk
open PySem PySem.Spec PyProof.Rows L2
/-! ### sorted(d) of a dict with texts as keys, any number of them -/
namespace SrtDx
section
variable {X : Cx}
def rSortDx : List V → Hp → VK → Prop := fun vs H Q => ∃ (a : Addr) (kvs : List (Key × V)) (ks : List PySem.Str), vs = [V.ref a] ∧ H a = some (.dK kvs) ∧ kvs.map (·.1) = ks.map Sum.inr ∧
  ∀ (ys : List PySem.Str) (p : Addr), ys.Perm ks → ys.Pairwise (fun x y => SrtS.ltC y x = false) → H p = none → Q (.ref p) (upd H p (.lst (ys.map V.str)))
theorem key_text {k : Key} {x : PySem.Str} {v : Value} (e : k = Sum.inr x) (h : keyIs k v = true) : ∃ t, v = Value.str x t := by
  subst e
  exact Value.isStrOf_shape h
theorem cr_sortedDx (hc : X.calm = true) : CallR X (.builtin "sorted") rSortDx := by
  intro pins s σ H xs us Q I r h
  obtain ⟨a, kvs, ks, rfl, hd, hk, q⟩ := h
  rw [Vals.ref1 r]
  obtain ⟨big, lo, vs, rel, at_⟩ : kvs.length ≤ sizeLine ∧ (a == sysModules) = false ∧ ∃ vs, KV kvs vs ∧ s.heap.DictOf (mixKind X.prog X.w) a vs := I.hok a _ hd
  obtain ⟨ep, at2⟩ := at_.dictAt
  have keys : vs.map (·.1) = ks.map Sum.inr := rel.keys.symm.trans hk
  have len : vs.length = ks.length := by simpa using congrArg List.length keys
  have len2 : kvs.length = ks.length := by simpa using congrArg List.length hk
  refine Calls.call_function_entry (kind_sorted) (plain_sorted) (entry_sorted) (args_sorted1 _) ?_
  unfold Builtin.«sorted»
  refine wpAny_bind (m := checkCount "sorted" 1 1 _) (wpAny_pure ?_)
  refine wpAny_bind (PySem.W.kdu_collect (A := X.A.in1) (PySem.W.kdl_dict (knd := mixKind X.prog X.w) (kvs := vs) (ep := ep) lo) (I.ok.hd hc) at2 (show vs.length ≤ sizeLine by omega) fun h' tk acc old got => ?_)
  have accl : acc.toList.length = ks.length := by rw [Array.length_toList, got.1, len]
  have txs : StrsAre acc.toList ks := strs_at accl fun j v e => by
    obtain ⟨k, x, e1, e2⟩ := got.2 j v (by rw [← Array.getElem?_toList]; exact e)
    have e3 : (ks.map Sum.inr)[j]? = some k := by
      rw [← keys, List.getElem?_map, e1]
      rfl
    rw [List.getElem?_map] at e3
    obtain ⟨y, e4, e5⟩ := Option.map_eq_some_iff.mp e3
    obtain ⟨t, ev⟩ := key_text e5.symm e2
    exact ⟨y, t, e4, ev⟩
  have sl : acc.toList.length ≤ sizeLine := by omega
  have I1 : Inv X pins σ H { s with heap := h', toks := tk } := I.kept old
  refine wpAny_bind (wpAny_newList ?_ sl)
  have hL : (h'.push (seqObj "list" acc.toList.toArray 0)).get? h'.objs.size = some (seqObj "list" acc.toList.toArray 0) := Heap.get?_push_size _ rfl
  refine wpAny_bind (wpAny_holding (wpAny_call_entry (slot_list_sort) ⟨_, hL, rfl⟩ (entry_list_sort) (SrtO.list_sort_ord SrtS.swo_str hL sl (fun two => SrtS.strs_sortable txs two) fun out k1 k2 => ⟨_, rfl, ?_⟩) (args_list_sort _)))
  obtain ⟨c, hcc⟩ := sortedHeap_at (vs := acc.toList) (out := out.toArray) hL
  obtain ⟨k3, k4, k5⟩ := SrtS.strs_out txs k1 k2
  have few : ((out.map SrtS.ss).map V.str).length ≤ sizeLine := by
    rw [List.length_map, k4.length_eq]
    omega
  exact wpAny_pure ⟨_, rfl, .ref h'.objs.size, upd H h'.objs.size (.lst ((out.map SrtS.ss).map V.str)), I1.laid (t' := tk) (fun b u e => by
    have e1 : h'.get? b = some u := e
    have lt := Heap.lt_size e1
    show (sortedHeap (h'.push (seqObj "list" acc.toList.toArray 0)) h'.objs.size acc.toList out.toArray).get? b = some u
    rw [sortedHeap_old (Nat.ne_of_lt lt) (by rw [size_push']; exact Nat.lt_succ_of_lt lt)]
    exact Heap.get?_push_of_some _ e1) (Nat.le_refl _) ⟨few, out, c, vals_of_strs k3, hcc⟩, rfl, q _ _ k4 k5 (I1.hok.fresh (Nat.le_refl _))⟩
end
end SrtDx

end Gk

set_option Elab.async false
set_option linter.all false
set_option maxRecDepth 100000
set_option maxHeartbeats 1000000
set_option pp.maxSteps 1500
set_option pp.deepTerms false
namespace Gk
open PySem PySem.Spec PyProof.Rows L2

section
variable {P : Program} {w : World} {K : PySem.W.Frag} {mg : Str → Option Value} {base : Heap}
/-! ### is_free of anything -/
def covDD (m : Nat) (ps : List (List Nat)) : PyData := .tuple [.int m, .tuple (ps.map fun p => .str (SX.S p))]
theorem sh_strs {H : Hp} : ∀ ps : List (List Nat), ShAll H (pVs ps) (ps.map fun p => PyData.str (SX.S p))
  | [] => .nil
  | p :: r => .cons (.str _) (sh_strs r)
theorem CovAt.sh {H : Hp} {c : Addr} {m : Nat} {ps : List (List Nat)} (h : CovAt H c m ps) : Sh H (.ref c) (covDD m ps) := by
  obtain ⟨t, h1, h2⟩ := h
  exact .tup h1 (.cons (.int _) (.cons (.tup h2 (sh_strs ps)) .nil))
theorem w_strs {m : Nat} : ∀ {ps : List (List Nat)}, CovOk m ps → PyData.weightAll (ps.map fun p => PyData.str (SX.S p)) = (m + 1) * ps.length
  | [], _ => rfl
  | p :: r, h => by
    have := w_strs (ps := r) fun q hq => h q (List.mem_cons_of_mem _ hq)
    show (SX.S p).length + 1 + PyData.weightAll (r.map fun p => PyData.str (SX.S p)) = _
    rw [this, SX.S_len, (h p (List.mem_cons_self ..)).1, List.length_cons, Nat.mul_succ]
    omega
theorem w_cov {m : Nat} {ps : List (List Nat)} (ok : CovOk m ps) (m6 : m ≤ 6) (l : ps.length ≤ 64) : (covDD m ps).weight ≤ 50000 := by
  have h := w_strs ok
  have h2 : (m + 1) * ps.length ≤ 7 * 64 := Nat.mul_le_mul (by omega) l
  have w0 : ((List.range 7).all fun m => decide ((PyData.int (m : Nat)).weight ≤ 3)) = true := by decide +kernel
  have w1 := of_decide_eq_true (List.all_eq_true.mp w0 m (List.mem_range.mpr (by omega)))
  show (PyData.int (m : Nat)).weight + 1 + (PyData.weightAll (ps.map fun p => PyData.str (SX.S p)) + 1 + 0) ≤ 50000
  omega
theorem is_cov {m : Nat} {ps : List (List Nat)} (ok : CovOk m ps) (m1 : 1 ≤ m) (m6 : m ≤ 6) : isCovD (covDD m ps) = true := by
  show (decide ((1 : Int) ≤ m) && (decide ((m : Int) ≤ 6) && (ps.map fun p => PyData.str (SX.S p)).all (isProdD m))) = true
  rw [decide_eq_true (by omega), decide_eq_true (by omega), Bool.true_and, Bool.true_and, List.all_eq_true]
  intro d hd
  obtain ⟨p, hp, rfl⟩ := List.mem_map.mp hd
  have okp := ok p hp
  show (decide (((SX.S p).length : Int) = m) && (SX.S p).cps.toList.all sgB) = true
  rw [decide_eq_true (by rw [SX.S_len, okp.1]), Bool.true_and, List.all_eq_true]
  intro c hc
  have hc' : c ∈ p := by simpa using hc
  have e : (Str.ofString "01-").cps.toList = [48, 49, 45] := by decide +kernel
  unfold sgB
  rw [e]
  rcases okp.2 c hc' with rfl | rfl | rfl <;> decide
def ThC (H : Hp) (v : V) (m : Nat) : Option (List (List Nat)) → Prop
  | some ps => ∃ c, v = .ref c ∧ CovAt H c m ps ∧ CovOk m ps ∧ ps.length ≤ 64
  | none => ∃ d, Sh H v d ∧ d.weight ≤ 50000 ∧ (isCovD d = false ∨ ∃ (m' : Int) (b : PyData), m' ≠ m ∧ d = .tuple [.int m', b])
def freeO (m : Nat) (bs : List Bool) (cs : List Ch) : Option (List (List Nat)) → Bool
  | some ps => freeM m bs cs ps
  | none => false
theorem free_set {m : Nat} {bs : List Bool} {cs : List Ch} (ok : WishOk m bs cs) {ps : List (List Nat)} (okp : CovOk m ps) : freeO m bs cs (some ps) = freeM m bs cs ((prodsU m).filter fun p => decide (p ∈ ps)) := by
  have mem : ∀ p, p ∈ ps ↔ p ∈ (prodsU m).filter fun p => decide (p ∈ ps) := fun p => by
    rw [List.mem_filter, decide_eq_true_eq]
    exact ⟨fun h => ⟨prodsU_mem (okp p h), h⟩, fun h => h.2⟩
  show freeM m bs cs ps = _
  unfold freeM
  congr 1
  · exact congrArg (fun f => (rowsI m).all f) (funext fun r => by rw [told_same mem r])
  · exact congrArg (fun f => cs.all f) (funext fun c => by rw [fro_same mem c.1 c.2])
def sp_is_free (T : Tx K mg) : Sp := fun vs H Q _ => ∃ (wa : Addr) (v : V) (m : Nat) (bs : List Bool) (cs : List Ch) (z : Option (List (List Nat))), vs = [.ref wa, v] ∧ Tk H (.ref wa) (wishD m bs cs) ∧ WishOk m bs cs ∧ ThC H v m z ∧ Tabs H T.tabs ∧ ∀ H', Gr H H' → Q (.bl (freeO m bs cs z)) H'
theorem ok_is_free (T : Tx K mg) (B : Tb base T) : FnOk P w K mg base CX0 9 T.f_is_free T.fd_is_free ["wish", "cover"] (sp_is_free T) := by
  refine okC T.F_is_free sc_is_free (fun vs H Q E h => ?_) (fun A outer s H vs Q E hr h => ?_)
  · obtain ⟨wa, v, m, bs, cs, z, rfl, _⟩ := h
    rfl
  · obtain ⟨wa, v, m, bs, cs, z, rfl, tw, ok, tz, tabs, q⟩ := h
    obtain ⟨_, t, xs, e, hw, ht, tx⟩ := tw.wish_inv
    cases e
    have m1 := ok.m1
    have m4 := ok.m4
    have lb := ok.lb
    refine ⟨_, (pss_cons (ps_asg (pv 0) (pg_tup rfl (pgs_cons (pg_name (i := 2) sc_is_free.nd rfl (by first | exact .inl rfl | exact .inr rfl)) (pgs_cons (pg_name (i := 3) sc_is_free.nd rfl (by first | exact .inl rfl | exact .inr rfl)) (pgs_cons (pg_name (i := 4) sc_is_free.nd rfl (by first | exact .inl rfl | exact .inr rfl)) pgs_nil))))) (pss_cons (ps_if (pw_or (pt_not (pt_val (pe_call (ok_is_cover T B) (hr.mono (by decide)) (by rfl) T.g_is_cover T.F_is_cover.kp T.b_is_cover .nil pass0 (pa_cons (pv 1) pa_nil)))) (pw_or1 (pt_cmpR op_ne (pe_ix ix_tup (pv 1) pe_int (fun _ _ => rfl)) (pv 2) (nomark _)))).pt (pss_one (ps_ret pe_bl)) pss_nil) (pss_cons (ps_set (i := 5) sc_is_free.nd rfl (by first | exact .inl rfl | exact .inr rfl) (pe_tup (pa_cons (pv 2) (pa_cons (pe_callTy call_tuple_of (by rfl) T.m_tuple (by decide +kernel) (pa_cons (pe_callB (StX.cr_sortTx rfl : CallR _ _ (StX.rSortTx P w)) (by rfl) T.m_sorted (by decide +kernel) (pa_cons (pe_callTy (StX.call_setTx rfl : CallR _ _ (StX.rSetTx K P w)) (by rfl) T.m_set (by decide +kernel) (pa_cons (pe_ix ix_tup (pv 1) pe_int (fun _ _ => rfl)) pa_nil)) pa_nil)) pa_nil)) pa_nil)))) (pss_cons (ps_if (pt_not (pt_val (pe_allX (own := [("row", 6), ("sign", 7)]) (k := 5) (hr.mono (by decide)) rfl sc_is_free.nd (by rfl) T.m_all (by decide +kernel) B.TB_is_free T.cd_is_free rfl rfl (by decide +kernel) (blkOk_by (own := [("row", 6), ("sign", 7)]) (N := ["wish", "cover", "many", "table", "changes", "plain", "row", "sign", "change"]) (sc := defScope s_is_free) (by decide +kernel)) (ZpG.pi_zip2 (by rfl) T.m_zip (pa_cons (pe_call (ok_rows_of T) (hr.mono (by decide)) (by rfl) T.g_rows_of T.F_rows_of.kp T.b_rows_of .nil pass0 (pa_cons (pv 2) pa_nil)) (pa_cons (pv 3) pa_nil))) (fun _ _ _ _ _ _ _ hr gd => (show PG _ _ (gTup K 2 _) from pg_tup rfl (pgs_cons (pg_name (i := 6) sc_is_free.nd rfl (by first | exact .inl rfl | exact .inr rfl)) (pgs_cons (pg_name (i := 7) sc_is_free.nd rfl (by first | exact .inl rfl | exact .inr rfl)) pgs_nil)))) (fun _ _ _ _ _ _ _ hr gd => pts_nil) (fun _ _ _ _ _ _ _ hr gd => (pe_cmpR op_eq (pe_call (ok_told_of T B) (hr.mono (by decide)) (by rfl) T.g_told_of T.F_told_of.kp T.b_told_of .nil pass0 (pa_cons (pv 5) (pa_cons (pv 6) pa_nil))) (pe_callTy call_int_str (by rfl) T.m_int (by decide +kernel) (pa_cons (pv 7) pa_nil)) (nomark _))) (fun _ => rfl)))) (pss_one (ps_ret pe_bl)) pss_nil) (pss_one (ps_ret (pe_not (pe_anyX (own := [("change", 8)]) (k := 7) (hr.mono (by decide)) rfl sc_is_free.nd (by rfl) T.m_any (by decide +kernel) B.TB_is_free T.cd_is_free rfl rfl (by decide +kernel) (blkOk_by (own := [("change", 8)]) (N := ["wish", "cover", "many", "table", "changes", "plain", "row", "sign", "change"]) (sc := defScope s_is_free) (by decide +kernel)) (pi_tup (pv 4)) (fun _ _ _ _ _ _ _ hr gd => (pg_name (i := 8) sc_is_free.nd rfl (by first | exact .inl rfl | exact .inr rfl))) (fun _ _ _ _ _ _ _ hr gd => pts_nil) (fun _ _ _ _ _ _ _ hr gd => (pe_ix (show IxR _ (rIxT K) from ix_tup) (pe_call (ok_cover_word T B) (hr.mono (by decide)) (by rfl) T.g_cover_word T.F_cover_word.kp T.b_cover_word .nil pass0 (pa_cons (pv 5) (pa_cons (pv 8) pa_nil))) pe_int (fun _ _ => rfl))) (fun _ => rfl))))))))), ?_⟩
    have tab0 : GxR.TabG H T.P_is_product := tabs _ (by simp [Tx.tabs])
    have tab1 : GxR.TabG H T.P_is_cover := tabs _ (by simp [Tx.tabs])
    refine ⟨.ref wa, rfl, wa, _, rfl, SqT.of hw, rfl, _, _, rfl, _, _, rfl, _, _, rfl, rfl, ?_⟩
    first | (show (_ : L2.St → Hp → Prop) [some (.ref wa), some (v), some (.int m), some (.str (tabOf bs)), some (.ref t), none, none, none, none] H) | (unfold gName; show (_ : L2.St → Hp → Prop) [some (.ref wa), some (v), some (.int m), some (.str (tabOf bs)), some (.ref t), none, none, none, none] H) | (dsimp only; show (_ : L2.St → Hp → Prop) [some (.ref wa), some (v), some (.int m), some (.str (tabOf bs)), some (.ref t), none, none, none, none] H) | (dsimp only [gName]; show (_ : L2.St → Hp → Prop) [some (.ref wa), some (v), some (.int m), some (.str (tabOf bs)), some (.ref t), none, none, none, none] H)
    cases z with
    | none =>
      obtain ⟨d, sh, wt, bad⟩ := tz
      refine ⟨v, rfl, v, d, rfl, sh, wt, tab0, tab1, fun H1 g1 => ⟨_, rfl, ite2 (fun e => q H1 g1) (fun e => ?_)⟩⟩
      rcases bad with e0 | ⟨m', b, ne, rfl⟩
      · rw [e0] at e
        exact absurd rfl e
      · cases sh with
        | @tup a xs _ h tt =>
          cases tt with
          | @cons x0 _ _ _ t0 t1 =>
            cases t0
            refine ⟨.ref a, rfl, a, _, 0, .int m', rfl, rfl, SqT.of (g1.tup h), atI_nat (j := 0) rfl, .int m, rfl, rfl, _, rfl, ite2 (fun _ => q H1 g1) (fun e2 => ?_)⟩
            refine absurd ?_ e2
            show (!decide (V.int m' = V.int m)) = true
            rw [decide_eq_false (fun z => ne (V.int.inj z))]
            rfl
    | some ps =>
      obtain ⟨c, rfl, ca, okp, l64⟩ := tz
      obtain ⟨pt, hc, hpt⟩ := id ca
      have m6 : m ≤ 6 := by omega
      refine ⟨.ref c, rfl, .ref c, covDD m ps, rfl, ca.sh, w_cov okp m6 l64, tab0, tab1, fun H1 g1 => ?_⟩
      rw [is_cov okp m1 m6]
      refine ⟨_, rfl, iteF ?_⟩
      refine ⟨.ref c, rfl, c, _, 0, .int m, rfl, rfl, SqT.of (g1.tup hc), rfl, .int m, rfl, rfl, _, rfl, ite2 (fun e => ?_) (fun _ => ?_)⟩
      · exfalso
        have : (!decide (V.int (m : Int) = V.int m)) = true := e
        rw [decide_eq_true rfl] at this
        cases this
      have hpt1 : H1 pt = some (.tup ((ps.map SX.S).map V.str)) := by rw [← pVs_S]; exact g1.tup hpt
      refine ⟨.int m, rfl, .ref c, rfl, c, _, 1, .ref pt, rfl, rfl, SqT.of (g1.tup hc), rfl, pt, ps.map SX.S, rfl, .inr (SqT.of hpt1), ?_, fun S nS => ?_⟩
      · rw [List.length_map]
        exact Nat.lt_of_lt_of_le (show _ < 128 by omega) (by decide)
      refine ⟨S, ps.map SX.S, _, rfl, upd_same, ?_, fun zs p st nd mem few np => ?_⟩
      · rw [List.length_map]
        exact Nat.lt_of_lt_of_le (show _ < 128 by omega) (by decide)
      have ez := asked_uniq m4 okp st nd mem
      rw [free_set ok okp] at q
      have okq : CovOk m ((prodsU m).filter fun p => decide (p ∈ ps)) := fun p hp => prodsU_ok p (List.mem_filter.mp hp).1
      have lq := Nat.le_trans (List.length_filter_le (fun p => decide (p ∈ ps)) (prodsU m)) (prodsU_81 m4)
      revert ez okq q lq
      generalize (prodsU m).filter (fun p => decide (p ∈ ps)) = qs
      intro q ez okq lq
      rw [ez, ← pVs_S]
      have hp : upd (upd H1 S (StX.SetTx P w S (ps.map SX.S) (ps.map SX.S).length)) p (HO.lst (pVs qs)) p = some (.lst (pVs qs)) := upd_same
      refine ⟨p, _, rfl, .inl ⟨SqL.of hp, fun u nu => ?_⟩⟩
      refine ⟨sl2, fun pl npl => ?_⟩
      have g2 : Gr H (upd (upd (upd (upd H1 S (StX.SetTx P w S (ps.map SX.S) (ps.map SX.S).length)) p (HO.lst (pVs qs))) u (HO.tup (pVs qs))) pl (HO.tup [.int m, .ref u])) := (((g1.trans (Gr.none nS)).trans (Gr.none np)).trans (Gr.none nu)).trans (Gr.none npl)
      have cq : CovAt (upd (upd (upd (upd H1 S (StX.SetTx P w S (ps.map SX.S) (ps.map SX.S).length)) p (HO.lst (pVs qs))) u (HO.tup (pVs qs))) pl (HO.tup [.int m, .ref u])) pl m qs := ⟨u, upd_same, same_upd npl _ _ upd_same⟩
      revert g2 cq
      generalize upd (upd (upd (upd H1 S (StX.SetTx P w S (ps.map SX.S) (ps.map SX.S).length)) p (HO.lst (pVs qs))) u (HO.tup (pVs qs))) pl (HO.tup [.int m, .ref u]) = H2
      intro g2 cq
      first | (show (_ : L2.St → Hp → Prop) [some (.ref wa), some (.ref c), some (.int m), some (.str (tabOf bs)), some (.ref t), some (.ref pl), none, none, none] H2) | (unfold gName; show (_ : L2.St → Hp → Prop) [some (.ref wa), some (.ref c), some (.int m), some (.str (tabOf bs)), some (.ref t), some (.ref pl), none, none, none] H2) | (dsimp only; show (_ : L2.St → Hp → Prop) [some (.ref wa), some (.ref c), some (.int m), some (.str (tabOf bs)), some (.ref t), some (.ref pl), none, none, none] H2) | (dsimp only [gName]; show (_ : L2.St → Hp → Prop) [some (.ref wa), some (.ref c), some (.int m), some (.str (tabOf bs)), some (.ref t), some (.ref pl), none, none, none] H2)
      refine ⟨.int m, rfl, m, rfl, m1, by omega, fun r H3 s3 tr => ?_⟩
      obtain ⟨_, rs, e, hr3, trs⟩ := tr.tup_inv
      cases e
      have lrs : rs.length = 2 ^ m := by
        have := trs.length
        rw [List.length_map] at this
        rw [this, rowsI_len (by omega)]
      have g3 := g2.trans (Gr.of s3)
      have g23 : Gr H2 H3 := Gr.of s3
      have tab3 : GxR.TabG H3 T.P_is_free := g3.tabs tabs _ (by simp [Tx.tabs])
      refine ⟨.str (tabOf bs), rfl, .tu r, .tx (tabOf bs), rs, _, rfl, SqT.of hr3, at_tx (bs.map bitS), tab3, fun H4 tb4 => ?_⟩
      have g34 := Gr.tab tab3 tb4
      refine ZpG.gx_zip2 (K := K) (n := 2 ^ m) lrs (by rw [List.length_map, List.length_map, lb]) (fun j _ H' => Gr H3 H' ∧ ((rowsI m).take j).all (fun r => decide (toldM qs r = oneB bs r)) = true) ⟨g34, rfl⟩ (fun j _ H' _ z => ⟨SqT.of (z.1.tup hr3), at_tx (bs.map bitS)⟩) ?_ ?_
      · rintro j x1 x2 Tq _ H5 h1 h2 nT ⟨g5, ih⟩
        obtain ⟨ra, rw', rfl, hrw, hra⟩ := Tk.row_at trs h1
        obtain ⟨ch, hch, rfl⟩ := one_at h2
        rw [List.getElem?_map] at hch
        obtain ⟨b, hb, rfl⟩ := Option.map_eq_some_iff.mp hch
        obtain ⟨lr, or⟩ := rowsI_ok (by omega) rw' (List.mem_of_getElem? hrw)
        have eb := row_gate m6 hrw hb
        have gT := g5.trans (Gr.none (o := .tup [V.ref ra, .str (one (bitS b))]) nT)
        refine ⟨Tq, _, rfl, SqT.of upd_same, rfl, _, _, rfl, _, _, rfl, rfl, ?_⟩
        refine ⟨rfl, .ref pl, rfl, .ref ra, rfl, pl, ra, m, qs, rw', rfl, cq.gr (g23.trans gT), okq, gT.tup hra, or, lr, by omega, (g3.trans gT).tabs tabs, fun H6 g6 => ?_⟩
        have hS : intText? (one (bitS b)) = some (if b = true then 1 else 0) := by cases b <;> decide +kernel
        refine ⟨.str (one (bitS b)), rfl, one (bitS b), _, rfl, hS, (by show 1 ≤ 640; decide), rfl, _, rfl, ?_⟩
        have ev : decide (V.int (bI (toldM qs rw')) = V.int (if b = true then 1 else 0)) = decide (toldM qs rw' = oneB bs rw') := by
          rw [eb]
          cases toldM qs rw' <;> cases b <;> rfl
        rw [ev]
        refine ite2 (fun e => ⟨gT.trans g6, all_takeD hrw ih e⟩) (fun e => ?_)
        refine ⟨false, rfl, ?_⟩
        have z := q H6 ((g3.trans gT).trans g6)
        unfold freeM at z
        rw [all_stopD hrw e, Bool.false_and] at z
        exact z
      · rintro _ H5 ⟨g5, ih⟩
        have lr : (rowsI m).take (2 ^ m) = rowsI m := List.take_of_length_le (by rw [rowsI_len (by omega)]; exact Nat.le_refl _)
        rw [lr] at ih
        refine ⟨true, rfl, ?_⟩
        have g05 := g3.trans g5
        have lx := tx.length
        rw [List.length_map] at lx
        refine ⟨.ref t, rfl, t, rfl, ⟨_, SqT.of (g05.tup ht)⟩, g05.tabs tabs _ (by simp [Tx.tabs]), fun H6 tb6 => ?_⟩
        have g6 := Gr.tab (g05.tabs tabs T.P_is_free (by simp [Tx.tabs])) tb6
        refine gx_tup (K := K) (a := t) (xs := xs) (fun j _ H' => Gr H5 H' ∧ (cs.take j).all (fun c => !froB qs c.1 c.2) = true) ⟨g6, rfl⟩ (fun j _ H' _ z => SqT.of ((g05.trans z.1).tup ht)) ?_ ?_
        · rintro j x _ H7 hx ⟨g7, ih7⟩
          obtain ⟨c0, hc0, tc⟩ := tx.at hx
          have g07 := g05.trans g7
          obtain ⟨ca', rfl, hca⟩ := ChAt.of_tk (tc.gr g07)
          have okc := ok.oc c0 (List.mem_of_getElem? hc0)
          refine ⟨rfl, .ref pl, rfl, .ref ca', rfl, pl, ca', m, qs, c0.1, c0.2, rfl, cq.gr ((g23.trans g5).trans g7), okq, hca, okc, g07.tabs tabs, fun rr H8 g8 trr => ?_⟩
          obtain ⟨_, ys, e, hrr, ty⟩ := trr.tup_inv
          cases e
          cases ty with | cons y1 ty => cases ty with | cons y2 ty => cases ty with | cons y3 ty =>
          cases ty
          cases y3
          refine ⟨rr, _, 2, .bl (froM qs c0.1 c0.2), rfl, rfl, SqT.of hrr, atI_nat (j := 2) rfl, _, rfl, ?_⟩
          rw [fro_B]
          refine ite2 (fun e => ⟨_, rfl, ?_⟩) (fun e => ⟨g7.trans g8, all_takeD hc0 ih7 (by rw [Bool.eq_false_iff.mpr e]; rfl)⟩)
          have z := q H8 (g07.trans g8)
          unfold freeM at z
          rw [all_stopD hc0 (show ¬ (!froB qs c0.1 c0.2) = true by rw [e]; decide), Bool.and_false] at z
          exact z
        · rintro _ H7 ⟨g7, ih7⟩
          rw [lx, List.take_length] at ih7
          refine ⟨_, rfl, ?_⟩
          have z := q H7 (g05.trans g7)
          unfold freeM at z
          rw [ih, ih7] at z
          exact z

end
end Gk

set_option Elab.async false
set_option linter.all false
set_option maxRecDepth 100000
set_option maxHeartbeats 1000000
set_option pp.maxSteps 1500
set_option pp.deepTerms false
namespace Gk
open PySem PySem.Spec PyProof.Rows L2

section
variable {P : Program} {w : World} {K : PySem.W.Frag} {mg : Str → Option Value} {base : Heap}
/-! ### the greatest of those allowed: the law's own -/
def sp_inside (K : PySem.W.Frag) : Sp := fun vs H Q _ => ∃ (m : Nat) (p q' : List Nat), vs = [.str (SX.S p), .str (SX.S q')] ∧ p.length = m ∧ q'.length = m ∧ m ≤ 6 ∧ ∀ H', Same H H' → Q (.bl (hall p q')) H'
theorem ok_inside (T : Tx K mg) : FnOk P w K mg base CX0 1 T.f_inside T.fd_inside ["_law_product_here", "_law_other"] (sp_inside K) := by
  refine T.F_inside.ok sc_inside (fun vs H Q E h => ?_) (fun cdv A outer s H vs Q E hr h => ?_)
  · obtain ⟨m, p, q', rfl, _⟩ := h
    rfl
  · obtain ⟨m, p, q', rfl, lp, lq, m6, q⟩ := h
    refine ⟨_, (pss_one (ps_ret (pe_cmpR (op_eqD hr.units) (pe_lc (own := [("_law_k", 2)]) (by rfl) sc_inside.nd (pi_range1 (by rfl) T.m_range (pa_cons (pe_callB call_len_str (by rfl) T.m_len PySem.boot_len (pa_cons (pv 1) pa_nil)) pa_nil)) (blkOk_by (own := [("_law_k", 2)]) (N := ["_law_product_here", "_law_other", "_law_k"]) (sc := defScope s_inside) (by decide +kernel)) (fun _ _ _ _ _ => (pg_name (i := 2) sc_inside.nd rfl (by first | exact .inl rfl | exact .inr rfl))) (fun _ _ _ _ _ => (pts_one (pt_cmpR (show OpR _ _ (rIn K true) from op_notIn_seq) (pe_item_str (pv 0) (pv 2) (fun _ _ => rfl)) (pe_tup (pa_cons pe_str (pa_cons (pe_item_str (pv 1) (pv 2) (fun _ _ => rfl)) pa_nil))) rfl))) (fun _ _ _ _ _ => (pv 2))) (pe_lst pa_nil) (nomark _)))), ?_⟩
    refine ⟨.str (SX.S q'), rfl, _, rfl, ?_, ?_⟩
    · rw [SX.S_len, lq]
      exact Nat.le_trans (show m ≤ 64 by omega) (by decide)
    rw [SX.S_len, lq]
    refine ⟨(m : Int), rfl, by omega, by omega, fun L nL => ?_⟩
    refine lc_range (lo := 0) (n := (m : Int).toNat) (fun j H' => Same H (hd1 L H') ∧ ∃ bad : List Int, H' L = some (.lst (bad.map V.int)) ∧ bad.length ≤ j ∧ bad.isEmpty = ((p.zip q').take j).all fun z => decide (z.1 = 45) || decide (z.1 = z.2)) ⟨hd1_of (same_upd nL) nL, [], upd_same, Nat.le_refl _, rfl⟩ ?_ ?_
    · rintro j H1 hj ⟨s1, bad, hL, lb, ih⟩
      have hj' : j < m := by simpa using hj
      have hc : p[j]? = some (p[j]'(by omega)) := List.getElem?_eq_getElem _
      have hx : q'[j]? = some (q'[j]'(by omega)) := List.getElem?_eq_getElem _
      revert hc hx
      generalize p[j]'(by omega) = c
      generalize q'[j]'(by omega) = x
      intro hc hx
      have ez := zip_take_succ hc hx
      have at_ : ∀ {l : List Nat} {y : Nat}, l[j]? = some y → (SX.S l).cps[(0 + (j : Int)).toNat]? = some y := fun {l y} h => by
        rw [show (0 + (j : Int)).toNat = j by omega]
        show l.toArray[j]? = some y
        rw [List.getElem?_toArray]
        exact h
      have h0 : (0 : Int) ≤ 0 + (j : Int) := by omega
      have h63 : 0 + (j : Int) < 2 ^ 63 := by omega
      have hp : 0 + (j : Int) < (SX.S p).length := by rw [SX.S_len]; omega
      have hq : 0 + (j : Int) < (SX.S q').length := by rw [SX.S_len]; omega
      refine ⟨rfl, .str (SX.S p), rfl, .int (0 + (j : Int)), rfl, SX.S p, 0 + (j : Int), c, rfl, rfl, h0, h63, hp, at_ hc, .str (SX.S q'), rfl, .int (0 + (j : Int)), rfl, SX.S q', 0 + (j : Int), x, rfl, rfl, h0, h63, hq, at_ hx, sl2, fun t nt => ?_⟩
      have st := same_upd (o := HO.tup [V.str (Str.ofString "-"), V.str (one x)]) nt
      refine ⟨t, _, rfl, .inr (SqT.of upd_same), rfl, rfl, _, rfl, ?_⟩
      have sL := s1.trans (hd1_same (p := L) st)
      have nin := not_in_two c x
      refine ite2 (fun e => ?_) (fun e => ?_)
      · have e' : (decide (c = 45) || decide (c = x)) = false := by
          have := nin.symm.trans e
          simpa using this
        refine ⟨.int (0 + (j : Int)), rfl, _, st _ _ hL, ?_, sL.trans hd1_upd, bad ++ [0 + (j : Int)], by rw [upd_same, List.map_append]; rfl, by rw [List.length_append]; exact Nat.succ_le_succ lb, ?_⟩
        · rw [List.length_map]
          exact Nat.lt_of_lt_of_le (show _ < 64 by omega) (by decide)
        · rw [ez, List.all_append]
          show _ = (_ && ((decide (c = 45) || decide (c = x)) && true))
          rw [e', Bool.false_and, Bool.and_false]
          cases bad <;> rfl
      · have e' : (decide (c = 45) || decide (c = x)) = true := by
          cases hh : (decide (c = 45) || decide (c = x)) with
          | true => rfl
          | false => exact absurd (nin.trans (by rw [hh]; rfl)) e
        refine ⟨sL, bad, st _ _ hL, by omega, ?_⟩
        rw [ez, List.all_append, ih]
        show _ = (_ && ((decide (c = 45) || decide (c = x)) && true))
        rw [e']
        simp
    · rintro H1 ⟨s1, bad, hL, lb, ih⟩
      have s1' : Same H H1 := fun b o e => hd1_le _ _ (s1 _ _ e)
      refine ⟨Nat.zero_le _, fun e ne => ?_⟩
      have s2 := same_upd (o := HO.lst []) ne
      refine ⟨.list (bad.map .int), .list [], .lst (SqL.of (s2 _ _ hL)) (dpInts bad), .lst (SqL.of upd_same) .nil, shInts bad, rfl, ?_⟩
      rw [eq_nilI, ih]
      have : (p.zip q').length ≤ (m : Int).toNat := by rw [List.length_zip]; omega
      rw [List.take_of_length_le this]
      exact q _ (s1'.trans s2)
/-! ### what is asked: the law's own -/
theorem hdK {H : Hp} {D b : Addr} {o : HO} {kvs : List (Key × V)} (e : H D = some (.dK kvs)) (h : H b = some o) (n : ∀ kvs, o ≠ .dK kvs) : hd1 D H b = some o := by
  have ne : b ≠ D := fun z => by
    rw [z, e] at h
    exact n kvs (Option.some.inj h).symm
  unfold hd1
  rw [if_neg ne]
  exact h
mutual
theorem Tk.hdK {H : Hp} {D : Addr} {kvs : List (Key × V)} (e : H D = some (.dK kvs)) : ∀ {v : V} {d : PyData}, Tk H v d → Tk (hd1 D H) v d
  | _, _, .bl b => .bl b
  | _, _, .int i => .int i
  | _, _, .str x => .str x
  | _, _, .lst h t => .lst (Gk.hdK e h fun _ z => by cases z) (t.hdK e)
  | _, _, .tup h t => .tup (Gk.hdK e h fun _ z => by cases z) (t.hdK e)
theorem TkAll.hdK {H : Hp} {D : Addr} {kvs : List (Key × V)} (e : H D = some (.dK kvs)) : ∀ {vs : List V} {ds : List PyData}, TkAll H vs ds → TkAll (hd1 D H) vs ds
  | _, _, .nil => .nil
  | _, _, .cons h t => .cons (h.hdK e) (t.hdK e)
end
theorem any_key {kvs : List (Key × V)} {k : Key} : (kvs.any fun kv => decide (kv.1 = k)) = true ↔ k ∈ kvs.map (·.1) := by
  rw [List.any_eq_true, List.mem_map]
  exact ⟨fun ⟨x, h, y⟩ => ⟨x, h, of_decide_eq_true y⟩, fun ⟨x, h, y⟩ => ⟨x, h, decide_eq_true y⟩⟩
theorem putK_old {kvs : List (Key × V)} {k : Key} {v : V} (h : k ∈ kvs.map (·.1)) : (putK kvs k v).map (·.1) = kvs.map (·.1) := by
  unfold putK
  rw [if_pos (any_key.mpr h), List.map_map]
  refine List.map_congr_left fun x _ => ?_
  show (if x.1 = k then (x.1, v) else x).1 = x.1
  split <;> rfl
theorem putK_more {kvs : List (Key × V)} {k : Key} {v : V} (h : ¬ k ∈ kvs.map (·.1)) : (putK kvs k v).map (·.1) = kvs.map (·.1) ++ [k] := by
  unfold putK
  rw [if_neg (fun z => h (any_key.mp z)), List.map_append]
  rfl
theorem kTT' : kitB "tuple" "tuple" = some true := by decide +kernel
theorem kSS' : kitB "str" "str" = some true := by decide +kernel
/-- a dict whose keys are just the texts of l, each once -/
def Askd (l : List (List Nat)) (kvs : List (Key × V)) : Prop := ∃ ks : List Str, kvs.map (·.1) = ks.map Sum.inr ∧ ks.Nodup ∧ (∀ x, x ∈ ks ↔ x ∈ l.map SX.S) ∧ ks.length ≤ l.length
theorem Askd.few {l : List (List Nat)} {kvs : List (Key × V)} (h : Askd l kvs) : kvs.length ≤ l.length := by
  obtain ⟨ks, e, _, _, f⟩ := h
  have := congrArg List.length e
  rw [List.length_map, List.length_map] at this
  omega
theorem Askd.put {l : List (List Nat)} {kvs : List (Key × V)} (h : Askd l kvs) (p : List Nat) (v : V) : Askd (l ++ [p]) (putK kvs (.inr (SX.S p)) v) := by
  obtain ⟨ks, e, nd, mem, few⟩ := h
  unfold Askd
  have e2 : (Sum.inr (SX.S p) : Key) ∈ ks.map Sum.inr ↔ SX.S p ∈ ks := by
    rw [List.mem_map]
    exact ⟨fun ⟨x, h, y⟩ => by rw [← Sum.inr.inj y]; exact h, fun h => ⟨_, h, rfl⟩⟩
  by_cases z : SX.S p ∈ ks
  · refine ⟨ks, by rw [putK_old (by rw [e]; exact e2.mpr z), e], nd, fun x => ?_, by rw [List.length_append]; omega⟩
    rw [List.map_append, List.mem_append, ← mem x]
    exact ⟨.inl, fun h => h.elim id fun y => by rw [List.mem_singleton.mp y]; exact z⟩
  · refine ⟨ks ++ [SX.S p], by rw [putK_more (by rw [e]; exact fun y => z (e2.mp y)), e, List.map_append]; rfl, ?_, fun x => ?_, by rw [List.length_append, List.length_append]; exact Nat.add_le_add_right few 1⟩
    · rw [List.nodup_append]
      exact ⟨nd, List.nodup_cons.mpr ⟨by simp, List.nodup_nil⟩, fun y hy w hw e => z (by rw [List.mem_singleton.mp hw] at e; exact e ▸ hy)⟩
    · rw [List.map_append, List.mem_append, List.mem_append, ← mem x]
      rfl
theorem cube_self : ∀ {r : List Int}, cubeM r r = rowS r := by
  intro r
  unfold cubeM rowS
  induction r with
  | nil => rfl
  | cons x t ih =>
    rw [List.zip_cons_cons, List.map_cons, List.map_cons, ih]
    simp
theorem askd_snoc {f : List Int → Bool} {l : List (List Int)} {j : Nat} {x : List Int} (h : l[j]? = some x) : ((l.take (j + 1)).filter f).map rowS = ((l.take j).filter f).map rowS ++ (if f x = true then [rowS x] else []) := by
  rw [filter_snoc h, List.map_append]
  split <;> rfl
def sp_asked (K : PySem.W.Frag) : Sp := fun vs H Q _ => ∃ (wa : Addr) (m : Nat) (bs : List Bool) (cs : List Ch), vs = [.ref wa] ∧ Tk H (.ref wa) (wishD m bs cs) ∧ WishOk m bs cs ∧ ∀ r H', H r = none → Same H H' → H' r = some (.lst (pVs (askedM m bs cs))) → Q (.ref r) H'
theorem ok_asked (T : Tx K mg) : FnOk P w K mg base CX0 2 T.f_asked T.fd_asked ["_law_wish_here"] (sp_asked K) := by
  refine T.F_asked.ok sc_asked (fun vs H Q E h => ?_) (fun cdv A outer s H vs Q E hr h => ?_)
  · obtain ⟨wa, m, bs, cs, rfl, _⟩ := h
    rfl
  · obtain ⟨wa, m, bs, cs, rfl, tw, ok, q⟩ := h
    obtain ⟨_, t, xs, e, hw, ht, tx⟩ := tw.wish_inv
    cases e
    have m1 := ok.m1
    have m4 := ok.m4
    have lb := ok.lb
    have lc := ok.lc
    refine ⟨_, (pss_cons (ps_set (i := 1) sc_asked.nd rfl (by first | exact .inl rfl | exact .inr rfl) pe_dnewK) (pss_cons (ps_for PassesOwn.never rfl (pi_list (pe_call (ok_rows T) (hr.mono (by decide)) (by rfl) T.g_rows T.F_rows.kp T.b_rows .nil pass0 (pa_cons (pe_ix ix_tup (pv 0) pe_int (fun _ _ => rfl)) pa_nil))) (pg_name (i := 2) sc_asked.nd rfl (by first | exact .inl rfl | exact .inr rfl)) (pss_one (ps_if (pt_cmpR op_eq (pe_call (ok_worth T) (hr.mono (by decide)) (by rfl) T.g_worth T.F_worth.kp T.b_worth .nil pass0 (pa_cons (pv 0) (pa_cons (pv 2) pa_nil))) pe_int (nomark _)) (pss_one (ps_dput (hu_of hr) (pv 1) (pe_call (ok_cube T) (hr.mono (by decide)) (by rfl) T.g_cube T.F_cube.kp T.b_cube .nil pass0 (pa_cons (pv 2) (pa_cons (pv 2) pa_nil))) pe_bl rfl)) pss_nil))) (pss_cons (ps_for PassesOwn.never rfl (pi_tup (pe_ix ix_tup (pv 0) pe_int (fun _ _ => rfl))) (pg_tup rfl (pgs_cons (pg_name (i := 3) sc_asked.nd rfl (by first | exact .inl rfl | exact .inr rfl)) (pgs_cons (pg_name (i := 4) sc_asked.nd rfl (by first | exact .inl rfl | exact .inr rfl)) pgs_nil))) (pss_one (ps_if (pw_and (pt_cmpR op_eq (pe_call (ok_worth T) (hr.mono (by decide)) (by rfl) T.g_worth T.F_worth.kp T.b_worth .nil pass0 (pa_cons (pv 0) (pa_cons (pv 3) pa_nil))) pe_int (nomark _)) (pw_and1 (pt_cmpR op_eq (pe_call (ok_worth T) (hr.mono (by decide)) (by rfl) T.g_worth T.F_worth.kp T.b_worth .nil pass0 (pa_cons (pv 0) (pa_cons (pv 4) pa_nil))) pe_int (nomark _)))).pt (pss_one (ps_dput (hu_of hr) (pv 1) (pe_call (ok_cube T) (hr.mono (by decide)) (by rfl) T.g_cube T.F_cube.kp T.b_cube .nil pass0 (pa_cons (pv 3) (pa_cons (pv 4) pa_nil))) pe_bl rfl)) pss_nil))) (pss_one (ps_ret (pe_callB (SrtDx.cr_sortedDx rfl) (by rfl) T.m_sorted (by decide +kernel) (pa_cons (pv 1) pa_nil))))))), ?_⟩
    intro D nD
    have s0 := same_upd (o := (HO.dK [])) nD
    have h0 : upd H D (HO.dK []) D = some (HO.dK []) := upd_same
    generalize upd H D (HO.dK []) = H0 at s0 h0 ⊢
    refine ⟨.ref wa, rfl, wa, _, _, .int m, rfl, rfl, SqT.of (s0 _ _ hw), rfl, m, rfl, m1, by omega, fun r H1 nr s1 tr => ?_⟩
    obtain ⟨_, rs, e, hr1, trs⟩ := tr.lst_inv
    cases e
    rw [rowsUI (by omega)] at trs
    have lrs : rs.length = (rowsI m).length := by
      have := trs.length
      rw [List.length_map] at this
      exact this
    have l16 : (rowsI m).length ≤ 16 := by rw [rowsI_len (by omega)]; exact Nat.pow_le_pow_right (by decide) m4
    have s01 : Same H (hd1 D H1) := (hd1_of s0 nD).trans (hd1_same s1)
    have h1 := s1 _ _ h0
    have hr1' := hdK h1 hr1 fun _ z => by cases z
    replace trs := trs.hdK h1
    have okI := rowsI_ok (show m ≤ 6 by omega)
    have okl := askedL_ok (bs := bs) (show m ≤ 6 by omega) ok.oc
    unfold askedM askedL at q
    unfold askedL at okl
    revert trs lrs l16 okI q okl
    generalize rowsI m = R
    intro q lrs l16 trs okI okl
    refine ⟨r, rfl, ⟨_, SqL.of hr1⟩, for_list (K := K) (a := r) (xs := rs) (fun j σ H' => ∃ y2 kvs, σ = [some (.ref wa), some (.ref D), y2, none, none] ∧ Same H (hd1 D H') ∧ Same (hd1 D H1) (hd1 D H') ∧ H' D = some (.dK kvs) ∧ Askd (((R.take j).filter (oneB bs)).map rowS) kvs)
      ⟨_, [], rfl, s01, Same.refl _, h1, [], rfl, List.nodup_nil, fun x => Iff.rfl, Nat.le_refl _⟩ (fun j σ H' _ ⟨_, _, _, _, z, _⟩ => SqL.of (hd1_le _ _ (z _ _ hr1'))) ?_ ?_⟩
    · rintro j v σ H2 hv ⟨y2, kvs, rfl, s2, s12, hD, hk⟩
      obtain ⟨ra, r', rfl, hr', hra⟩ := Tk.row_at trs hv
      obtain ⟨lr, or⟩ := okI r' (List.mem_of_getElem? hr')
      have hra2 := hd1_le _ _ (s12 _ _ hra)
      have eq := askd_snoc (f := oneB bs) hr'
      refine ⟨.ref wa, rfl, .ref ra, rfl, wa, ra, m, bs, _, r', rfl, hd1_le _ _ (s2 _ _ hw), hra2, or, lr, by omega, lb, rfl, _, rfl, ?_⟩
      have eo : decide (V.int (gateM bs r') = V.int 1) = oneB bs r' := int_dec _ _
      refine ite2 (fun e => ?_) (fun e => ?_)
      · have e1 := eo.symm.trans e
        refine ⟨.ref D, rfl, .ref ra, rfl, .ref ra, rfl, m, ra, ra, r', r', rfl, hra2, hra2, or, lr, lr, by omega, fun H3 s3 => ?_⟩
        rw [cube_self]
        have hD3 := s3 _ _ hD
        have fw := hk.few
        rw [List.length_map] at fw
        have l2 := List.length_filter_le (oneB bs) (R.take j)
        rw [List.length_take] at l2
        refine ⟨D, _, rfl, DPut.k (k := .inr (SX.S (rowS r'))) hD3 (Nat.lt_of_lt_of_le (show _ < 64 by omega) (by decide)), _, _, rfl, (s2.trans (hd1_same s3)).trans hd1_upd, (s12.trans (hd1_same s3)).trans hd1_upd, upd_same, ?_⟩
        rw [eq, if_pos e1]
        exact hk.put _ _
      · have e1 : ¬ oneB bs r' = true := fun z => e (eo.trans z)
        refine ⟨_, kvs, rfl, s2, s12, hD, ?_⟩
        rw [eq, if_neg e1, List.append_nil]
        exact hk
    · rintro σ H2 ⟨y2, kvs, rfl, s2, s12, hD, hk⟩
      rw [lrs, List.take_length] at hk
      have lx := tx.length
      rw [List.length_map] at lx
      have lf := List.length_filter_le (oneB bs) R
      refine ⟨.ref wa, rfl, wa, _, _, .ref t, rfl, rfl, SqT.of (hd1_le _ _ (s2 _ _ hw)), rfl, t, rfl, ⟨_, SqT.of (hd1_le _ _ (s2 _ _ ht))⟩, for_tup (K := K) (a := t) (xs := xs) (fun j σ H' => ∃ y2 y3 y4 kvs, σ = [some (.ref wa), some (.ref D), y2, y3, y4] ∧ Same H (hd1 D H') ∧ H' D = some (.dK kvs) ∧ Askd ((R.filter (oneB bs)).map rowS ++ ((cs.take j).filter (bothB bs)).map cubeC) kvs)
        ⟨_, _, _, kvs, rfl, s2, hD, by simpa using hk⟩ (fun j σ H' _ ⟨_, _, _, _, _, z, _⟩ => SqT.of (hd1_le _ _ (z _ _ ht))) ?_ ?_⟩
      · rintro j v σ H3 hv ⟨y2, y3, y4, kvs, rfl, s3, hD, hk⟩
        obtain ⟨c, hc, tc⟩ := tx.at hv
        have s3' : Same H H3 := fun b o e => hd1_le _ _ (s3 _ _ e)
        obtain ⟨ca, rfl, hca⟩ := ChAt.of_tk (tc.same s3')
        obtain ⟨ra, rb, hc3, ha, hb⟩ := id hca
        have okc := ok.oc c (List.mem_of_getElem? hc)
        have m6 := okc.m6
        have eq := filter_snoc (f := bothB bs) hc
        have ea : decide (V.int (gateM bs c.1) = V.int 1) = oneB bs c.1 := int_dec _ _
        have eb : decide (V.int (gateM bs c.2) = V.int 1) = oneB bs c.2 := int_dec _ _
        refine ⟨ca, _, rfl, SqT.of hc3, rfl, _, _, rfl, _, _, rfl, rfl, ?_⟩
        have skip : bothB bs c = false → ∃ z2 y3 y4 kvs, ([some (V.ref wa), some (V.ref D), y2, some (V.ref ra), some (V.ref rb)] : List (Option V)) = [some (V.ref wa), some (V.ref D), z2, y3, y4] ∧ Same H (hd1 D H3) ∧ H3 D = some (.dK kvs) ∧ Askd ((R.filter (oneB bs)).map rowS ++ ((cs.take (j + 1)).filter (bothB bs)).map cubeC) kvs := fun e => by
          refine ⟨_, _, _, kvs, rfl, s3, hD, ?_⟩
          rw [eq, if_neg (by rw [e]; decide), List.append_nil]
          exact hk
        refine ⟨.ref wa, rfl, .ref ra, rfl, wa, ra, m, bs, _, c.1, rfl, s3' _ _ hw, ha, okc.oa, okc.la, m6, lb, rfl, _, rfl, ite2 (fun e => ?_) (fun e => skip ?_)⟩
        · refine ⟨.ref wa, rfl, .ref rb, rfl, wa, rb, m, bs, _, c.2, rfl, s3' _ _ hw, hb, okc.ob, okc.lb, m6, lb, rfl, _, rfl, ite2 (fun e2 => ?_) (fun e2 => skip ?_)⟩
          · refine ⟨.ref D, rfl, .ref ra, rfl, .ref rb, rfl, m, ra, rb, c.1, c.2, rfl, ha, hb, okc.oa, okc.la, okc.lb, m6, fun H4 s4 => ?_⟩
            have hD4 := s4 _ _ hD
            have fw := hk.few
            rw [List.length_append, List.length_map, List.length_map] at fw
            have l2 := List.length_filter_le (bothB bs) (cs.take j)
            rw [List.length_take] at l2
            refine ⟨D, _, rfl, DPut.k (k := .inr (SX.S (cubeM c.1 c.2))) hD4 (Nat.lt_of_lt_of_le (show _ < 128 by omega) (by decide)), _, _, _, _, rfl, (s3.trans (hd1_same s4)).trans hd1_upd, upd_same, ?_⟩
            rw [eq, if_pos (show bothB bs c = true by show (oneB bs c.1 && oneB bs c.2) = true; rw [← ea, ← eb, e, e2]; rfl), List.map_append, ← List.append_assoc]
            exact hk.put _ _
          · show (oneB bs c.1 && oneB bs c.2) = false
            rw [← eb, Bool.eq_false_iff.mpr e2, Bool.and_false]
        · show (oneB bs c.1 && oneB bs c.2) = false
          rw [← ea, Bool.eq_false_iff.mpr e, Bool.false_and]
      · rintro σ H3 ⟨y2, y3, y4, kvs, rfl, s3, hD, hk⟩
        rw [lx, List.take_length] at hk
        obtain ⟨ks, ek, nd, mem, few⟩ := hk
        refine ⟨.ref D, rfl, D, kvs, ks, rfl, hD, ek, fun ys p pm st np => ?_⟩
        have s3' : Same H H3 := fun b o e => hd1_le _ _ (s3 _ _ e)
        have np0 : H p = none := by
          cases z : H p with
          | none => rfl
          | some o => rw [s3' _ _ z] at np; cases np
        refine q p _ np0 (s3'.trans (same_upd np)) ?_
        rw [upd_same, asked_uniq m4 okl st (pm.nodup_iff.mpr nd) (fun x => by rw [pm.mem_iff]; exact mem x), pVs_S]
theorem sh_strsT {m : Nat} {ps : List (List Nat)} (h : CovOk m ps) : SeqAt.shaped (.tuple (ps.map fun p => PyData.str (SX.S p))) = true := by
  unfold SeqAt.shaped
  rw [Bool.and_eq_true]
  refine ⟨?_, decide_eq_true ?_⟩
  · simp only [PyData.canLay0, lay_strs ps h]
  · have := depth_strs ps
    simp only [PyData.depth]
    omega
end
end Gk

set_option Elab.async false
set_option linter.all false
set_option maxRecDepth 100000
set_option maxHeartbeats 1000000
set_option pp.maxSteps 1500
set_option pp.deepTerms false
namespace Gk
open PySem PySem.Spec PyProof.Rows L2

section
variable {P : Program} {w : World} {K : PySem.W.Frag} {mg : Str → Option Value} {base : Heap}
/-! ### free covers: the law's own -/
theorem all_stop1 {α : Type} {f : α → Bool} {l : List α} {j : Nat} {x : α} (h : l[j]? = some x) (n : f x = false) : l.all f = false := by
  cases e : l.all f with
  | false => rfl
  | true => rw [List.all_eq_true.mp e x (List.mem_of_getElem? h)] at n; cases n
theorem all_take1 {α : Type} {f : α → Bool} {l : List α} {j : Nat} {x : α} (h : l[j]? = some x) (p : (l.take j).all f = true) (hx : f x = true) : (l.take (j + 1)).all f = true := by
  rw [List.take_add_one, h, List.all_append, p, Bool.true_and]
  show (f x && true) = true
  rw [hx]
  rfl
def sp_told_worth (K : PySem.W.Frag) : Sp := fun vs H Q _ => ∃ (c a : Addr) (m : Nat) (ps : List (List Nat)) (r : List Int), vs = [.ref c, .ref a] ∧ CovAt H c m ps ∧ CovOk m ps ∧ ps.length ≤ 64 ∧ H a = some (.tup (r.map V.int)) ∧ Row01' r ∧ r.length = m ∧ m ≤ 6 ∧ ∀ H', Same H H' → Q (.int (bI (toldM ps r))) H'
theorem ok_told_worth (T : Tx K mg) : FnOk P w K mg base CX0 2 T.f_told_worth T.fd_told_worth ["_law_cover_here", "_law_row"] (sp_told_worth K) := by
  refine T.F_told_worth.ok sc_told_worth (fun vs H Q E h => ?_) (fun cdv A outer s H vs Q E hr h => ?_)
  · obtain ⟨c, a, m, ps, r, rfl, _⟩ := h
    rfl
  · obtain ⟨c, a, m, ps, r, rfl, ⟨t, hc, ht⟩, okp, l64, ha, ok, lr, m6, q⟩ := h
    refine ⟨_, (pss_one (ps_ret (pe_callTy call_int1 (by rfl) T.m_int (by decide +kernel) (pa_cons (pe_cmpR (NeL.op_neN hr.units) (pe_lc (own := [("_law_one", 2)]) (by rfl) sc_told_worth.nd (pi_tup (pe_ix ix_tup (pv 0) pe_int (fun _ _ => rfl))) (blkOk_by (own := [("_law_one", 2)]) (N := ["_law_cover_here", "_law_row", "_law_one"]) (sc := defScope s_told_worth) (by decide +kernel)) (fun _ _ _ _ _ => (pg_name (i := 2) sc_told_worth.nd rfl (by first | exact .inl rfl | exact .inr rfl))) (fun _ _ _ _ _ => (pts_one (pt_val (pe_call (ok_holds T) (hr.mono (by decide)) (by rfl) T.g_holds T.F_holds.kp T.b_holds .nil pass0 (pa_cons (pv 2) (pa_cons (pv 1) pa_nil)))))) (fun _ _ _ _ _ => (pv 2))) (pe_lst pa_nil) (nomark _)) pa_nil)))), ?_⟩
    refine ⟨.ref c, rfl, c, _, 1, .ref t, rfl, rfl, SqT.of hc, rfl, t, rfl, ⟨_, SqT.of ht⟩, fun L nL => ?_⟩
    have lp : (pVs ps).length = ps.length := by unfold pVs; rw [List.length_map]
    refine lc_tup (K := K) (a := t) (xs := pVs ps) (fun j H' => Same H (hd1 L H') ∧ ∃ ys, H' L = some (.lst ys) ∧ ys.length ≤ j ∧ ys.isEmpty = !((ps.take j).any fun p => hrow p r)) ⟨hd1_of (same_upd nL) nL, [], upd_same, Nat.zero_le _, rfl⟩ (fun j H' _ z => SqT.of (hd1_le _ _ (z.1 _ _ ht))) ?_ ?_
    · rintro j v H1 hv ⟨s1, ys, hL, ly, ih⟩
      obtain ⟨p, hp, rfl⟩ := pV_at hv
      have okq := okp p (List.mem_of_getElem? hp)
      have lj := (List.getElem?_eq_some_iff.mp hp).1
      have ea : (ps.take (j + 1)).any (fun p => hrow p r) = ((ps.take j).any (fun p => hrow p r) || hrow p r) := by
        rw [List.take_add_one, hp, List.any_append]
        simp
      refine ⟨rfl, .str (SX.S p), rfl, .ref a, rfl, m, p, a, r, rfl, okq.1, hd1_le _ _ (s1 _ _ ha), ok, lr, m6, fun H2 s2 => ⟨_, rfl, ite2 (fun e => ?_) (fun e => ?_)⟩⟩
      · refine ⟨.str (SX.S p), rfl, ys, s2 _ _ hL, Nat.lt_of_lt_of_le (show _ < 128 by omega) (by decide), (s1.trans (hd1_same s2)).trans hd1_upd, ys ++ [V.str (SX.S p)], upd_same, by rw [List.length_append]; exact Nat.succ_le_succ ly, ?_⟩
        rw [ea, e, Bool.or_true]
        cases ys <;> rfl
      · refine ⟨s1.trans (hd1_same s2), ys, s2 _ _ hL, by omega, ?_⟩
        rw [ea, Bool.eq_false_iff.mpr e, Bool.or_false, ih]
    · rintro H1 ⟨s1, ys, hL, ly, ih⟩
      rw [lp, List.take_length] at ih
      refine ⟨Nat.zero_le _, fun e0 ne0 => ?_⟩
      have s2 := same_upd (o := HO.lst []) ne0
      refine ⟨L, e0, ys, rfl, rfl, SqL.of (s2 _ _ hL), SqL.of upd_same, ?_⟩
      have z := q _ ((show Same H H1 from fun b o e => hd1_le _ _ (s1 _ _ e)).trans s2)
      unfold toldM at z
      rw [ih, Bool.not_not]
      exact .inr ⟨_, rfl, z⟩
theorem held_by {ra rb : Addr} {a b : List Int} {f g : List Int → Bool} (t : ∀ r, g r = true → f r = true) : ([(ra, a), (rb, b)].filter fun z => f z.2).any (fun z => g z.2) = (g a || g b) := by
  have n : ∀ r, f r = false → g r = false := fun r e => Bool.eq_false_iff.mpr fun z => by rw [t r z] at e; cases e
  cases h1 : f a with
  | false =>
    cases h2 : f b with
    | false => simp [List.filter, h1, h2, n a h1, n b h2]
    | true => simp [List.filter, h1, h2, n a h1]
  | true =>
    cases h2 : f b with
    | false => simp [List.filter, h1, h2, n b h2]
    | true => simp [List.filter, h1, h2]
def sp_fro (K : PySem.W.Frag) : Sp := fun vs H Q _ => ∃ (cv c : Addr) (m : Nat) (ps : List (List Nat)) (a b : List Int), vs = [.ref cv, .ref c] ∧ CovAt H cv m ps ∧ CovOk m ps ∧ ps.length ≤ 64 ∧ ChAt H c a b ∧ ChOk m a b ∧ ∀ H', Same H H' → Q (.bl (froB ps a b)) H'
theorem ok_fro (T : Tx K mg) : FnOk P w K mg base CX0 3 T.f_fro T.fd_fro ["_law_cover_here", "_law_change_here"] (sp_fro K) := by
  refine T.F_fro.ok sc_fro (fun vs H Q E h => ?_) (fun cdv A outer s H vs Q E hr h => ?_)
  · obtain ⟨cv, c, m, ps, a, b, rfl, _⟩ := h
    rfl
  · obtain ⟨cv, c, m, ps, a, b, rfl, ca, okp, l64, ⟨ra, rb, hc, ha, hb⟩, ok, q⟩ := h
    refine ⟨_, (pss_cons (ps_asg (pv 1) (pg_tup rfl (pgs_cons (pg_name (i := 2) sc_fro.nd rfl (by first | exact .inl rfl | exact .inr rfl)) (pgs_cons (pg_name (i := 3) sc_fro.nd rfl (by first | exact .inl rfl | exact .inr rfl)) pgs_nil)))) (pss_cons (ps_set (i := 4) sc_fro.nd rfl (by first | exact .inl rfl | exact .inr rfl) (pe_lst (pa_cons (pe_call (ok_told_worth T) (hr.mono (by decide)) (by rfl) T.g_told_worth T.F_told_worth.kp T.b_told_worth .nil pass0 (pa_cons (pv 0) (pa_cons (pv 2) pa_nil))) (pa_cons (pe_call (ok_told_worth T) (hr.mono (by decide)) (by rfl) T.g_told_worth T.F_told_worth.kp T.b_told_worth .nil pass0 (pa_cons (pv 0) (pa_cons (pv 3) pa_nil))) pa_nil)))) (pss_cons (ps_if (pt_cmpR (op_eqD hr.units) (pv 4) (pe_lst (pa_cons pe_int (pa_cons pe_int pa_nil))) (nomark _)) (pss_one (ps_ret (pe_cmpR (NeL.op_eqN hr.units) (pe_lc (own := [("_law_product_here", 6)]) (by rfl) sc_fro.nd (pi_tup (pe_ix ix_tup (pv 0) pe_int (fun _ _ => rfl))) (blkOk_by (own := [("_law_product_here", 6)]) (N := ["_law_cover_here", "_law_change_here", "_law_one", "_law_other", "_law_worths", "_law_bright", "_law_product_here", "_law_row", "_law_worth_here"]) (sc := defScope s_fro) (by decide +kernel)) (fun _ _ _ _ _ => (pg_name (i := 6) sc_fro.nd rfl (by first | exact .inl rfl | exact .inr rfl))) (fun _ _ _ _ _ => (pts_one (PW.pt (pw_and (pt_val (pe_call (ok_holds T) (hr.mono (by decide)) (by rfl) T.g_holds T.F_holds.kp T.b_holds .nil pass0 (pa_cons (pv 6) (pa_cons (pv 2) pa_nil)))) (pw_and1 (pt_val (pe_call (ok_holds T) (hr.mono (by decide)) (by rfl) T.g_holds T.F_holds.kp T.b_holds .nil pass0 (pa_cons (pv 6) (pa_cons (pv 3) pa_nil))))))))) (fun _ _ _ _ _ => (pv 6))) (pe_lst pa_nil) (nomark _)))) pss_nil) (pss_cons (ps_setLc (i := 5) (own := [("_law_row", 7), ("_law_worth_here", 8)]) (by rfl) sc_fro.nd rfl rfl (sw_true rfl rfl rfl (by decide +kernel)) (ZpG.pi_zip2 (by rfl) T.m_zip (pa_cons (pv 1) (pa_cons (pv 4) pa_nil))) (blkOk_by (own := [("_law_row", 7), ("_law_worth_here", 8)]) (N := ["_law_cover_here", "_law_change_here", "_law_one", "_law_other", "_law_worths", "_law_bright", "_law_product_here", "_law_row", "_law_worth_here"]) (sc := defScope s_fro) (by decide +kernel)) (fun _ _ _ _ _ => (show PG _ _ (gTup K 2 _) from pg_tup rfl (pgs_cons (pg_name (i := 7) sc_fro.nd rfl (by first | exact .inl rfl | exact .inr rfl)) (pgs_cons (pg_name (i := 8) sc_fro.nd rfl (by first | exact .inl rfl | exact .inr rfl)) pgs_nil)))) (fun _ _ _ _ _ => (pts_one (pt_cmpR op_eq (pv 8) pe_int (nomark _)))) (fun _ _ _ _ _ => (pv 7))) (pss_cons (ps_for PassesOwn.never rfl (pi_tup (pe_ix ix_tup (pv 0) pe_int (fun _ _ => rfl))) (pg_name (i := 6) sc_fro.nd rfl (by first | exact .inl rfl | exact .inr rfl)) (pss_one (ps_if (pw_and (pt_val (pe_call (ok_meets T) (hr.mono (by decide)) (by rfl) T.g_meets T.F_meets.kp T.b_meets .nil pass0 (pa_cons (pv 6) (pa_cons (pe_call (ok_cube T) (hr.mono (by decide)) (by rfl) T.g_cube T.F_cube.kp T.b_cube .nil pass0 (pa_cons (pv 2) (pa_cons (pv 3) pa_nil))) pa_nil)))) (pw_and1 (pt_cmpR (NeL.op_eqN hr.units) (pe_lc (own := [("_law_row", 7)]) (by rfl) sc_fro.nd (pi_list (pv 5)) (blkOk_by (own := [("_law_row", 7)]) (N := ["_law_cover_here", "_law_change_here", "_law_one", "_law_other", "_law_worths", "_law_bright", "_law_product_here", "_law_row", "_law_worth_here"]) (sc := defScope s_fro) (by decide +kernel)) (fun _ _ _ _ _ => (pg_name (i := 7) sc_fro.nd rfl (by first | exact .inl rfl | exact .inr rfl))) (fun _ _ _ _ _ => (pts_one (pt_val (pe_call (ok_holds T) (hr.mono (by decide)) (by rfl) T.g_holds T.F_holds.kp T.b_holds .nil pass0 (pa_cons (pv 6) (pa_cons (pv 7) pa_nil)))))) (fun _ _ _ _ _ => (pv 7))) (pe_lst pa_nil) (nomark _)))).pt (pss_one (ps_ret pe_bl)) pss_nil))) (pss_one (ps_ret pe_bl))))))), ?_⟩
    obtain ⟨t, hcv, ht⟩ := id ca
    have m6 := ok.m6
    refine ⟨.ref c, rfl, c, _, rfl, SqT.of hc, rfl, _, _, rfl, _, _, rfl, rfl, ?_⟩
    first | (show (_ : L2.St → Hp → Prop) [some (.ref cv), some (.ref c), some (.ref ra), some (.ref rb), none, none, none, none, none] H) | (unfold gName; show (_ : L2.St → Hp → Prop) [some (.ref cv), some (.ref c), some (.ref ra), some (.ref rb), none, none, none, none, none] H) | (dsimp only; show (_ : L2.St → Hp → Prop) [some (.ref cv), some (.ref c), some (.ref ra), some (.ref rb), none, none, none, none, none] H) | (dsimp only [gName]; show (_ : L2.St → Hp → Prop) [some (.ref cv), some (.ref c), some (.ref ra), some (.ref rb), none, none, none, none, none] H)
    have caS : ∀ {H'}, Same H H' → CovAt H' cv m ps := fun s => ⟨t, s _ _ hcv, s _ _ ht⟩
    refine ⟨.ref cv, rfl, .ref ra, rfl, cv, ra, m, ps, a, rfl, ca, okp, l64, ha, ok.oa, ok.la, m6, fun H1 s1 => ?_⟩
    refine ⟨.ref cv, rfl, .ref rb, rfl, cv, rb, m, ps, b, rfl, caS s1, okp, l64, s1 _ _ hb, ok.ob, ok.lb, m6, fun H2 s2 => ?_⟩
    have s12 := s1.trans s2
    refine ⟨sl2, fun W nW => ?_⟩
    have s3 := same_upd (o := (HO.lst [V.int (bI (toldM ps a)), .int (bI (toldM ps b))])) nW
    have h3 : upd H2 W (HO.lst [V.int (bI (toldM ps a)), .int (bI (toldM ps b))]) W = some (HO.lst [V.int (bI (toldM ps a)), .int (bI (toldM ps b))]) := upd_same
    generalize upd H2 W (HO.lst [V.int (bI (toldM ps a)), .int (bI (toldM ps b))]) = H3 at s3 h3 ⊢
    have s03 := s12.trans s3
    first | (show (_ : L2.St → Hp → Prop) [some (.ref cv), some (.ref c), some (.ref ra), some (.ref rb), some (.ref W), none, none, none, none] H3) | (unfold gName; show (_ : L2.St → Hp → Prop) [some (.ref cv), some (.ref c), some (.ref ra), some (.ref rb), some (.ref W), none, none, none, none] H3) | (dsimp only; show (_ : L2.St → Hp → Prop) [some (.ref cv), some (.ref c), some (.ref ra), some (.ref rb), some (.ref W), none, none, none, none] H3) | (dsimp only [gName]; show (_ : L2.St → Hp → Prop) [some (.ref cv), some (.ref c), some (.ref ra), some (.ref rb), some (.ref W), none, none, none, none] H3)
    refine ⟨.ref W, rfl, sl2, fun e0 ne0 => ?_⟩
    have s4 := same_upd (o := (HO.lst [V.int 1, .int 1])) ne0
    have h4 : upd H3 e0 (HO.lst [V.int 1, .int 1]) e0 = some (HO.lst [V.int 1, .int 1]) := upd_same
    generalize upd H3 e0 (HO.lst [V.int 1, .int 1]) = H4 at s4 h4 ⊢
    have s04 := s03.trans s4
    have h34 := s4 _ _ h3
    refine ⟨.list ([bI (toldM ps a), bI (toldM ps b)].map .int), .list ([1, 1].map .int), .lst (SqL.of h34) (dpInts [bI (toldM ps a), bI (toldM ps b)]), .lst (SqL.of h4) (dpInts [1, 1]), shInts _, shInts _, _, rfl, ?_⟩
    have ee : PyData.eqv (.list ([bI (toldM ps a), bI (toldM ps b)].map .int)) (.list ([1, 1].map .int)) = (toldM ps a && toldM ps b) := by
      cases toldM ps a <;> cases toldM ps b <;> rfl
    rw [ee]
    have lp : (pVs ps).length = ps.length := by unfold pVs; rw [List.length_map]
    have hcv4 := s04 _ _ hcv
    have ht4 := s04 _ _ ht
    refine ite2 (fun e => ?_) (fun e => ?_)
    · rw [Bool.and_eq_true] at e
      refine ⟨.ref cv, rfl, cv, _, 1, .ref t, rfl, rfl, SqT.of hcv4, rfl, t, rfl, ⟨_, SqT.of ht4⟩, fun L nL => ?_⟩
      refine lc_tup (K := K) (a := t) (xs := pVs ps) (fun j H' => Same H4 (hd1 L H') ∧ ∃ ys, H' L = some (.lst ys) ∧ ys.length ≤ j ∧ ys.isEmpty = !((ps.take j).any fun p => hall p (cubeM a b))) ⟨hd1_of (same_upd nL) nL, [], upd_same, Nat.zero_le _, rfl⟩ (fun j H' _ z => SqT.of (hd1_le _ _ (z.1 _ _ ht4))) ?_ ?_
      · rintro j v H5 hv ⟨s5, ys, hL, ly, ih⟩
        obtain ⟨p, hp, rfl⟩ := pV_at hv
        have okq := okp p (List.mem_of_getElem? hp)
        have lj := (List.getElem?_eq_some_iff.mp hp).1
        have s05 : Same H H5 := s04.trans fun b o e => hd1_le _ _ (s5 _ _ e)
        have ea : (ps.take (j + 1)).any (fun p => hall p (cubeM a b)) = ((ps.take j).any (fun p => hall p (cubeM a b)) || (hrow p a && hrow p b)) := by
          rw [List.take_add_one, hp, List.any_append, ← hall_cube (by rw [ok.la, ok.lb]) ok.oa ok.ob]
          simp
        have skip : ∀ H6, Same H5 H6 → (hrow p a && hrow p b) = false → (Same H4 (hd1 L H6) ∧ ∃ ys, H6 L = some (.lst ys) ∧ ys.length ≤ j + 1 ∧ ys.isEmpty = !((ps.take (j + 1)).any fun p => hall p (cubeM a b))) := fun H6 s6 e => ⟨s5.trans (hd1_same s6), ys, s6 _ _ hL, by omega, by rw [ea, e, Bool.or_false, ih]⟩
        refine ⟨rfl, .str (SX.S p), rfl, .ref ra, rfl, m, p, ra, a, rfl, okq.1, s05 _ _ ha, ok.oa, ok.la, m6, fun H6 s6 => ⟨_, rfl, ite2 (fun e1 => ?_) (fun e1 => skip _ s6 (by rw [Bool.eq_false_iff.mpr e1, Bool.false_and]))⟩⟩
        refine ⟨.str (SX.S p), rfl, .ref rb, rfl, m, p, rb, b, rfl, okq.1, s6 _ _ (s05 _ _ hb), ok.ob, ok.lb, m6, fun H7 s7 => ⟨_, rfl, ite2 (fun e2 => ?_) (fun e2 => skip _ (s6.trans s7) (by rw [Bool.eq_false_iff.mpr e2, Bool.and_false]))⟩⟩
        have s57 := s6.trans s7
        refine ⟨.str (SX.S p), rfl, ys, s57 _ _ hL, Nat.lt_of_lt_of_le (show _ < 128 by omega) (by decide), (s5.trans (hd1_same s57)).trans hd1_upd, ys ++ [V.str (SX.S p)], upd_same, by rw [List.length_append]; exact Nat.succ_le_succ ly, ?_⟩
        rw [ea, e1, e2, Bool.and_true, Bool.or_true]
        cases ys <;> rfl
      rintro H5 ⟨s5, ys, hL, ly, ih⟩
      rw [lp, List.take_length] at ih
      refine ⟨Nat.zero_le _, fun e9 ne9 => ?_⟩
      have s6 := same_upd (o := HO.lst []) ne9
      refine ⟨L, e9, ys, rfl, rfl, SqL.of (s6 _ _ hL), SqL.of upd_same, ?_⟩
      have z := q _ (s04.trans ((show Same H4 H5 from fun b o e => hd1_le _ _ (s5 _ _ e)).trans s6))
      unfold froB at z
      rw [if_pos e] at z
      rw [ih]
      exact z
    · have e' : ¬ (toldM ps a = true ∧ toldM ps b = true) := fun z => e (by rw [z.1, z.2]; rfl)
      have q2 : ∀ H', Same H H' → Q (.bl (ps.any (flashM a b))) H' := fun H' s => by
        have z := q H' s
        unfold froB at z
        rw [if_neg e'] at z
        exact z
      clear q
      obtain ⟨zs, ezs⟩ : ∃ zs : List (Addr × List Int), zs = [(ra, a), (rb, b)] := ⟨_, rfl⟩
      have okz : ∀ z ∈ zs, (∀ H', Same H H' → H' z.1 = some (.tup (z.2.map V.int))) ∧ Row01' z.2 ∧ z.2.length = m := by
        rw [ezs]
        intro z hz
        simp only [List.mem_cons, List.not_mem_nil, or_false] at hz
        rcases hz with rfl | rfl
        · exact ⟨fun H' s => s _ _ ha, ok.oa, ok.la⟩
        · exact ⟨fun H' s => s _ _ hb, ok.ob, ok.lb⟩
      have hc4 : H4 c = some (.tup (zs.map fun z => V.ref z.1)) := by rw [ezs]; exact s04 _ _ hc
      have hW4 : H4 W = some (.lst (zs.map fun z => V.int (bI (toldM ps z.2)))) := by rw [ezs]; exact h34
      have lz : zs.length = 2 := by rw [ezs]; rfl
      have held : ∀ p ∈ ps, (zs.filter fun z => toldM ps z.2).any (fun z => hrow p z.2) = (hrow p a || hrow p b) := fun p hp => by
        rw [ezs]
        exact held_by (f := toldM ps) (g := hrow p) fun r h => List.any_eq_true.mpr ⟨p, hp, h⟩
      clear ezs
      first | (show (_ : L2.St → Hp → Prop) [some (.ref cv), some (.ref c), some (.ref ra), some (.ref rb), some (.ref W), none, none, none, none] H4) | (unfold gName; show (_ : L2.St → Hp → Prop) [some (.ref cv), some (.ref c), some (.ref ra), some (.ref rb), some (.ref W), none, none, none, none] H4) | (dsimp only; show (_ : L2.St → Hp → Prop) [some (.ref cv), some (.ref c), some (.ref ra), some (.ref rb), some (.ref W), none, none, none, none] H4) | (dsimp only [gName]; show (_ : L2.St → Hp → Prop) [some (.ref cv), some (.ref c), some (.ref ra), some (.ref rb), some (.ref W), none, none, none, none] H4)
      refine ⟨.ref c, rfl, .ref W, rfl, .tu c, .li W, _, _, rfl, SqT.of hc4, SqL.of hW4, fun D nD => ?_⟩
      refine ZpG.lc_zip2 (K := K) (n := 2) (xs1 := zs.map fun z => V.ref z.1) (xs2 := zs.map fun z => V.int (bI (toldM ps z.2))) (by rw [List.length_map, lz]) (by rw [List.length_map, lz]) (fun j H' => Same H4 (hd1 D H') ∧ H' D = some (.lst (((zs.take j).filter fun z => toldM ps z.2).map fun z => V.ref z.1))) ⟨hd1_of (same_upd nD) nD, upd_same⟩ (fun j H' _ z => ⟨SqT.of (hd1_le _ _ (z.1 _ _ hc4)), SqL.of (hd1_le _ _ (z.1 _ _ hW4))⟩) ?_ ?_
      · rintro j x1 x2 Tq H5 h1 h2 nT ⟨s5, hD⟩
        rw [List.getElem?_map] at h1 h2
        obtain ⟨z, hz, rfl⟩ := Option.map_eq_some_iff.mp h1
        rw [hz] at h2
        cases Option.some.inj h2
        have eq := filter_snoc (f := fun z : Addr × List Int => toldM ps z.2) hz
        have sT := same_upd (o := HO.tup [V.ref z.1, .int (bI (toldM ps z.2))]) nT
        have l2 : ((zs.take j).filter fun z => toldM ps z.2).length ≤ 2 := Nat.le_trans (List.length_filter_le _ _) (by rw [List.length_take]; omega)
        refine ⟨Tq, _, rfl, SqT.of upd_same, rfl, _, _, rfl, _, _, rfl, rfl, rfl, ?_⟩
        have ev : decide (V.int (bI (toldM ps z.2)) = V.int 1) = toldM ps z.2 := by cases toldM ps z.2 <;> rfl
        refine ⟨.int (bI (toldM ps z.2)), rfl, rfl, _, rfl, ?_⟩
        rw [ev]
        refine ite2 (fun e => ?_) (fun e => ?_)
        · refine ⟨.ref z.1, rfl, _, sT _ _ hD, ?_, (s5.trans (hd1_same sT)).trans hd1_upd, ?_⟩
          · rw [List.length_map]
            exact Nat.lt_of_lt_of_le (show _ < 64 by omega) (by decide)
          · rw [upd_same, eq, if_pos e, List.map_append]
            rfl
        · refine ⟨s5.trans (hd1_same sT), ?_⟩
          rw [sT _ _ hD, eq, if_neg e, List.append_nil]
      rintro H5 ⟨s5, hD⟩
      rw [List.take_of_length_le (by rw [lz]; exact Nat.le_refl _)] at hD
      have s45 : Same H4 H5 := fun b o e => hd1_le _ _ (s5 _ _ e)
      have okB : ∀ z ∈ zs.filter fun z => toldM ps z.2, z ∈ zs := fun z hz => (List.mem_filter.mp hz).1
      have lB : (zs.filter fun z => toldM ps z.2).length ≤ 2 := Nat.le_trans (List.length_filter_le _ _) (by omega)
      revert hD held okB lB
      generalize (zs.filter fun z => toldM ps z.2) = bz
      intro held hD okB lB
      have lbz : (bz.map fun z => V.ref z.1).length = bz.length := by rw [List.length_map]
      have s05 := s04.trans s45
      refine ⟨.ref cv, rfl, cv, _, 1, .ref t, rfl, rfl, SqT.of (s05 _ _ hcv), rfl, t, rfl, ⟨_, SqT.of (s05 _ _ ht)⟩, ?_⟩
      refine for_tup (K := K) (a := t) (xs := pVs ps) (fun j σ H' => ∃ y6, σ = [some (.ref cv), some (.ref c), some (.ref ra), some (.ref rb), some (.ref W), some (.ref D), y6, none, none] ∧ Same H5 H' ∧ (ps.take j).any (flashM a b) = false) ⟨_, rfl, Same.refl _, rfl⟩ (fun j σ H' _ ⟨_, _, z, _⟩ => SqT.of (z _ _ (s05 _ _ ht))) ?_ ?_
      · rintro j v σ H6 hv ⟨y6, rfl, s6, ih⟩
        obtain ⟨p, hp, rfl⟩ := pV_at hv
        have mp := List.mem_of_getElem? hp
        have okq := okp p mp
        have s06 := s05.trans s6
        have ea : (ps.take (j + 1)).any (flashM a b) = flashM a b p := by
          rw [List.take_add_one, hp, List.any_append, ih]
          simp
        first | (show (_ : L2.St → Hp → Prop) [some (.ref cv), some (.ref c), some (.ref ra), some (.ref rb), some (.ref W), some (.ref D), some (.str (SX.S p)), none, none] H6) | (unfold gName; show (_ : L2.St → Hp → Prop) [some (.ref cv), some (.ref c), some (.ref ra), some (.ref rb), some (.ref W), some (.ref D), some (.str (SX.S p)), none, none] H6) | (dsimp only; show (_ : L2.St → Hp → Prop) [some (.ref cv), some (.ref c), some (.ref ra), some (.ref rb), some (.ref W), some (.ref D), some (.str (SX.S p)), none, none] H6) | (dsimp only [gName]; show (_ : L2.St → Hp → Prop) [some (.ref cv), some (.ref c), some (.ref ra), some (.ref rb), some (.ref W), some (.ref D), some (.str (SX.S p)), none, none] H6)
        refine ⟨.str (SX.S p), rfl, .ref ra, rfl, .ref rb, rfl, m, ra, rb, a, b, rfl, s06 _ _ ha, s06 _ _ hb, ok.oa, ok.la, ok.lb, m6, fun H7 s7 => ⟨m, p, cubeM a b, rfl, okq.1, cube_len ok, m6, fun H8 s8 => ⟨_, rfl, ite2 (fun e1 => ?_) (fun e1 => ?_)⟩⟩⟩
        · have s58 := (s6.trans s7).trans s8
          have s08 := s05.trans s58
          have hD8 := s58 _ _ hD
          refine ⟨.ref D, rfl, D, rfl, ⟨_, SqL.of hD8⟩, fun L nL => ?_⟩
          refine lc_list (K := K) (a := D) (xs := bz.map fun z => V.ref z.1) (fun k H' => Same H8 (hd1 L H') ∧ ∃ ys, H' L = some (.lst ys) ∧ ys.length ≤ k ∧ ys.isEmpty = !((bz.take k).any fun z => hrow p z.2)) ⟨hd1_of (same_upd nL) nL, [], upd_same, Nat.zero_le _, rfl⟩ (fun k H' _ z => SqL.of (hd1_le _ _ (z.1 _ _ hD8))) ?_ ?_
          · rintro k v H9 hv9 ⟨s9, ys, hL, ly, ih9⟩
            rw [List.getElem?_map] at hv9
            obtain ⟨z, hz, rfl⟩ := Option.map_eq_some_iff.mp hv9
            have lk := (List.getElem?_eq_some_iff.mp hz).1
            obtain ⟨hz1, hz2, hz3⟩ := okz z (okB z (List.mem_of_getElem? hz))
            have s09 : Same H H9 := s08.trans fun b o e => hd1_le _ _ (s9 _ _ e)
            have eaz : (bz.take (k + 1)).any (fun z => hrow p z.2) = ((bz.take k).any (fun z => hrow p z.2) || hrow p z.2) := by
              rw [List.take_add_one, hz, List.any_append]
              simp
            refine ⟨rfl, .str (SX.S p), rfl, .ref z.1, rfl, m, p, z.1, z.2, rfl, okq.1, hz1 H9 s09, hz2, hz3, m6, fun H10 s10 => ⟨_, rfl, ite2 (fun e2 => ?_) (fun e2 => ?_)⟩⟩
            · refine ⟨.ref z.1, rfl, ys, s10 _ _ hL, Nat.lt_of_lt_of_le (show _ < 128 by omega) (by decide), (s9.trans (hd1_same s10)).trans hd1_upd, ys ++ [V.ref z.1], upd_same, by rw [List.length_append]; exact Nat.succ_le_succ ly, ?_⟩
              rw [eaz, e2, Bool.or_true]
              cases ys <;> rfl
            · exact ⟨s9.trans (hd1_same s10), ys, s10 _ _ hL, by omega, by rw [eaz, Bool.eq_false_iff.mpr e2, Bool.or_false, ih9]⟩
          rintro H9 ⟨s9, ys, hL, ly, ih9⟩
          rw [lbz, List.take_length, held p mp] at ih9
          refine ⟨Nat.zero_le _, fun e9 ne9 => ?_⟩
          have s10 := same_upd (o := HO.lst []) ne9
          have s8A := (show Same H8 H9 from fun b o e => hd1_le _ _ (s9 _ _ e)).trans s10
          refine ⟨L, e9, ys, rfl, rfl, SqL.of (s10 _ _ hL), SqL.of upd_same, _, rfl, ?_⟩
          rw [ih9]
          have fl : flashM a b p = !(hrow p a || hrow p b) := by
            unfold flashM
            rw [e1, Bool.true_and, Bool.not_or]
          refine ite2 (fun e2 => ?_) (fun e2 => ?_)
          · have z := q2 _ (s08.trans s8A)
            rw [any_stop hp (fl.trans e2)] at z
            exact z
          · refine ⟨_, rfl, s58.trans s8A, ?_⟩
            rw [ea, fl]
            exact Bool.eq_false_iff.mpr e2
        · refine ⟨_, rfl, (s6.trans s7).trans s8, ?_⟩
          rw [ea]
          unfold flashM
          rw [Bool.eq_false_iff.mpr e1, Bool.false_and]
      · rintro σ H6 ⟨y6, rfl, s6, ih⟩
        have lp' := lp
        rw [lp, List.take_length] at ih
        have z := q2 H6 (s05.trans s6)
        rw [ih] at z
        exact z
def sp_l_is_free (K : PySem.W.Frag) : Sp := fun vs H Q _ => ∃ (wa cv : Addr) (m : Nat) (bs : List Bool) (cs : List Ch) (ps : List (List Nat)), vs = [.ref wa, .ref cv] ∧ Tk H (.ref wa) (wishD m bs cs) ∧ WishOk m bs cs ∧ CovAt H cv m ps ∧ CovOk m ps ∧ ps.length ≤ 64 ∧ ∀ H', Same H H' → Q (.bl (freeM m bs cs ps)) H'
theorem ok_l_is_free (T : Tx K mg) : FnOk P w K mg base CX0 4 T.f_l_is_free T.fd_l_is_free ["_law_wish_here", "_law_cover_here"] (sp_l_is_free K) := by
  refine T.F_l_is_free.ok sc_l_is_free (fun vs H Q E h => ?_) (fun cdv A outer s H vs Q E hr h => ?_)
  · obtain ⟨wa, cv, m, bs, cs, ps, rfl, _⟩ := h
    rfl
  · obtain ⟨wa, cv, m, bs, cs, ps, rfl, tw, ok, ca, okp, l64, q⟩ := h
    obtain ⟨_, t, xs, e, hw, ht, tx⟩ := tw.wish_inv
    cases e
    have m1 := ok.m1
    have m4 := ok.m4
    have lb := ok.lb
    refine ⟨_, (pss_cons (ps_for PassesOwn.never rfl (pi_enum (by rfl) T.m_enumerate (pa_cons (pe_call (ok_rows T) (hr.mono (by decide)) (by rfl) T.g_rows T.F_rows.kp T.b_rows .nil pass0 (pa_cons (pe_ix ix_tup (pv 0) pe_int (fun _ _ => rfl)) pa_nil)) pa_nil)) (pg_tup rfl (pgs_cons (pg_name (i := 2) sc_l_is_free.nd rfl (by first | exact .inl rfl | exact .inr rfl)) (pgs_cons (pg_name (i := 3) sc_l_is_free.nd rfl (by first | exact .inl rfl | exact .inr rfl)) pgs_nil))) (pss_one (ps_if (pt_cmpR op_ne (pe_call (ok_told_worth T) (hr.mono (by decide)) (by rfl) T.g_told_worth T.F_told_worth.kp T.b_told_worth .nil pass0 (pa_cons (pv 1) (pa_cons (pv 3) pa_nil))) (pe_callTy call_int_str (by rfl) T.m_int (by decide +kernel) (pa_cons (pe_item_str (pe_ix ix_tup (pv 0) pe_int (fun _ _ => rfl)) (pv 2) (fun _ _ => rfl)) pa_nil)) (nomark _)) (pss_one (ps_ret pe_bl)) pss_nil))) (pss_one (ps_ret (pe_cmpR (NeL.op_eqN hr.units) (pe_lc (own := [("_law_change_here", 4)]) (by rfl) sc_l_is_free.nd (pi_tup (pe_ix ix_tup (pv 0) pe_int (fun _ _ => rfl))) (blkOk_by (own := [("_law_change_here", 4)]) (N := ["_law_wish_here", "_law_cover_here", "_law_k", "_law_row", "_law_change_here"]) (sc := defScope s_l_is_free) (by decide +kernel)) (fun _ _ _ _ _ => (pg_name (i := 4) sc_l_is_free.nd rfl (by first | exact .inl rfl | exact .inr rfl))) (fun _ _ _ _ _ => (pts_one (pt_val (pe_call (ok_fro T) (hr.mono (by decide)) (by rfl) T.g_fro T.F_fro.kp T.b_fro .nil pass0 (pa_cons (pv 1) (pa_cons (pv 4) pa_nil)))))) (fun _ _ _ _ _ => (pv 4))) (pe_lst pa_nil) (nomark _))))), ?_⟩
    refine ⟨.ref wa, rfl, wa, _, _, .int m, rfl, rfl, SqT.of hw, rfl, m, rfl, m1, by omega, fun r H1 nr s1 tr => ?_⟩
    obtain ⟨_, rs, e, hr1, trs⟩ := tr.lst_inv
    cases e
    rw [rowsUI (by omega)] at trs
    have lrs : rs.length = 2 ^ m := by
      have := trs.length
      rw [List.length_map] at this
      rw [this, rowsI_len (by omega)]
    refine ⟨r, rs, rfl, SqL.of hr1, ?_⟩
    obtain ⟨pt, hcv, hpt⟩ := id ca
    have caS : ∀ {H'}, Same H H' → CovAt H' cv m ps := fun s => ⟨pt, s _ _ hcv, s _ _ hpt⟩
    refine for_enumL (K := K) (a := r) (xs := rs) (fun j σ H' => ∃ y2 y3, σ = [some (.ref wa), some (.ref cv), y2, y3, none] ∧ Same H1 H' ∧ ((rowsI m).take j).all (fun r => decide (toldM ps r = oneB bs r)) = true) ⟨_, _, rfl, Same.refl _, rfl⟩ (fun j σ H' _ ⟨_, _, _, g, _⟩ => SqL.of (g _ _ hr1)) ?_ ?_
    · rintro j x Tq σ H2 hx nT ⟨y2, y3, rfl, g, ih⟩
      obtain ⟨ra, rw', rfl, hrw, hra⟩ := Tk.row_at trs hx
      have hj := (List.getElem?_eq_some_iff.mp hx).1
      have l16 : 2 ^ m ≤ 16 := Nat.pow_le_pow_right (by decide) m4
      obtain ⟨b, hb⟩ : ∃ b, bs[j]? = some b := ⟨_, List.getElem?_eq_getElem (by omega)⟩
      obtain ⟨lr, or⟩ := rowsI_ok (by omega) rw' (List.mem_of_getElem? hrw)
      have eb := row_gate (show m ≤ 6 by omega) hrw hb
      have sT := same_upd (o := HO.tup [.int (j : Nat), .ref ra]) nT
      have gT := g.trans sT
      refine ⟨Tq, _, rfl, SqT.of upd_same, rfl, _, _, rfl, _, _, rfl, rfl, ?_⟩
      refine ⟨.ref cv, rfl, .ref ra, rfl, cv, ra, m, ps, rw', rfl, caS (s1.trans gT), okp, l64, gT _ _ hra, or, lr, by omega, fun H3 s3 => ?_⟩
      have s03 := (s1.trans gT).trans s3
      have tc : (tabOf bs).cps[(((j : Nat) : Int)).toNat]? = some (bitS b) := by
        have := tab_cps (bs := bs) (k := j) (by omega)
        rw [show bs[j]'(by omega) = b from by rw [List.getElem?_eq_getElem (by omega)] at hb; exact Option.some.inj hb] at this
        exact this
      have hS : intText? (one (bitS b)) = some (if b = true then 1 else 0) := by cases b <;> decide +kernel
      refine ⟨.ref wa, rfl, wa, _, _, .str (tabOf bs), rfl, rfl, SqT.of (s03 _ _ hw), rfl, .int (j : Nat), rfl, tabOf bs, ((j : Nat) : Int), _, rfl, rfl, by omega, by omega, by rw [tab_len]; omega, tc, one (bitS b), _, rfl, hS, (by show 1 ≤ 640; decide), rfl, _, rfl, ?_⟩
      have ev : (!decide (V.int (bI (toldM ps rw')) = V.int (if b = true then 1 else 0))) = !decide (toldM ps rw' = oneB bs rw') := by
        rw [eb]
        cases toldM ps rw' <;> cases b <;> rfl
      rw [ev]
      refine ite2 (fun e => ?_) (fun e => ⟨_, _, rfl, gT.trans s3, all_take1 hrw ih (by simpa using e)⟩)
      have z := q H3 s03
      unfold freeM at z
      rw [all_stop1 hrw (by simpa using e), Bool.false_and] at z
      exact z
    · rintro σ H2 ⟨y2, y3, rfl, g, ih⟩
      rw [lrs, List.take_of_length_le (by rw [rowsI_len (by omega)]; exact Nat.le_refl _)] at ih
      have gg := s1.trans g
      have lx := tx.length
      rw [List.length_map] at lx
      have lc := ok.lc
      have ht2 := gg _ _ ht
      refine ⟨.ref wa, rfl, wa, _, _, .ref t, rfl, rfl, SqT.of (gg _ _ hw), rfl, t, rfl, ⟨_, SqT.of ht2⟩, fun L nL => ?_⟩
      refine lc_tup (K := K) (a := t) (xs := xs) (fun j H' => Same H2 (hd1 L H') ∧ ∃ ys, H' L = some (.lst ys) ∧ ys.length ≤ j ∧ ys.isEmpty = (cs.take j).all fun c => !froB ps c.1 c.2) ⟨hd1_of (same_upd nL) nL, [], upd_same, Nat.zero_le _, rfl⟩ (fun j H' _ z => SqT.of (hd1_le _ _ (z.1 _ _ ht2))) ?_ ?_
      · rintro j x H3 hx ⟨s3, ys, hL, ly, ey⟩
        obtain ⟨c, hc, tc⟩ := tx.at hx
        have hj := (List.getElem?_eq_some_iff.mp hx).1
        have s3' : Same H H3 := gg.trans fun b o e => hd1_le _ _ (s3 _ _ e)
        obtain ⟨cc, rfl, hcc⟩ := ChAt.of_tk (tc.same s3')
        have okc := ok.oc c (List.mem_of_getElem? hc)
        have ec : (cs.take (j + 1)).all (fun c => !froB ps c.1 c.2) = (ys.isEmpty && !froB ps c.1 c.2) := by
          rw [List.take_add_one, hc, List.all_append, ey]
          simp
        refine ⟨rfl, .ref cv, rfl, .ref cc, rfl, cv, cc, m, ps, c.1, c.2, rfl, caS s3', okp, l64, hcc, okc, fun H4 s4 => ⟨_, rfl, ite2 (fun e => ?_) (fun e => ?_)⟩⟩
        · refine ⟨.ref cc, rfl, ys, s4 _ _ hL, Nat.lt_of_lt_of_le (show _ < 128 by omega) (by decide), (s3.trans (hd1_same s4)).trans hd1_upd, ys ++ [V.ref cc], upd_same, by rw [List.length_append]; exact Nat.succ_le_succ ly, ?_⟩
          rw [ec, e]
          cases ys <;> rfl
        · refine ⟨s3.trans (hd1_same s4), ys, s4 _ _ hL, by omega, ?_⟩
          rw [ec, Bool.eq_false_iff.mpr e]
          cases ys <;> rfl
      · rintro H3 ⟨s3, ys, hL, ly, ey⟩
        rw [lx, List.take_length] at ey
        refine ⟨Nat.zero_le _, fun e0 ne0 => ?_⟩
        have s4 := same_upd (o := HO.lst []) ne0
        refine ⟨L, e0, ys, rfl, rfl, SqL.of (s4 _ _ hL), SqL.of upd_same, ?_⟩
        have z := q _ ((gg.trans fun b o e => hd1_le _ _ (s3 _ _ e)).trans s4)
        unfold freeM at z
        rw [ih, Bool.true_and] at z
        rw [ey]
        exact z

end
end Gk

set_option Elab.async false
set_option linter.all false
set_option maxRecDepth 100000
set_option maxHeartbeats 1000000
set_option pp.maxSteps 1500
set_option pp.deepTerms false
namespace Gk
open PySem PySem.Spec PyProof.Rows L2

section
variable {P : Program} {w : World} {K : PySem.W.Frag} {mg : Str → Option Value} {base : Heap}
/-! ### the document's other words -/
theorem ask_all {m : Nat} {bs : List Bool} {cs : List Ch} (ok : WishOk m bs cs) (f : List Nat → Bool) : (askedL m bs cs).all f = (askedM m bs cs).all f := by
  have m4 := ok.m4
  have okl := askedL_ok (bs := bs) (show m ≤ 6 by omega) ok.oc
  unfold askedM
  rw [Bool.eq_iff_iff, List.all_eq_true, List.all_eq_true]
  constructor
  · intro h p hp
    exact h p (of_decide_eq_true (List.mem_filter.mp hp).2)
  · intro h p hp
    exact h p (List.mem_filter.mpr ⟨prodsU_mem (okl p hp), decide_eq_true hp⟩)
def sp_other_words (K : PySem.W.Frag) : Sp := fun vs H Q _ => ∃ (wa cv : Addr) (m : Nat) (bs : List Bool) (cs : List Ch) (ps : List (List Nat)), vs = [.ref wa, .ref cv] ∧ Tk H (.ref wa) (wishD m bs cs) ∧ WishOk m bs cs ∧ CovAt H cv m ps ∧ CovOk m ps ∧ ps.length ≤ 64 ∧ ∀ H', Same H H' → Q (.bl (otherM m bs cs ps)) H'
theorem ok_other_words (T : Tx K mg) : FnOk P w K mg base CX0 4 T.f_other_words T.fd_other_words ["_law_wish_here", "_law_cover_here"] (sp_other_words K) := by
  refine T.F_other_words.ok sc_other_words (fun vs H Q E h => ?_) (fun cdv A outer s H vs Q E hr h => ?_)
  · obtain ⟨wa, cv, m, bs, cs, ps, rfl, _⟩ := h
    rfl
  · obtain ⟨wa, cv, m, bs, cs, ps, rfl, tw, ok, ca, okp, l64, q⟩ := h
    have m1 := ok.m1
    have m4 := ok.m4
    refine ⟨_, (pss_cons (ps_if (pt_cmpR (NeL.op_neN hr.units) (pe_lc (own := [("_law_product_here", 3)]) (by rfl) sc_other_words.nd (pi_tup (pe_ix ix_tup (pv 1) pe_int (fun _ _ => rfl))) (blkOk_by (own := [("_law_product_here", 3)]) (N := ["_law_wish_here", "_law_cover_here", "_law_one", "_law_product_here"]) (sc := defScope s_other_words) (by decide +kernel)) (fun _ _ _ _ _ => (pg_name (i := 3) sc_other_words.nd rfl (by first | exact .inl rfl | exact .inr rfl))) (fun _ _ _ _ _ => (pts_one (pt_not (pt_val (pe_call (ok_allowed T) (hr.mono (by decide)) (by rfl) T.g_allowed T.F_allowed.kp T.b_allowed .nil pass0 (pa_cons (pv 0) (pa_cons (pv 3) pa_nil))))))) (fun _ _ _ _ _ => (pv 3))) (pe_lst pa_nil) (nomark _)) (pss_one (ps_ret pe_bl)) pss_nil) (pss_cons (ps_for PassesOwn.never rfl (pi_list (pe_call (ok_asked T) (hr.mono (by decide)) (by rfl) T.g_asked T.F_asked.kp T.b_asked .nil pass0 (pa_cons (pv 0) pa_nil))) (pg_name (i := 2) sc_other_words.nd rfl (by first | exact .inl rfl | exact .inr rfl)) (pss_one (ps_if (pt_cmpR (NeL.op_eqN hr.units) (pe_lc (own := [("_law_product_here", 3)]) (by rfl) sc_other_words.nd (pi_tup (pe_ix ix_tup (pv 1) pe_int (fun _ _ => rfl))) (blkOk_by (own := [("_law_product_here", 3)]) (N := ["_law_wish_here", "_law_cover_here", "_law_one", "_law_product_here"]) (sc := defScope s_other_words) (by decide +kernel)) (fun _ _ _ _ _ => (pg_name (i := 3) sc_other_words.nd rfl (by first | exact .inl rfl | exact .inr rfl))) (fun _ _ _ _ _ => (pts_one (pt_val (pe_call (ok_inside T) (hr.mono (by decide)) (by rfl) T.g_inside T.F_inside.kp T.b_inside .nil pass0 (pa_cons (pv 3) (pa_cons (pv 2) pa_nil)))))) (fun _ _ _ _ _ => (pv 3))) (pe_lst pa_nil) (nomark _)) (pss_one (ps_ret pe_bl)) pss_nil))) (pss_one (ps_ret pe_bl)))), ?_⟩
    obtain ⟨t, hcv, ht⟩ := id ca
    have lp : (pVs ps).length = ps.length := by unfold pVs; rw [List.length_map]
    refine ⟨.ref cv, rfl, cv, _, 1, .ref t, rfl, rfl, SqT.of hcv, rfl, t, rfl, ⟨_, SqT.of ht⟩, fun L nL => ?_⟩
    refine lc_tup (K := K) (a := t) (xs := pVs ps) (fun j H' => Same H (hd1 L H') ∧ ∃ ys, H' L = some (.lst ys) ∧ ys.length ≤ j ∧ ys.isEmpty = (ps.take j).all fun p => (whyM m bs cs p).isNone) ⟨hd1_of (same_upd nL) nL, [], upd_same, Nat.zero_le _, rfl⟩ (fun j H' _ z => SqT.of (hd1_le _ _ (z.1 _ _ ht))) ?_ ?_
    · rintro j v H1 hv ⟨s1, ys, hL, ly, ih⟩
      obtain ⟨p, hp, rfl⟩ := pV_at hv
      have okq := okp p (List.mem_of_getElem? hp)
      have lj := (List.getElem?_eq_some_iff.mp hp).1
      have ea : (ps.take (j + 1)).all (fun p => (whyM m bs cs p).isNone) = (ys.isEmpty && (whyM m bs cs p).isNone) := by
        rw [List.take_add_one, hp, List.all_append, ih]
        simp
      refine ⟨rfl, .ref wa, rfl, .str (SX.S p), rfl, wa, m, bs, cs, p, rfl, tw.same (fun b o e => hd1_le _ _ (s1 _ _ e)), ok, okq, fun H2 s2 => ⟨_, rfl, ite2 (fun e => ?_) (fun e => ?_)⟩⟩
      · have e1 : (whyM m bs cs p).isNone = false := by simpa using e
        refine ⟨.str (SX.S p), rfl, ys, s2 _ _ hL, Nat.lt_of_lt_of_le (show _ < 128 by omega) (by decide), (s1.trans (hd1_same s2)).trans hd1_upd, ys ++ [V.str (SX.S p)], upd_same, by rw [List.length_append]; exact Nat.succ_le_succ ly, ?_⟩
        rw [ea, e1, Bool.and_false]
        cases ys <;> rfl
      · have e1 : (whyM m bs cs p).isNone = true := by simpa using e
        exact ⟨s1.trans (hd1_same s2), ys, s2 _ _ hL, by omega, by rw [ea, e1, Bool.and_true]⟩
    rintro H1 ⟨s1, ys, hL, ly, ih⟩
    rw [lp, List.take_length] at ih
    refine ⟨Nat.zero_le _, fun e0 ne0 => ?_⟩
    have s2 := same_upd (o := HO.lst []) ne0
    have s02 := (show Same H H1 from fun b o e => hd1_le _ _ (s1 _ _ e)).trans s2
    refine ⟨L, e0, ys, rfl, rfl, SqL.of (s2 _ _ hL), SqL.of upd_same, _, rfl, ?_⟩
    rw [ih]
    refine ite2 (fun e => ?_) (fun e => ?_)
    · have z := q _ s02
      unfold otherM at z
      rw [show (ps.all fun p => (whyM m bs cs p).isNone) = false from by simpa using e, Bool.false_and] at z
      exact z
    have e1 : (ps.all fun p => (whyM m bs cs p).isNone) = true := by simpa using e
    unfold otherM at q
    rw [e1, Bool.true_and, ask_all ok] at q
    refine ⟨.ref wa, rfl, wa, m, bs, cs, rfl, tw.same s02, ok, fun r H3 nr s3 hr3 => ?_⟩
    have oka : ∀ p ∈ askedM m bs cs, ProdOk m p := fun p hp => prodsU_ok p (List.mem_filter.mp hp).1
    revert hr3 oka q
    generalize askedM m bs cs = as
    intro q hr3 oka
    have la : (pVs as).length = as.length := by unfold pVs; rw [List.length_map]
    have s03 := s02.trans s3
    refine ⟨r, rfl, ⟨_, SqL.of hr3⟩, for_list (K := K) (a := r) (xs := pVs as) (fun j σ H' => ∃ y2, σ = [some (.ref wa), some (.ref cv), y2, none] ∧ Same H3 H' ∧ (as.take j).all (fun a => ps.any fun p => hall p a) = true) ⟨_, rfl, Same.refl _, rfl⟩ (fun j σ H' _ ⟨_, _, z, _⟩ => SqL.of (z _ _ hr3)) ?_ ?_⟩
    · rintro j v σ H4 hv ⟨y2, rfl, s4, ih4⟩
      obtain ⟨a, ha, rfl⟩ := pV_at hv
      have okaa := oka a (List.mem_of_getElem? ha)
      have s04 := s03.trans s4
      have ht4 := s04 _ _ ht
      refine ⟨.ref cv, rfl, cv, _, 1, .ref t, rfl, rfl, SqT.of (s04 _ _ hcv), rfl, t, rfl, ⟨_, SqT.of ht4⟩, fun M nM => ?_⟩
      refine lc_tup (K := K) (a := t) (xs := pVs ps) (fun k H' => Same H4 (hd1 M H') ∧ ∃ ys, H' M = some (.lst ys) ∧ ys.length ≤ k ∧ ys.isEmpty = !((ps.take k).any fun p => hall p a)) ⟨hd1_of (same_upd nM) nM, [], upd_same, Nat.zero_le _, rfl⟩ (fun k H' _ z => SqT.of (hd1_le _ _ (z.1 _ _ ht4))) ?_ ?_
      · rintro k v H5 hv5 ⟨s5, ys, hM, ly, ih5⟩
        obtain ⟨p, hp, rfl⟩ := pV_at hv5
        have okq := okp p (List.mem_of_getElem? hp)
        have lk := (List.getElem?_eq_some_iff.mp hp).1
        have ea : (ps.take (k + 1)).any (fun p => hall p a) = ((ps.take k).any (fun p => hall p a) || hall p a) := by
          rw [List.take_add_one, hp, List.any_append]
          simp
        refine ⟨rfl, .str (SX.S p), rfl, .str (SX.S a), rfl, m, p, a, rfl, okq.1, okaa.1, by omega, fun H6 s6 => ⟨_, rfl, ite2 (fun e => ?_) (fun e => ?_)⟩⟩
        · refine ⟨.str (SX.S p), rfl, ys, s6 _ _ hM, Nat.lt_of_lt_of_le (show _ < 128 by omega) (by decide), (s5.trans (hd1_same s6)).trans hd1_upd, ys ++ [V.str (SX.S p)], upd_same, by rw [List.length_append]; exact Nat.succ_le_succ ly, ?_⟩
          rw [ea, e, Bool.or_true]
          cases ys <;> rfl
        · exact ⟨s5.trans (hd1_same s6), ys, s6 _ _ hM, by omega, by rw [ea, Bool.eq_false_iff.mpr e, Bool.or_false, ih5]⟩
      rintro H5 ⟨s5, ys, hM, ly, ih5⟩
      rw [lp, List.take_length] at ih5
      refine ⟨Nat.zero_le _, fun e9 ne9 => ?_⟩
      have s6 := same_upd (o := HO.lst []) ne9
      have s46 := (show Same H4 H5 from fun b o e => hd1_le _ _ (s5 _ _ e)).trans s6
      refine ⟨M, e9, ys, rfl, rfl, SqL.of (s6 _ _ hM), SqL.of upd_same, _, rfl, ?_⟩
      rw [ih5]
      refine ite2 (fun e => ?_) (fun e => ⟨_, rfl, s4.trans s46, all_take1 ha ih4 (by simpa using e)⟩)
      have z := q _ (s04.trans s46)
      rw [all_stop1 ha (show (ps.any fun p => hall p a) = false from by simpa using e)] at z
      exact z
    · rintro σ H4 ⟨y2, rfl, s4, ih4⟩
      rw [la, List.take_length] at ih4
      have z := q H4 (s03.trans s4)
      rw [ih4] at z
      exact z

end
end Gk

set_option Elab.async false
set_option linter.all false
set_option maxRecDepth 100000
set_option maxHeartbeats 1000000
set_option pp.maxSteps 1500
set_option pp.deepTerms false
namespace Gk
open PySem PySem.Spec PyProof.Rows L2

section
variable {P : Program} {w : World} {K : PySem.W.Frag} {mg : Str → Option Value} {base : Heap}
/-! ### numbers, truths among them -/
namespace NumZ
section
variable {X : Cx}
def nz : V → Option Int
  | .int i => some i
  | .bl b => some (if b = true then 1 else 0)
  | _ => none
def rAddZ : R2 := fun x y H Q => ∃ i j, nz x = some i ∧ y = .int j ∧ Q (.int (i + j)) H
theorem op_addZ : OpR X (binaryOp .Add) rAddZ := by
  intro pins s σ H x y v u Q I rx ry h
  obtain ⟨i, j, hx, rfl, q⟩ := h
  cases x with
  | int k =>
    cases Option.some.inj hx
    exact op_add pins s σ H (.int i) (.int j) v u Q I rx ry ⟨i, j, rfl, rfl, q⟩
  | bl b =>
    cases Option.some.inj hx
    cases (show v = Value.bool b from rx)
    obtain ⟨t, rfl⟩ := ry
    exact PySem.IntBool.add_bool_int ⟨.int _, H, I.tok _, ⟨_, rfl⟩, q⟩
  | _ => cases hx
def rSubZ : R2 := fun x y H Q => ∃ i j, nz x = some i ∧ nz y = some j ∧ ((∃ k, x = .int k) ∨ ∃ k, y = .int k) ∧ Q (.int (i - j)) H
theorem op_subZ : OpR X (binaryOp .Sub) rSubZ := by
  intro pins s σ H x y v u Q I rx ry h
  obtain ⟨i, j, hx, hy, one, q⟩ := h
  cases x with
  | int k =>
    cases Option.some.inj hx
    cases y with
    | int m =>
      cases Option.some.inj hy
      exact op_sub pins s σ H (.int i) (.int j) v u Q I rx ry ⟨i, j, rfl, rfl, q⟩
    | bl b =>
      cases Option.some.inj hy
      obtain ⟨t, rfl⟩ := rx
      cases (show u = Value.bool b from ry)
      exact PySem.IntBool.sub_int_bool ⟨.int _, H, I.tok _, ⟨_, rfl⟩, q⟩
    | _ => cases hy
  | bl b =>
    cases Option.some.inj hx
    cases y with
    | int m =>
      cases Option.some.inj hy
      cases (show v = Value.bool b from rx)
      obtain ⟨t, rfl⟩ := ry
      exact PySem.IntBool.sub_bool_int ⟨.int _, H, I.tok _, ⟨_, rfl⟩, q⟩
    | bl c =>
      rcases one with ⟨k, z⟩ | ⟨k, z⟩ <;> cases z
    | _ => cases hy
  | _ => cases hx
def strZ : V → Str
  | .int i => toString i
  | .bl b => if b = true then Str.ofString "True" else Str.ofString "False"
  | _ => Str.empty
def rStrZ : List V → Hp → VK → Prop := fun xs H Q => ∃ x i, xs = [x] ∧ nz x = some i ∧ i.natAbs.log2 < 1920 ∧ Q (.str (strZ x)) H
theorem call_strZ : CallR X (.type "str") rStrZ := by
  intro pins s σ H xs us Q I r h
  obtain ⟨x, i, rfl, hx, small, q⟩ := h
  cases x with
  | int k =>
    cases Option.some.inj hx
    exact call_str_int pins s σ H [.int i] us Q I r ⟨i, rfl, small, q⟩
  | bl b =>
    obtain ⟨u, rfl, ru⟩ := vals1 r
    cases (show u = Value.bool b from ru)
    refine PySem.P.str_of_bool ⟨.str _, H, I.tok _, ⟨_, rfl⟩, ?_⟩
    cases b <;> exact q
  | _ => cases hx
/-- list(t), a list that is none of the interpreter's own -/
def rListN (K : PySem.W.Frag) : List V → Hp → VK → Prop := fun xs H Q => ∃ p ys, xs = [.ref p] ∧ SqT K H p ys ∧ ∀ l, H l = none → l ≠ sysModules → Q (.ref l) (upd H l (.lst ys))
theorem call_listN : CallR X (.type "list") (rListN X.K) := by
  intro pins s σ H xs us Q I r h
  obtain ⟨p, ys, rfl, src, q⟩ := h
  obtain ⟨u, rfl, rx⟩ := vals1 r
  cases rx
  obtain ⟨items, rv, ⟨o, ho, hc, n, hd⟩, few⟩ := I.tuple src
  refine call_list_seq p (.inr rfl) ho hc hd (fun hp c keep made => ?_) (by rw [List.size_toArray, ← rv.length]; exact few)
  exact ⟨.ref s.heap.objs.size, _, I.laid (t' := s.toks) keep (Nat.le_refl _) (show ObjOk X.prog X.w _ hp _ (.lst ys) from ⟨few, items, c, rv, made⟩), rfl, q _ (I.hok.fresh (Nat.le_refl _)) (Nat.ne_of_gt I.big)⟩
end
end NumZ

/-! ### things that are no covers of as many inputs -/
def Bd (H : Hp) (m : Nat) (v : V) : Prop := ThC H v m none
theorem sh_app {H : Hp} : ∀ {a b : List V} {da db : List PyData}, ShAll H a da → ShAll H b db → ShAll H (a ++ b) (da ++ db)
  | _, _, _, _, .nil, t => t
  | _, _, _, _, .cons h r, t => .cons h (sh_app r t)
theorem w_app : ∀ (a b : List PyData), PyData.weightAll (a ++ b) = PyData.weightAll a + PyData.weightAll b
  | [], b => (Nat.zero_add _).symm
  | x :: r, b => by
    show x.weight + 1 + PyData.weightAll (r ++ b) = x.weight + 1 + PyData.weightAll r + PyData.weightAll b
    rw [w_app r b]
    omega
theorem w_len {k : Nat} : ∀ {ps : List (List Nat)}, (∀ p ∈ ps, p.length = k) → PyData.weightAll (ps.map fun p => PyData.str (SX.S p)) = (k + 1) * ps.length
  | [], _ => rfl
  | p :: r, h => by
    have := w_len (ps := r) fun q hq => h q (List.mem_cons_of_mem _ hq)
    show (SX.S p).length + 1 + PyData.weightAll (r.map fun p => PyData.str (SX.S p)) = _
    rw [this, SX.S_len, h p (List.mem_cons_self ..), List.length_cons, Nat.mul_succ]
    omega
def sp_odd (K : PySem.W.Frag) : Sp := fun vs H Q _ => ∃ (wv : V) (cv : Addr) (m : Nat) (ps : List (List Nat)), vs = [wv, .ref cv] ∧ CovAt H cv m ps ∧ CovOk m ps ∧ 1 ≤ m ∧ m ≤ 4 ∧ ps.length ≤ 48 ∧ ∀ r xs H', H r = none → Same H H' → H' r = some (.lst xs) → xs.length ≤ 64 → (∀ x ∈ xs, Bd H' m x) → Q (.ref r) H'
theorem ok_odd (T : Tx K mg) : FnOk P w K mg base CX0 1 T.f_odd T.fd_odd ["_law_wish_here", "_law_cover_here"] (sp_odd K) := by
  refine T.F_odd.ok sc_odd (fun vs H Q E h => ?_) (fun cdv A outer s H vs Q E hr h => ?_)
  · obtain ⟨wv, cv, m, ps, rfl, _⟩ := h
    rfl
  · obtain ⟨wv, cv, m, ps, rfl, ca, okp, m1, m4, l48, q⟩ := h
    obtain ⟨t, hc, ht⟩ := id ca
    refine ⟨_, (pss_cons (ps_asg (pv 1) (pg_tup rfl (pgs_cons (pg_name (i := 2) sc_odd.nd rfl (by first | exact .inl rfl | exact .inr rfl)) (pgs_cons (pg_name (i := 3) sc_odd.nd rfl (by first | exact .inl rfl | exact .inr rfl)) pgs_nil)))) (pss_cons (ps_set (i := 4) sc_odd.nd rfl (by first | exact .inl rfl | exact .inr rfl) (pe_lst (pa_cons pe_non (pa_cons pe_int (pa_cons pe_str (pa_cons (pe_tup pa_nil) (pa_cons (pe_tup (pa_cons (pv 2) pa_nil)) (pa_cons (pe_callTy NumZ.call_listN (by rfl) T.m_list (by decide +kernel) (pa_cons (pv 1) pa_nil)) (pa_cons (pe_tup (pa_cons (pv 2) (pa_cons (pe_callTy NumZ.call_listN (by rfl) T.m_list (by decide +kernel) (pa_cons (pv 3) pa_nil)) pa_nil))) (pa_cons (pe_tup (pa_cons (pv 2) (pa_cons (pv 3) (pa_cons (pe_tup pa_nil) pa_nil)))) pa_nil)))))))))) (pss_cons (ps_set (i := 4) sc_odd.nd rfl (by first | exact .inl rfl | exact .inr rfl) (pe_op op_cat (pv 4) (pe_lst (pa_cons (pe_tup (pa_cons (pe_op op_add (pv 2) pe_int) (pa_cons (pe_op op_catA (pv 3) (pe_tup (pa_cons (pe_op op_repS pe_str (pv 2)) pa_nil))) pa_nil))) (pa_cons (pe_tup (pa_cons (pv 2) (pa_cons (pe_op op_catA (pv 3) (pe_tup (pa_cons pe_str pa_nil))) pa_nil))) (pa_cons (pe_tup (pa_cons (pv 2) (pa_cons (pe_op op_catA (pv 3) (pe_tup (pa_cons pe_non pa_nil))) pa_nil))) pa_nil)))))) (pss_cons (ps_set (i := 4) sc_odd.nd rfl (by first | exact .inl rfl | exact .inr rfl) (pe_op op_cat (pv 4) (pe_lst (pa_cons (pe_tup (pa_cons (pe_callTy call_str_int (by rfl) T.m_str (by decide +kernel) (pa_cons (pv 2) pa_nil)) (pa_cons (pv 3) pa_nil))) (pa_cons (pe_tup (pa_cons (pe_op op_add (pv 2) pe_int) (pa_cons (pe_tup pa_nil) pa_nil))) (pa_cons (pe_tup (pa_cons pe_int (pa_cons (pe_tup pa_nil) pa_nil))) (pa_cons pe_dnewK pa_nil))))))) (pss_one (ps_ret (pe_op op_cat (pv 4) (pe_lst (pa_cons (pe_tup (pa_cons (pe_op op_add (pv 2) pe_int) (pa_cons (pe_callTy call_tuple_of (by rfl) T.m_tuple (by decide +kernel) (pa_cons (pe_lc (own := [("_law_one", 5)]) (by rfl) sc_odd.nd (pi_tup (pv 3)) (blkOk_by (own := [("_law_one", 5)]) (N := ["_law_wish_here", "_law_cover_here", "_law_many", "_law_some", "_law_found", "_law_one"]) (sc := defScope s_odd) (by decide +kernel)) (fun _ _ _ _ _ => (pg_name (i := 5) sc_odd.nd rfl (by first | exact .inl rfl | exact .inr rfl))) (fun _ _ _ _ _ => pts_nil) (fun _ _ _ _ _ => (pe_op op_add_str (pv 5) pe_str))) pa_nil)) pa_nil))) (pa_cons (pe_tup (pa_cons (pv 2) (pa_cons (pe_op op_repS pe_str (pv 2)) pa_nil))) (pa_cons (pv 3) (pa_cons pe_bl (pa_cons (pe_tup (pa_cons (pv 2) (pa_cons pe_non pa_nil))) pa_nil))))))))))))), ?_⟩
    refine ⟨.ref cv, rfl, cv, _, rfl, SqT.of hc, rfl, _, _, rfl, _, _, rfl, rfl, ?_⟩
    first | (show (_ : L2.St → Hp → Prop) [some (wv), some (.ref cv), some (.int m), some (.ref t), none, none] H) | (unfold gName; show (_ : L2.St → Hp → Prop) [some (wv), some (.ref cv), some (.int m), some (.ref t), none, none] H) | (dsimp only; show (_ : L2.St → Hp → Prop) [some (wv), some (.ref cv), some (.int m), some (.ref t), none, none] H) | (dsimp only [gName]; show (_ : L2.St → Hp → Prop) [some (wv), some (.ref cv), some (.int m), some (.ref t), none, none] H)
    refine ⟨Nat.zero_le _, fun p1 n1 => ?_⟩
    have s1 := same_upd (o := (HO.tup [])) n1
    have h1 : upd H p1 (HO.tup []) p1 = some (HO.tup []) := upd_same
    generalize upd H p1 (HO.tup []) = H1 at s1 h1 ⊢
    refine ⟨.int m, rfl, sl1, fun p2 n2 => ?_⟩
    have s2 := same_upd (o := (HO.tup [.int m])) n2
    have h2 : upd H1 p2 (HO.tup [.int m]) p2 = some (HO.tup [.int m]) := upd_same
    generalize upd H1 p2 (HO.tup [.int m]) = H2 at s2 h2 ⊢
    have z2 := s1.trans s2
    refine ⟨.ref cv, rfl, cv, _, rfl, SqT.of (z2 _ _ hc), fun p3 n3 x3 => ?_⟩
    have s3 := same_upd (o := (HO.lst [.int m, .ref t])) n3
    have h3 : upd H2 p3 (HO.lst [.int m, .ref t]) p3 = some (HO.lst [.int m, .ref t]) := upd_same
    generalize upd H2 p3 (HO.lst [.int m, .ref t]) = H3 at s3 h3 ⊢
    have z3 := z2.trans s3
    refine ⟨.int m, rfl, .ref t, rfl, t, _, rfl, SqT.of (z3 _ _ ht), fun p4 n4 x4 => ?_⟩
    have s4 := same_upd (o := (HO.lst (pVs ps))) n4
    have h4 : upd H3 p4 (HO.lst (pVs ps)) p4 = some (HO.lst (pVs ps)) := upd_same
    generalize upd H3 p4 (HO.lst (pVs ps)) = H4 at s4 h4 ⊢
    refine ⟨sl2, fun p5 n5 => ?_⟩
    have s5 := same_upd (o := (HO.tup [.int m, .ref p4])) n5
    have h5 : upd H4 p5 (HO.tup [.int m, .ref p4]) p5 = some (HO.tup [.int m, .ref p4]) := upd_same
    generalize upd H4 p5 (HO.tup [.int m, .ref p4]) = H5 at s5 h5 ⊢
    refine ⟨.int m, rfl, .ref t, rfl, Nat.zero_le _, fun p6 n6 => ?_⟩
    have s6 := same_upd (o := (HO.tup [])) n6
    have h6 : upd H5 p6 (HO.tup []) p6 = some (HO.tup []) := upd_same
    generalize upd H5 p6 (HO.tup []) = H6 at s6 h6 ⊢
    refine ⟨sl3, fun p7 n7 => ?_⟩
    have s7 := same_upd (o := (HO.tup [.int m, .ref t, .ref p6])) n7
    have h7 : upd H6 p7 (HO.tup [.int m, .ref t, .ref p6]) p7 = some (HO.tup [.int m, .ref t, .ref p6]) := upd_same
    generalize upd H6 p7 (HO.tup [.int m, .ref t, .ref p6]) = H7 at s7 h7 ⊢
    have z7 := z3.trans ((s4.trans s5).trans (s6.trans s7))
    refine ⟨show 8 ≤ sizeLine by decide, fun l1 nl1 => ?_⟩
    have a1 := same_upd (o := (HO.lst [.non, .int 7, .str (Str.ofString ""), .ref p1, .ref p2, .ref p3, .ref p5, .ref p7])) nl1
    have g1 : upd H7 l1 (HO.lst [.non, .int 7, .str (Str.ofString ""), .ref p1, .ref p2, .ref p3, .ref p5, .ref p7]) l1 = some (HO.lst [.non, .int 7, .str (Str.ofString ""), .ref p1, .ref p2, .ref p3, .ref p5, .ref p7]) := upd_same
    generalize upd H7 l1 (HO.lst [.non, .int 7, .str (Str.ofString ""), .ref p1, .ref p2, .ref p3, .ref p5, .ref p7]) = A1 at a1 g1 ⊢
    have y1 := z7.trans a1
    first | (show (_ : L2.St → Hp → Prop) [some (wv), some (.ref cv), some (.int m), some (.ref t), some (.ref l1), none] A1) | (unfold gName; show (_ : L2.St → Hp → Prop) [some (wv), some (.ref cv), some (.int m), some (.ref t), some (.ref l1), none] A1) | (dsimp only; show (_ : L2.St → Hp → Prop) [some (wv), some (.ref cv), some (.int m), some (.ref t), some (.ref l1), none] A1) | (dsimp only [gName]; show (_ : L2.St → Hp → Prop) [some (wv), some (.ref cv), some (.int m), some (.ref t), some (.ref l1), none] A1)
    refine ⟨.ref l1, rfl, .int m, rfl, _, _, rfl, rfl, .ref t, rfl, .int m, rfl, _, _, rfl, rfl, by decide, by omega, by omega, sl1, fun p8 n8 => ?_⟩
    have a2 := same_upd (o := (HO.tup [.str (Txt.mul (Str.ofString "-") (m : Int))])) n8
    have g2 : upd A1 p8 (HO.tup [.str (Txt.mul (Str.ofString "-") (m : Int))]) p8 = some (HO.tup [.str (Txt.mul (Str.ofString "-") (m : Int))]) := upd_same
    generalize upd A1 p8 (HO.tup [.str (Txt.mul (Str.ofString "-") (m : Int))]) = A2 at a2 g2 ⊢
    refine catA ((y1.trans a2) _ _ ht) g2 ?_ fun p9 A3 a3 g3 => ?_
    · unfold pVs
      rw [List.length_map]
      exact Nat.le_trans (show _ ≤ 64 by show ps.length + 1 ≤ 64; omega) (by decide)
    have cat1 : (pVs ps).length + 1 ≤ sizeLine := by
      unfold pVs
      rw [List.length_map]
      exact Nat.le_trans (show _ ≤ 64 by omega) (by decide)
    refine ⟨sl2, fun p10 n10 => ?_⟩
    have a4 := same_upd (o := (HO.tup [.int ((m : Int) + 1), .ref p9])) n10
    have g4 : upd A3 p10 (HO.tup [.int ((m : Int) + 1), .ref p9]) p10 = some (HO.tup [.int ((m : Int) + 1), .ref p9]) := upd_same
    generalize upd A3 p10 (HO.tup [.int ((m : Int) + 1), .ref p9]) = A4 at a4 g4 ⊢
    have y4 := y1.trans ((a2.trans a3).trans a4)
    refine ⟨.int m, rfl, .ref t, rfl, sl1, fun p11 n11 => ?_⟩
    have a5 := same_upd (o := (HO.tup [.str (Str.ofString "")])) n11
    have g5 : upd A4 p11 (HO.tup [.str (Str.ofString "")]) p11 = some (HO.tup [.str (Str.ofString "")]) := upd_same
    generalize upd A4 p11 (HO.tup [.str (Str.ofString "")]) = A5 at a5 g5 ⊢
    refine catA ((y4.trans a5) _ _ ht) g5 cat1 fun p12 A6 a6 g6 => ?_
    refine ⟨sl2, fun p13 n13 => ?_⟩
    have a7 := same_upd (o := (HO.tup [.int m, .ref p12])) n13
    have g7 : upd A6 p13 (HO.tup [.int m, .ref p12]) p13 = some (HO.tup [.int m, .ref p12]) := upd_same
    generalize upd A6 p13 (HO.tup [.int m, .ref p12]) = A7 at a7 g7 ⊢
    have y7 := y4.trans ((a5.trans a6).trans a7)
    refine ⟨.int m, rfl, .ref t, rfl, sl1, fun p14 n14 => ?_⟩
    have a8 := same_upd (o := (HO.tup [.non])) n14
    have g8 : upd A7 p14 (HO.tup [.non]) p14 = some (HO.tup [.non]) := upd_same
    generalize upd A7 p14 (HO.tup [.non]) = A8 at a8 g8 ⊢
    refine catA ((y7.trans a8) _ _ ht) g8 cat1 fun p15 A9 a9 g9 => ?_
    refine ⟨sl2, fun p16 n16 => ?_⟩
    have a10 := same_upd (o := (HO.tup [.int m, .ref p15])) n16
    have g10 : upd A9 p16 (HO.tup [.int m, .ref p15]) p16 = some (HO.tup [.int m, .ref p15]) := upd_same
    generalize upd A9 p16 (HO.tup [.int m, .ref p15]) = A10 at a10 g10 ⊢
    refine ⟨sl3, fun l2 nl2 => ?_⟩
    have a11 := same_upd (o := (HO.lst [.ref p10, .ref p13, .ref p16])) nl2
    have g11 : upd A10 l2 (HO.lst [.ref p10, .ref p13, .ref p16]) l2 = some (HO.lst [.ref p10, .ref p13, .ref p16]) := upd_same
    generalize upd A10 l2 (HO.lst [.ref p10, .ref p13, .ref p16]) = A11 at a11 g11 ⊢
    have w1 : Same A1 A11 := (((a2.trans a3).trans (a4.trans a5)).trans ((a6.trans a7).trans (a8.trans a9))).trans (a10.trans a11)
    refine ⟨l1, l2, _, _, rfl, rfl, w1 _ _ g1, g11, show 11 ≤ sizeLine by decide, fun k1 nk1 => ?_⟩
    have a12 := same_upd (o := (HO.lst ([V.non, .int 7, .str (Str.ofString ""), .ref p1, .ref p2, .ref p3, .ref p5, .ref p7] ++ [V.ref p10, .ref p13, .ref p16]))) nk1
    have g12 : upd A11 k1 (HO.lst ([V.non, .int 7, .str (Str.ofString ""), .ref p1, .ref p2, .ref p3, .ref p5, .ref p7] ++ [V.ref p10, .ref p13, .ref p16])) k1 = some (HO.lst ([V.non, .int 7, .str (Str.ofString ""), .ref p1, .ref p2, .ref p3, .ref p5, .ref p7] ++ [V.ref p10, .ref p13, .ref p16])) := upd_same
    generalize upd A11 k1 (HO.lst ([V.non, .int 7, .str (Str.ofString ""), .ref p1, .ref p2, .ref p3, .ref p5, .ref p7] ++ [V.ref p10, .ref p13, .ref p16])) = A12 at a12 g12 ⊢
    have y12 := y1.trans (w1.trans a12)
    first | (show (_ : L2.St → Hp → Prop) [some (wv), some (.ref cv), some (.int m), some (.ref t), some (.ref k1), none] A12) | (unfold gName; show (_ : L2.St → Hp → Prop) [some (wv), some (.ref cv), some (.int m), some (.ref t), some (.ref k1), none] A12) | (dsimp only; show (_ : L2.St → Hp → Prop) [some (wv), some (.ref cv), some (.int m), some (.ref t), some (.ref k1), none] A12) | (dsimp only [gName]; show (_ : L2.St → Hp → Prop) [some (wv), some (.ref cv), some (.int m), some (.ref t), some (.ref k1), none] A12)
    refine ⟨.ref k1, rfl, .int m, rfl, m, rfl, ?_, ?_⟩
    · have : m = 1 ∨ m = 2 ∨ m = 3 ∨ m = 4 := by omega
      rcases this with rfl | rfl | rfl | rfl <;> decide
    refine ⟨.ref t, rfl, sl2, fun p17 n17 => ?_⟩
    have b1 := same_upd (o := (HO.tup [.str (toString (m : Int)), .ref t])) n17
    have f1 : upd A12 p17 (HO.tup [.str (toString (m : Int)), .ref t]) p17 = some (HO.tup [.str (toString (m : Int)), .ref t]) := upd_same
    generalize upd A12 p17 (HO.tup [.str (toString (m : Int)), .ref t]) = B1 at b1 f1 ⊢
    refine ⟨.int m, rfl, _, _, rfl, rfl, Nat.zero_le _, fun p18 n18 => ?_⟩
    have b2 := same_upd (o := (HO.tup [])) n18
    have f2 : upd B1 p18 (HO.tup []) p18 = some (HO.tup []) := upd_same
    generalize upd B1 p18 (HO.tup []) = B2 at b2 f2 ⊢
    refine ⟨sl2, fun p19 n19 => ?_⟩
    have b3 := same_upd (o := (HO.tup [.int ((m : Int) + 1), .ref p18])) n19
    have f3 : upd B2 p19 (HO.tup [.int ((m : Int) + 1), .ref p18]) p19 = some (HO.tup [.int ((m : Int) + 1), .ref p18]) := upd_same
    generalize upd B2 p19 (HO.tup [.int ((m : Int) + 1), .ref p18]) = B3 at b3 f3 ⊢
    refine ⟨Nat.zero_le _, fun p20 n20 => ?_⟩
    have b4 := same_upd (o := (HO.tup [])) n20
    have f4 : upd B3 p20 (HO.tup []) p20 = some (HO.tup []) := upd_same
    generalize upd B3 p20 (HO.tup []) = B4 at b4 f4 ⊢
    refine ⟨sl2, fun p21 n21 => ?_⟩
    have b5 := same_upd (o := (HO.tup [.int 0, .ref p20])) n21
    have f5 : upd B4 p21 (HO.tup [.int 0, .ref p20]) p21 = some (HO.tup [.int 0, .ref p20]) := upd_same
    generalize upd B4 p21 (HO.tup [.int 0, .ref p20]) = B5 at b5 f5 ⊢
    refine fun p22 n22 => ?_
    have b6 := same_upd (o := (HO.dK [])) n22
    have f6 : upd B5 p22 (HO.dK []) p22 = some (HO.dK []) := upd_same
    generalize upd B5 p22 (HO.dK []) = B6 at b6 f6 ⊢
    refine ⟨show 4 ≤ sizeLine by decide, fun l3 nl3 => ?_⟩
    have b7 := same_upd (o := (HO.lst [.ref p17, .ref p19, .ref p21, .ref p22])) nl3
    have f7 : upd B6 l3 (HO.lst [.ref p17, .ref p19, .ref p21, .ref p22]) l3 = some (HO.lst [.ref p17, .ref p19, .ref p21, .ref p22]) := upd_same
    generalize upd B6 l3 (HO.lst [.ref p17, .ref p19, .ref p21, .ref p22]) = B7 at b7 f7 ⊢
    have u7 : Same A12 B7 := ((b1.trans b2).trans (b3.trans b4)).trans ((b5.trans b6).trans b7)
    refine ⟨k1, l3, _, _, rfl, rfl, u7 _ _ g12, f7, show 15 ≤ sizeLine by decide, fun k2 nk2 => ?_⟩
    have b8 := same_upd (o := (HO.lst (([V.non, .int 7, .str (Str.ofString ""), .ref p1, .ref p2, .ref p3, .ref p5, .ref p7] ++ [V.ref p10, .ref p13, .ref p16]) ++ [V.ref p17, .ref p19, .ref p21, .ref p22]))) nk2
    have f8 : upd B7 k2 (HO.lst (([V.non, .int 7, .str (Str.ofString ""), .ref p1, .ref p2, .ref p3, .ref p5, .ref p7] ++ [V.ref p10, .ref p13, .ref p16]) ++ [V.ref p17, .ref p19, .ref p21, .ref p22])) k2 = some (HO.lst (([V.non, .int 7, .str (Str.ofString ""), .ref p1, .ref p2, .ref p3, .ref p5, .ref p7] ++ [V.ref p10, .ref p13, .ref p16]) ++ [V.ref p17, .ref p19, .ref p21, .ref p22])) := upd_same
    generalize upd B7 k2 (HO.lst (([V.non, .int 7, .str (Str.ofString ""), .ref p1, .ref p2, .ref p3, .ref p5, .ref p7] ++ [V.ref p10, .ref p13, .ref p16]) ++ [V.ref p17, .ref p19, .ref p21, .ref p22])) = B8 at b8 f8 ⊢
    have y8 := y12.trans (u7.trans b8)
    first | (show (_ : L2.St → Hp → Prop) [some (wv), some (.ref cv), some (.int m), some (.ref t), some (.ref k2), none] B8) | (unfold gName; show (_ : L2.St → Hp → Prop) [some (wv), some (.ref cv), some (.int m), some (.ref t), some (.ref k2), none] B8) | (dsimp only; show (_ : L2.St → Hp → Prop) [some (wv), some (.ref cv), some (.int m), some (.ref t), some (.ref k2), none] B8) | (dsimp only [gName]; show (_ : L2.St → Hp → Prop) [some (wv), some (.ref cv), some (.int m), some (.ref t), some (.ref k2), none] B8)
    refine ⟨.ref k2, rfl, .int m, rfl, _, _, rfl, rfl, ?_⟩
    have ht8 := y8 _ _ ht
    refine ⟨.ref t, rfl, t, rfl, ⟨_, SqT.of ht8⟩, fun D nD => ?_⟩
    refine lc_tup (K := K) (g := gName 5) (a := t) (xs := pVs ps) (fun j H' => Same B8 (hd1 D H') ∧ H' D = some (.lst (pVs ((ps.take j).map (· ++ [45]))))) ⟨hd1_of (same_upd nD) nD, upd_same⟩ (fun j H' _ z => SqT.of (hd1_le _ _ (z.1 _ _ ht8))) ?_ ?_
    · rintro j v C1 hv ⟨c1, hD⟩
      obtain ⟨p, hp, rfl⟩ := pV_at hv
      have okq := okp p (List.mem_of_getElem? hp)
      obtain ⟨e1, e2⟩ := sg_add p dash_S (by have := okq.1; omega)
      refine ⟨rfl, .str (SX.S p), rfl, _, _, rfl, rfl, e1, ?_⟩
      rw [e2]
      refine ⟨_, hD, ?_, c1.trans hd1_upd, ?_⟩
      · unfold pVs
        rw [List.length_map, List.length_map, List.length_take]
        exact Nat.lt_of_lt_of_le (show _ < 64 by omega) (by decide)
      · rw [upd_same, List.take_add_one, hp]
        unfold pVs
        simp
    rintro C1 ⟨c1, hD⟩
    rw [show (pVs ps).length = ps.length by unfold pVs; rw [List.length_map], List.take_length] at hD
    have c1' : Same B8 C1 := fun b o e => hd1_le _ _ (c1 _ _ e)
    refine ⟨D, _, rfl, .inl ⟨SqL.of hD, fun p23 n23 => ?_⟩⟩
    have c2 := same_upd (o := (HO.tup (pVs (ps.map (· ++ [45]))))) n23
    have k2' : upd C1 p23 (HO.tup (pVs (ps.map (· ++ [45])))) p23 = some (HO.tup (pVs (ps.map (· ++ [45])))) := upd_same
    generalize upd C1 p23 (HO.tup (pVs (ps.map (· ++ [45])))) = C2 at c2 k2' ⊢
    refine ⟨sl2, fun p24 n24 => ?_⟩
    have c3 := same_upd (o := (HO.tup [.int ((m : Int) + 1), .ref p23])) n24
    have k3' : upd C2 p24 (HO.tup [.int ((m : Int) + 1), .ref p23]) p24 = some (HO.tup [.int ((m : Int) + 1), .ref p23]) := upd_same
    generalize upd C2 p24 (HO.tup [.int ((m : Int) + 1), .ref p23]) = C3 at c3 k3' ⊢
    refine ⟨.int m, rfl, .int m, rfl, _, _, rfl, rfl, by decide, by omega, by omega, sl2, fun p25 n25 => ?_⟩
    have c4 := same_upd (o := (HO.tup [.int m, .str (Txt.mul (Str.ofString "-") (m : Int))])) n25
    have k4' : upd C3 p25 (HO.tup [.int m, .str (Txt.mul (Str.ofString "-") (m : Int))]) p25 = some (HO.tup [.int m, .str (Txt.mul (Str.ofString "-") (m : Int))]) := upd_same
    generalize upd C3 p25 (HO.tup [.int m, .str (Txt.mul (Str.ofString "-") (m : Int))]) = C4 at c4 k4' ⊢
    refine ⟨.ref t, rfl, .int m, rfl, sl2, fun p26 n26 => ?_⟩
    have c5 := same_upd (o := (HO.tup [.int m, .non])) n26
    have k5' : upd C4 p26 (HO.tup [.int m, .non]) p26 = some (HO.tup [.int m, .non]) := upd_same
    generalize upd C4 p26 (HO.tup [.int m, .non]) = C5 at c5 k5' ⊢
    refine ⟨show 5 ≤ sizeLine by decide, fun l4 nl4 => ?_⟩
    have c6 := same_upd (o := (HO.lst [.ref p24, .ref p25, .ref t, .bl true, .ref p26])) nl4
    have k6' : upd C5 l4 (HO.lst [.ref p24, .ref p25, .ref t, .bl true, .ref p26]) l4 = some (HO.lst [.ref p24, .ref p25, .ref t, .bl true, .ref p26]) := upd_same
    generalize upd C5 l4 (HO.lst [.ref p24, .ref p25, .ref t, .bl true, .ref p26]) = C6 at c6 k6' ⊢
    have v6 : Same B8 C6 := (c1'.trans (c2.trans c3)).trans ((c4.trans c5).trans c6)
    refine ⟨k2, l4, _, _, rfl, rfl, v6 _ _ f8, k6', show 20 ≤ sizeLine by decide, fun k3 nk3 => ?_⟩
    have c7 := same_upd (o := HO.lst ((([V.non, .int 7, .str (Str.ofString ""), .ref p1, .ref p2, .ref p3, .ref p5, .ref p7] ++ [V.ref p10, .ref p13, .ref p16]) ++ [V.ref p17, .ref p19, .ref p21, .ref p22]) ++ [V.ref p24, .ref p25, .ref t, .bl true, .ref p26])) nk3
    have yG := (y8.trans v6).trans c7
    have nk0 : H k3 = none := by
      cases z : H k3 with
      | none => rfl
      | some o => rw [(y8.trans v6) _ _ z] at nk3; cases nk3
    refine q k3 _ _ nk0 yG upd_same (show 20 ≤ 64 by decide) ?_
    generalize upd C6 k3 _ = G at c7 yG
    have e8 : Same B8 G := v6.trans c7
    have e12 : Same A12 G := (u7.trans b8).trans e8
    have e1 : Same A1 G := (w1.trans a12).trans e12
    have e7 : Same H7 G := a1.trans e1
    have eC5 : Same C5 G := c6.trans c7
    have eC4 : Same C4 G := c5.trans eC5
    have eC3 : Same C3 G := c4.trans eC4
    have eC2 : Same C2 G := c3.trans eC3
    have eB7 : Same B7 G := b8.trans e8
    have eB6 : Same B6 G := b7.trans eB7
    have eB5 : Same B5 G := b6.trans eB6
    have eB4 : Same B4 G := b5.trans eB5
    have eB3 : Same B3 G := b4.trans eB4
    have eB2 : Same B2 G := b3.trans eB3
    have eB1 : Same B1 G := b2.trans eB2
    have eA11 : Same A11 G := a12.trans e12
    have eA10 : Same A10 G := a11.trans eA11
    have eA9 : Same A9 G := a10.trans eA10
    have eA8 : Same A8 G := a9.trans eA9
    have eA7 : Same A7 G := a8.trans eA8
    have eA6 : Same A6 G := a7.trans eA7
    have eA5 : Same A5 G := a6.trans eA6
    have eA4 : Same A4 G := a5.trans eA5
    have eA3 : Same A3 G := a4.trans eA4
    have eH6 : Same H6 G := s7.trans e7
    have eH5 : Same H5 G := s6.trans eH6
    have eH4 : Same H4 G := s5.trans eH5
    have eH3 : Same H3 G := s4.trans eH4
    have eH2 : Same H2 G := s3.trans eH3
    have eH1 : Same H1 G := s2.trans eH2
    have sT : Sh G (.ref t) (.tuple (ps.map fun p => PyData.str (SX.S p))) := .tup (yG _ _ ht) (sh_strs ps)
    have wT : PyData.weightAll (ps.map fun p => PyData.str (SX.S p)) ≤ 300 := by
      rw [w_strs okp]
      exact Nat.le_trans (Nat.mul_le_mul (show m + 1 ≤ 5 by omega) l48) (by decide)
    have wT2 : PyData.weightAll ((ps.map (· ++ [45])).map fun p => PyData.str (SX.S p)) ≤ 300 := by
      have ok2 : ∀ p ∈ ps.map (· ++ [45]), p.length = m + 1 := fun p hp => by
        obtain ⟨p', hp', rfl⟩ := List.mem_map.mp hp
        rw [List.length_append, (okp p' hp').1]
        rfl
      rw [w_len ok2, List.length_map]
      exact Nat.le_trans (Nat.mul_le_mul (show m + 1 + 1 ≤ 6 by omega) l48) (by decide)
    have wm : (PyData.str (Txt.mul (Str.ofString "-") (m : Int))).weight ≤ 8 := by
      have : ((List.range 5).all fun m => decide ((PyData.str (Txt.mul (Str.ofString "-") (m : Nat))).weight ≤ 8)) = true := by decide +kernel
      exact of_decide_eq_true (List.all_eq_true.mp this m (List.mem_range.mpr (by omega)))
    have wi : (PyData.int (m : Nat)).weight ≤ 8 ∧ (PyData.int ((m : Int) + 1)).weight ≤ 8 ∧ (PyData.str (toString (m : Int))).weight ≤ 8 := by
      have : ((List.range 5).all fun m => decide ((PyData.int (m : Nat)).weight ≤ 8) && (decide ((PyData.int ((m : Nat) + 1)).weight ≤ 8) && decide ((PyData.str (toString ((m : Nat) : Int))).weight ≤ 8))) = true := by decide +kernel
      have := List.all_eq_true.mp this m (List.mem_range.mpr (by omega))
      rw [Bool.and_eq_true, Bool.and_eq_true] at this
      exact ⟨of_decide_eq_true this.1, of_decide_eq_true this.2.1, of_decide_eq_true this.2.2⟩
    obtain ⟨wi1, wi2, wi3⟩ := wi
    have ne1 : (m : Int) + 1 ≠ m := by omega
    have ne0 : (0 : Int) ≠ m := by omega
    have m6b : (decide ((1 : Int) ≤ m) && (decide ((m : Int) ≤ 6) && false)) = false := by rw [Bool.and_false, Bool.and_false]
    have app : ∀ (x : PyData), isProdD m x = false → isCovD (.tuple [.int m, .tuple ((ps.map fun p => PyData.str (SX.S p)) ++ [x])]) = false := fun x hx => by
      show (decide ((1 : Int) ≤ m) && (decide ((m : Int) ≤ 6) && ((ps.map fun p => PyData.str (SX.S p)) ++ [x]).all (isProdD m))) = false
      rw [List.all_append, show [x].all (isProdD m) = false from by show (isProdD m x && true) = false; rw [hx]; rfl, Bool.and_false, Bool.and_false, Bool.and_false]
    intro x hx
    simp only [List.mem_append, List.mem_cons, List.not_mem_nil, or_false] at hx
    rcases hx with (((rfl | rfl | rfl | rfl | rfl | rfl | rfl | rfl) | (rfl | rfl | rfl)) | (rfl | rfl | rfl | rfl)) | (rfl | rfl | rfl | rfl | rfl)
    · exact ⟨_, .non, by decide, .inl rfl⟩
    · exact ⟨_, .int 7, by decide, .inl rfl⟩
    · exact ⟨_, .str _, by decide +kernel, .inl rfl⟩
    · exact ⟨_, .tup (eH1 _ _ h1) .nil, by decide, .inl rfl⟩
    · exact ⟨_, .tup (eH2 _ _ h2) (.cons (.int _) .nil), by show (PyData.int (m : Nat)).weight + 1 + 0 ≤ 50000; omega, .inl rfl⟩
    · exact ⟨_, .lst (eH3 _ _ h3) x3 (.cons (.int _) (.cons sT .nil)), by show (PyData.int (m : Nat)).weight + 1 + (PyData.weightAll _ + 1 + 0) ≤ 50000; omega, .inl rfl⟩
    · exact ⟨_, .tup (eH5 _ _ h5) (.cons (.int _) (.cons (.lst (eH4 _ _ h4) x4 (sh_strs ps)) .nil)), by show (PyData.int (m : Nat)).weight + 1 + (PyData.weightAll _ + 1 + 0) ≤ 50000; omega, .inl rfl⟩
    · exact ⟨_, .tup (e7 _ _ h7) (.cons (.int _) (.cons sT (.cons (.tup (eH6 _ _ h6) .nil) .nil))), by show (PyData.int (m : Nat)).weight + 1 + (PyData.weightAll _ + 1 + (0 + 1 + 0)) ≤ 50000; omega, .inl rfl⟩
    · exact ⟨_, .tup (eA4 _ _ g4) (.cons (.int _) (.cons (.tup (eA3 _ _ g3) (sh_app (sh_strs ps) (.cons (.str _) .nil))) .nil)), by
        show (PyData.int ((m : Int) + 1)).weight + 1 + (PyData.weightAll (_ ++ [_]) + 1 + 0) ≤ 50000
        rw [w_app]
        show _ + 1 + (_ + ((PyData.str (Txt.mul (Str.ofString "-") (m : Int))).weight + 1 + 0) + 1 + 0) ≤ 50000
        omega, .inr ⟨_, _, ne1, rfl⟩⟩
    · exact ⟨_, .tup (eA7 _ _ g7) (.cons (.int _) (.cons (.tup (eA6 _ _ g6) (sh_app (sh_strs ps) (.cons (.str _) .nil))) .nil)), by
        show (PyData.int (m : Nat)).weight + 1 + (PyData.weightAll (_ ++ [_]) + 1 + 0) ≤ 50000
        rw [w_app]
        show _ + 1 + (_ + (0 + 1 + 0) + 1 + 0) ≤ 50000
        omega, .inl (app _ (by
        show (decide (((Str.ofString "").length : Int) = m) && _) = false
        rw [show (Str.ofString "").length = 0 from by decide +kernel, decide_eq_false (show ¬ ((0 : Nat) : Int) = m by omega), Bool.false_and]))⟩
    · exact ⟨_, .tup (eA10 _ _ g10) (.cons (.int _) (.cons (.tup (eA9 _ _ g9) (sh_app (sh_strs ps) (.cons .non .nil))) .nil)), by
        show (PyData.int (m : Nat)).weight + 1 + (PyData.weightAll (_ ++ [_]) + 1 + 0) ≤ 50000
        rw [w_app]
        show _ + 1 + (_ + (0 + 1 + 0) + 1 + 0) ≤ 50000
        omega, .inl (app _ rfl)⟩
    · exact ⟨_, .tup (eB1 _ _ f1) (.cons (.str _) (.cons sT .nil)), by show (PyData.str (toString (m : Int))).weight + 1 + (PyData.weightAll _ + 1 + 0) ≤ 50000; omega, .inl rfl⟩
    · exact ⟨_, .tup (eB3 _ _ f3) (.cons (.int _) (.cons (.tup (eB2 _ _ f2) .nil) .nil)), by show (PyData.int ((m : Int) + 1)).weight + 1 + (0 + 1 + 0) ≤ 50000; omega, .inr ⟨_, _, ne1, rfl⟩⟩
    · exact ⟨_, .tup (eB5 _ _ f5) (.cons (.int _) (.cons (.tup (eB4 _ _ f4) .nil) .nil)), by decide, .inr ⟨_, _, ne0, rfl⟩⟩
    · exact ⟨_, .dic (eB6 _ _ f6) .nil, by decide, .inl rfl⟩
    · exact ⟨_, .tup (eC3 _ _ k3') (.cons (.int _) (.cons (.tup (eC2 _ _ k2') (sh_strs _)) .nil)), by show (PyData.int ((m : Int) + 1)).weight + 1 + (PyData.weightAll _ + 1 + 0) ≤ 50000; omega, .inr ⟨_, _, ne1, rfl⟩⟩
    · exact ⟨_, .tup (eC4 _ _ k4') (.cons (.int _) (.cons (.str _) .nil)), by show (PyData.int (m : Nat)).weight + 1 + ((PyData.str (Txt.mul (Str.ofString "-") (m : Int))).weight + 1 + 0) ≤ 50000; omega, .inl rfl⟩
    · refine ⟨_, sT, Nat.le_trans (show PyData.weightAll _ ≤ 300 from wT) (by decide), .inl ?_⟩
      match ps with
      | [] => rfl
      | [_] => rfl
      | [_, _] => rfl
      | _ :: _ :: _ :: _ => rfl
    · exact ⟨_, .bl true, by decide, .inl rfl⟩
    · exact ⟨_, .tup (eC5 _ _ k5') (.cons (.int _) (.cons .non .nil)), by show (PyData.int (m : Nat)).weight + 1 + (0 + 1 + 0) ≤ 50000; omega, .inl rfl⟩

end
end Gk

set_option Elab.async false
set_option linter.all false
set_option maxRecDepth 100000
set_option maxHeartbeats 2000000
set_option pp.maxSteps 900
namespace Gk
open PySem PySem.Spec PyProof.Rows L2
/-! ### tuple * int, an empty tuple too -/
namespace RpA
open PySem PySem.Spec PyProof.Rows L2
/-- an empty tuple is told as itself -/
theorem mul_none (l : Addr) (n : Nat) (dd : Option Addr) (sl : Array (Option Value)) (x : Int) (u : Tok) (c0 : (decide (x < -(2 ^ 63)) || decide (x ≥ 2 ^ 63)) = false) :
    Meets (Builtin.«tuple.__mul__» ⟨[.ref l, .int x u], []⟩) (fun _ R s => s.heap.get? l = some { cls := .type "tuple", dict := dd, data := .seq #[] n, slots := sl } ∧
      R (.ok (.ret (Value.ref l))) s) :=
  .of_wp fun prog w A R s h => by
    obtain ⟨hp, g, d, tk, os⟩ := s
    obtain ⟨hl, h⟩ := h
    have f1 := AutoSeq1.idx_int
    wp_walk using wpAny_loadPart' hl
    repeat (first
      | (refine wpAny_ite_false (decide_eq_false (by rw [c0]; exact Bool.false_ne_true)) ?_; wp_walk using wpAny_loadPart' hl)
      | (refine wpAny_ite_true (decide_eq_true rfl) ?_; wp_walk using wpAny_loadPart' hl))
    exact ⟨_, rfl, h⟩
def rRepA (K : PySem.W.Frag) : R2 := fun x y H Q => ∃ l k xs, x = .ref l ∧ y = .int k ∧ SqT K H l xs ∧ 2 ≤ k ∧ k ≤ 1000 ∧ xs.length ≤ 1000 ∧ (xs = [] → Q (.ref l) H) ∧ (xs ≠ [] → ∀ p, H p = none → Q (.ref p) (upd H p (.tup (List.replicate k.toNat xs).flatten)))
theorem op_repTA {X : Cx} : OpR X (binaryOp .Mult) (rRepA X.K) := by
  intro pins s σ H x y v u Q I rx ry h
  obtain ⟨l, k, xs, rfl, rfl, hT, h1, h2, hz, q0, q1⟩ := h
  cases xs with
  | cons a r => exact op_repT pins s σ H _ _ v u Q I rx ry ⟨l, k, a :: r, rfl, rfl, hT, (fun z => by cases z), h1, h2, hz, q1 fun z => by cases z⟩
  | nil =>
    cases rx
    obtain ⟨t, rfl⟩ := ry
    obtain ⟨its, r, ⟨⟨cls, dd, data, sl⟩, ho, hc, n, hd⟩, hs⟩ := I.tuple hT
    simp only at hc hd
    subst hc hd
    cases r
    have c0 : (decide (k < -(2 ^ 63)) || decide (k ≥ 2 ^ 63)) = false := by
      rw [decide_eq_false (by omega), decide_eq_false (by omega)] <;> rfl
    refine wpAny_binaryOp_repeat_ref (T := "tuple") (U := "int") (by decide) ⟨_, ho, rfl⟩ (fun s' => typeIs_int s' k t) noFill_tuple_mul F.fills_int_mul F.slot_int_rmul repeat_tuple F.slot_int_index.lookup
      (call_meets F.slot_int_rmul (typeIs_int s k t) F.entry_int_rmul (F.args_int_rmul_2 _ _) (int_rmul_tuple k t l #[] n dd sl)
        ⟨ho, rfl, ⟨_, ho, rfl⟩, call_meets F.slot_tuple_mul ⟨_, ho, rfl⟩ F.entry_tuple_mul (F.args_tuple_mul_2 _ _) (mul_none l n dd sl k t c0) ⟨ho, ?_⟩⟩)
    exact ⟨.ref l, H, I, rfl, q0 rfl⟩
end RpA

/-! ### text.replace(sign, e[0], 1), a token out -/
namespace Rp1
open PySem PySem.Spec PyProof.Rows L2 Builtin Builtin.Str CwR
def repl1 (x y z : PySem.Str) : PySem.Str :=
  if ((occurrences x y 0 x.length 1).isEmpty || (y.length == 0 && z.length == 0)) = true then x
  else glued z (partsBetween x (occurrences x y 0 x.length 1) y.length)
def repOk (x y z : PySem.Str) : Bool := (!(y == z)) && ((!tooLong (x.length + (occurrences x y 0 x.length 1).length * z.length)) && decide ((repl1 x y z).length ≤ 1024))
theorem repl1_tree (x y z : PySem.Str) (t u v n : Tok) : «str.replace» ⟨[.str x t, .str y u, .str z v, .int 1 n], []⟩ =
    (if ((occurrences x y 0 x.length 1).isEmpty || (y.length == 0 && z.length == 0)) = true then (do rule "str.replace.nothing"; ret (.str x t)) else
          (do let same ← isSame (.str y u) (.str z v)
              if same = true then (do rule "str.replace.old-is-new"; ret (.str x t)) else
              if tooLong (x.length + (occurrences x y 0 x.length 1).length * z.length) = true then unsupported "str.replace:memory" else
              retStr (glued z (partsBetween x (occurrences x y 0 x.length 1) y.length)))) := by
  show (do let limit ← countLimit "str.replace" (some (.int 1 n)) (x.length + 1); _) = _
  rw [countLimit_int "str.replace" 1 n (x.length + 1) (by decide)]
  rfl
theorem gives_repl1 (x y z : PySem.Str) (t u v n : Tok) (h0 : (u == 0 || v == 0) = false) (huv : (u == v) = false) (hyz : (y == z) = false) (hl : tooLong (x.length + (occurrences x y 0 x.length 1).length * z.length) = false) :
    Gives («str.replace» ⟨[.str x t, .str y u, .str z v, .int 1 n], []⟩) (if ((occurrences x y 0 x.length 1).isEmpty || (y.length == 0 && z.length == 0)) = true then .val (.str x t) else .str (glued z (partsBetween x (occurrences x y 0 x.length 1) y.length))) := by
  rw [repl1_tree]
  cases hc : ((occurrences x y 0 x.length 1).isEmpty || (y.length == 0 && z.length == 0))
  · rw [isSame_str_other y z u v h0 huv hyz, hl]
    exact .of_eq rfl
  · exact .rule (.of_eq rfl)
section
variable {prog : Program} {w : World} {A : Around} {E : Value → Shared → Prop} {s : Shared} {x y z : PySem.Str} {t u v n : Tok} {Q : Value → Shared → Prop}
theorem call_repl1 (hu : u ≠ 0) (hv : v ≠ 0) (huv : u ≠ v) (ok : repOk x y z = true) (hq : ∀ t' k, Q (.str (repl1 x y z) t') { s with toks := k }) : wpAny (model prog w) A (call (.builtin "str.replace") [.str x t, .str y u, .str z v, .int 1 n]) Q E s := by
  unfold repOk at ok
  rw [Bool.and_eq_true, Bool.and_eq_true, Bool.not_eq_true', Bool.not_eq_true', decide_eq_true_eq] at ok
  obtain ⟨hyz, hl, hs⟩ := ok
  refine call_gives F.slot_str_replace (typeIs_str _ _ _) F.entry_str_replace (F.args_str_replace_4 _ _ _ _) (gives_repl1 x y z t u v n (by simp [hu, hv]) (by simp [huv]) hyz hl) ?_
  have hq' := hq
  unfold repl1 at hq' hs
  cases hc : ((occurrences x y 0 x.length 1).isEmpty || (y.length == 0 && z.length == 0))
  · rw [hc] at hq' hs
    simp only [Bool.false_eq_true, if_false] at hq' hs ⊢
    exact ⟨Nat.le_trans hs (by rw [sizeLine_eq]; decide), hq' _ _⟩
  · rw [hc] at hq'
    simp only [if_true] at hq' ⊢
    exact hq' t s.toks
end
section
variable {X : Cx} {o e c : Expr} {te tc : TE} {to : TE} {y : PySem.Str} {j0 j1 j2 : Nat} {c0 c1 c2 sp apos pos : Pos}
def tRepl1 (to te : TE) (y : PySem.Str) : TE := fun σ H Q => to σ H fun v H1 => ∃ x, v = .str x ∧ te σ H1 fun v2 H2 => ∃ (z : PySem.Str) (d : Nat), v2 = .str z ∧ z.cps[0]? = some d ∧ repOk x y ⟨#[d]⟩ = true ∧ Q (.str (repl1 x y ⟨#[d]⟩)) H2
theorem pet_repl1 (ho : PE X o to) (he : PET X e te)
    (hst : starEach [.Constant (.str y) j0 c0, .Subscript e (.Constant (.int 0) j1 c1) sp, .Constant (.int 1) j2 c2] X.env = [(false, eval (.Constant (.str y) j0 c0) X.env), (false, eval (.Subscript e (.Constant (.int 0) j1 c1) sp) X.env), (false, eval (.Constant (.int 1) j2 c2) X.env)] := by rfl)
    (hs : PlainIx (.Constant (.int 0) j1 c1) := by intro _ _; rfl)
    (hbase : attributeBase o "replace" X.env (eval o X.env) = eval o X.env := by rfl) (hline : (apos.endLine == pos.line) = true := by rfl) :
    PET X (.Call (.Attribute o "replace" apos) [.Constant (.str y) j0 c0, .Subscript e (.Constant (.int 0) j1 c1) sp, .Constant (.int 1) j2 c2] [] pos) (tRepl1 to te y) := by
  intro pins s σ H Q h0 I h
  refine wpAny_Call_method_lateS hbase (by rw [hst]; rfl) hline (wpAny_mono (PySem.wpAny_toks (ho.run pins s σ H _ I h)) (fun v s1 q => ?_) fun _ _ z => z.2)
  obtain ⟨hk, v', H1, I1, r1, x, e1, q⟩ := q
  subst e1
  obtain ⟨tx, e2⟩ := r1
  subst e2
  rw [hst]
  show MethodOnS X.prog X.w X.A X.xe "replace" (.str x tx) pos [(false, eval (.Constant (.str y) j0 c0) X.env), (false, eval (.Subscript e (.Constant (.int 0) j1 c1) sp) X.env), (false, eval (.Constant (.int 1) j2 c2) X.env)] (EP X pins σ Q) s1
  refine ⟨"str", _, PySem.F.plainAttrs_str, PySem.F.slot_str_replace, PySem.F.type_str_replace, typeIs_str _ _ _, (fun _ e => nomatch e), Calls.callWith_builtin rfl (Calls.evalArgs_plain (Calls.spliced_cons ?_))⟩
  refine Calls.Constant_str (Calls.spliced_cons ?_)
  refine Subscript_ (wpAny_mono (PySem.wpAny_toks (he pins { s1 with toks := s1.toks + 1 } σ H1 _ (by show 1 ≤ s1.toks + 1; omega) (I1.tok _) q)) (fun v2 s2 q2 => ?_) fun _ _ z => z.2)
  obtain ⟨hk2, v2', H2, I2, r2, z, d, e3, hd, okr, q⟩ := q2
  subst e3
  obtain ⟨tz, e4⟩ := r2
  subst e4
  replace hk2 : s1.toks + 1 ≤ s2.toks := hk2
  have lz : 0 < z.length := (Array.getElem?_eq_some_iff.mp hd).1
  have e : seqIndex? 0 z.length = some 0 := PySem.StrLaws.seqIndex_nonneg (by decide) (by omega)
  refine wpAny_Constant_int (tail_any (typeIs_str _ z tz) slot_str_getitem.lookup (getItem_str (c := d) (by decide) (by rw [e]; exact hd) ?_) (hs _ _))
  refine Calls.spliced_cons (wpAny_Constant_int (Calls.spliced_nil ?_))
  exact call_repl1 (by show s1.toks ≠ 0; omega) (by show s2.toks + 1 ≠ 0; omega) (by show s1.toks ≠ s2.toks + 1; omega) okr fun t' k => ⟨.str (repl1 x y ⟨#[d]⟩), H2, I2.tok k, ⟨t', rfl⟩, q⟩
end
/-! a test that gives a token out -/
def PTG (X : Cx) (e : Expr) (t : TT) : Prop :=
  ∀ (pins : List (Addr × Obj)) (s : Shared) (σ : L2.St) (H : Hp) (Q : Bool → Hp → Prop), Inv X pins σ H s → t σ H Q → wpAny (model X.prog X.w) X.A (isTrue e X.env (eval e X.env)) (fun b s' => 1 ≤ s'.toks ∧ TP X pins σ Q b s') X.xe s
section
variable {X : Cx} {a c : Expr} {ta te : TE} {tc tB : TT} {t u : TS} {pos : Pos}
theorem ptg_cmp {op : CmpOp} {r : R2} {k : Int} {j : Nat} {cp : Pos} (ho : OpR X (compareOp op) r) (ha : PE X a ta) (hm : behindInMarks op (.Constant (.int k) j cp) = false) : PTG X (.Compare a [op] [.Constant (.int k) j cp] pos) (tTest (tOp r ta (tC (.int k)))) := by
  intro pins s σ H Q I h
  refine wpAny_isTrue_Compare1 (thn (ha.run pins s σ H _ I h) fun v s1 ⟨x, H1, I1, r1, q1⟩ => wpAny_Constant_int (wpAny_mono (PySem.wpAny_toks (ho pins { s1 with toks := s1.toks + 1 } σ H1 x (.int k) v _ _ (I1.tok _) r1 ⟨_, rfl⟩ q1)) (fun c s3 q3 => ?_) fun _ _ z => z.2)) hm
  obtain ⟨hk, z, H3, I3, r3, k', e, q3⟩ := q3
  replace hk : s1.toks + 1 ≤ s3.toks := hk
  subst e
  cases r3
  exact wpAny_truthy_bool ⟨by omega, H3, I3, q3⟩
theorem ptg_and (ha : PTG X a tc) (hb : PW X (.BoolOp .And [c] pos) tB) : PTG X (.BoolOp .And [a, c] pos) (tAnd tc tB) := by
  intro pins s σ H Q I h
  refine isTrue_and (thn (ha pins s σ H _ I h) fun d s1 q => ?_)
  obtain ⟨hk, H1, I1, q1⟩ := q
  cases d with
  | true => exact wpAny_mono (PySem.wpAny_toks (hb.run _ pins s1 σ H1 Q I1 q1)) (fun _ s2 q => ⟨Nat.le_trans hk q.1, q.2⟩) fun _ _ z => z.2
  | false => exact ⟨hk, H1, I1, q1⟩
theorem ps_ifT {b d : List Stmt} (hc : PTG X c tc) (ha : PSsT X b t) (hb : PSs X d u) : PS X (.If c b d pos) (tIfS tc t u) := by
  refine ⟨fun pins s σ H D I h => ?_⟩
  refine wpAny_If (thn (hc pins s σ H _ I h) fun d s1 q => ?_)
  obtain ⟨hk, H1, I1, q1⟩ := q
  cases d with
  | true => exact ha pins s1 σ H1 D hk I1 q1
  | false => exact hb.run pins s1 σ H1 D I1 q1
theorem pst_asg {tg : Expr} {g : TG} (he : PET X c te) (hg : PG X tg g) (hs : swapsWithSole [tg] c pos.line X.env = pure false := by rfl) (hw : swappedStores [tg] c X.env = pure none := by rfl)
    (h1 : (assignEach [tg] X.env).map (·.2) = [assign tg X.env] := by rfl) : PST X (.Assign [tg] c pos) (tAsg te g) := by
  intro pins s σ H D h0 I h
  refine wpAny_Assign_stores (thn (he pins s σ H _ h0 I h) fun v s1 ⟨x, H1, I1, r1, q1⟩ => ?_) hs hw
  rw [h1]
  exact thn (hg.run pins s1 σ H1 x v _ I1 r1 q1) fun _ s2 q => q
end
end Rp1

section
variable {P : Program} {w : World} {K : PySem.W.Frag} {mg : Str → Option Value} {base : Heap}
/-! ### a cover drawn -/
theorem more1B : ((List.range 5).all fun m => (prodsU m).all fun p => m == 0 || (match (Txt.replace (SX.S p) (Str.ofString "-") (Str.ofString "1")).cps[0]? with | some c => c == 48 || c == 49 | none => false)) = true := by decide +kernel
theorem rep1B : ((List.range 5).all fun m => (prodsU m).all fun p => [48, 49].all fun c => Rp1.repOk (SX.S p) (Str.ofString "-") ⟨#[c]⟩ && (prodsU m).contains (Rp1.repl1 (SX.S p) (Str.ofString "-") ⟨#[c]⟩).cps.toList) = true := by decide +kernel
theorem more_at {m : Nat} {p : List Nat} (m1 : 1 ≤ m) (m4 : m ≤ 4) (ok : ProdOk m p) : ∃ c, (Txt.replace (SX.S p) (Str.ofString "-") (Str.ofString "1")).cps[0]? = some c ∧ (c = 48 ∨ c = 49) := by
  have h := List.all_eq_true.mp (List.all_eq_true.mp more1B m (List.mem_range.mpr (by omega))) p (prodsU_mem ok)
  rw [show (m == 0) = false from beq_eq_false_iff_ne.mpr (by omega), Bool.false_or] at h
  revert h
  cases (Txt.replace (SX.S p) (Str.ofString "-") (Str.ofString "1")).cps[0]? with
  | none => intro h; cases h
  | some c =>
    intro h
    refine ⟨c, rfl, ?_⟩
    simpa using h
theorem rep_at {m c : Nat} {p : List Nat} (m4 : m ≤ 4) (ok : ProdOk m p) (hc : c = 48 ∨ c = 49) : Rp1.repOk (SX.S p) (Str.ofString "-") ⟨#[c]⟩ = true ∧ ∃ q, Rp1.repl1 (SX.S p) (Str.ofString "-") ⟨#[c]⟩ = SX.S q ∧ ProdOk m q := by
  have h := List.all_eq_true.mp (List.all_eq_true.mp (List.all_eq_true.mp rep1B m (List.mem_range.mpr (by omega))) p (prodsU_mem ok)) c (by simpa using hc)
  rw [Bool.and_eq_true] at h
  refine ⟨h.1, (Rp1.repl1 (SX.S p) (Str.ofString "-") ⟨#[c]⟩).cps.toList, ?_, prodsU_ok _ (by simpa using h.2)⟩
  show _ = (⟨_⟩ : PySem.Str)
  simp
theorem pVs_len (ps : List (List Nat)) : (pVs ps).length = ps.length := by unfold pVs; rw [List.length_map]
theorem pVs_snoc (ps : List (List Nat)) (p : List Nat) : pVs (ps ++ [p]) = pVs ps ++ [V.str (SX.S p)] := by unfold pVs; rw [List.map_append]; rfl
theorem pVs_app (ps qs : List (List Nat)) : pVs (ps ++ qs) = pVs ps ++ pVs qs := by unfold pVs; rw [List.map_append]
theorem pVs_take (ps : List (List Nat)) (k : Nat) : (pVs ps).take k = pVs (ps.take k) := by unfold pVs; rw [List.map_take]
theorem pVs_drop (ps : List (List Nat)) (k : Nat) : (pVs ps).drop k = pVs (ps.drop k) := by unfold pVs; rw [List.map_drop]
theorem pVs_few {ps : List (List Nat)} (h : ps.length < 1024) : (pVs ps).length < sizeLine := by rw [pVs_len]; exact Nat.lt_of_lt_of_le h (by decide)
theorem CovOk.snoc {m : Nat} {ps : List (List Nat)} {p : List Nat} (h : CovOk m ps) (hp : ProdOk m p) : CovOk m (ps ++ [p]) := fun r hr => by
  rcases List.mem_append.mp hr with z | z
  · exact h r z
  · rw [List.mem_singleton.mp z]; exact hp
theorem CovOk.app {m : Nat} {ps qs : List (List Nat)} (h : CovOk m ps) (h' : CovOk m qs) : CovOk m (ps ++ qs) := fun r hr => by
  rcases List.mem_append.mp hr with z | z
  · exact h r z
  · exact h' r z
theorem CovOk.take {m : Nat} {ps : List (List Nat)} (k : Nat) (h : CovOk m ps) : CovOk m (ps.take k) := fun r hr => h r (List.mem_of_mem_take hr)
theorem CovOk.drop {m : Nat} {ps : List (List Nat)} (k : Nat) (h : CovOk m ps) : CovOk m (ps.drop k) := fun r hr => h r (List.mem_of_mem_drop hr)
def CvM (H : Hp) (d l wa : Addr) (way k : Int) (z3 y5 y6 y7 : Option V) (more : List Nat) (m b : Nat) (n : Int) : L2.St → Hp → Prop := fun σ H' => ∃ S ps, σ = [some (.ref d), some (.ref wa), some (.int way), z3, some (.ref S), y5, y6, y7, some (.int k), some (.str (SX.S more)), none, none] ∧ DeckG H' d l n ∧ Fr d l H H' ∧ H S = none ∧ H' S = some (.lst (pVs ps)) ∧ ps.length ≤ b ∧ CovOk m ps
def sp_cover (K : PySem.W.Frag) : Sp := fun vs H Q _ => ∃ (d l wa : Addr) (n : Int) (m : Nat) (bs : List Bool) (cs : List Ch), vs = [.ref d, .ref wa] ∧ DeckG H d l n ∧ n < 800000000 ∧ Tk H (.ref wa) (wishD m bs cs) ∧ WishOk m bs cs ∧ ∀ c ps H', DeckG H' d l (n + 1000) → Fr d l H H' → CovAt H' c m ps → CovOk m ps → ps.length ≤ 16 → Q (.ref c) H'
theorem ok_cover (T : Tx K mg) : FnOk P w K mg base CX0 4 T.f_cover T.fd_cover ["_law_deck_here", "_law_wish_here"] (sp_cover K) := by
  refine T.F_cover.ok sc_cover (fun vs H Q E h => ?_) (fun cdv A outer s H vs Q E hr h => ?_)
  · obtain ⟨d, l, wa, n, m, bs, cs, rfl, _⟩ := h
    rfl
  · obtain ⟨d, l, wa, n, m, bs, cs, rfl, D, hn, tw, ok, q⟩ := h
    have m1 := ok.m1
    have m4 := ok.m4
    have p81 := prodsU_81 m4
    have nlw := noL_wish m bs cs
    refine ⟨_, (pss_cons (ps_set (i := 2) sc_cover.nd rfl (by first | exact .inl rfl | exact .inr rfl) (pe_call (ok_next T) (hr.mono (by decide)) (by rfl) T.g_next T.F_next.kp T.b_next .nil pass0 (pa_cons (pv 0) (pa_cons pe_int pa_nil)))) (pss_cons (ps_setLc (i := 3) (own := [("_law_one", 5)]) (by rfl) sc_cover.nd rfl rfl (sw_true rfl rfl rfl (by decide +kernel)) (pi_list (pe_call (ok_all_products T) (hr.mono (by decide)) (by rfl) T.g_all_products T.F_all_products.kp T.b_all_products .nil pass0 (pa_cons (pe_ix ix_tup (pv 1) pe_int (fun _ _ => rfl)) pa_nil))) (blkOk_by (own := [("_law_one", 5)]) (N := ["_law_deck_here", "_law_wish_here", "_law_way", "_law_menu", "_law_some", "_law_one", "_law_holders", "_law_near", "_law_at", "_law_more", "_law_product_here", "_law_k"]) (sc := defScope s_cover) (by decide +kernel)) (fun _ _ _ _ _ => (pg_name (i := 5) sc_cover.nd rfl (by first | exact .inl rfl | exact .inr rfl))) (fun _ _ _ _ _ => (pts_one (pt_val (pe_call (ok_allowed T) (hr.mono (by decide)) (by rfl) T.g_allowed T.F_allowed.kp T.b_allowed .nil pass0 (pa_cons (pv 1) (pa_cons (pv 5) pa_nil)))))) (fun _ _ _ _ _ => (pv 5))) (pss_cons (ps_set (i := 4) sc_cover.nd rfl (by first | exact .inl rfl | exact .inr rfl) (pe_lst pa_nil)) (pss_cons (ps_for PassesOwn.never rfl (pi_list (pe_call (ok_asked T) (hr.mono (by decide)) (by rfl) T.g_asked T.F_asked.kp T.b_asked .nil pass0 (pa_cons (pv 1) pa_nil))) (pg_name (i := 5) sc_cover.nd rfl (by first | exact .inl rfl | exact .inr rfl)) (pss_cons (ps_setLc (i := 6) (own := [("_law_product_here", 10)]) (by rfl) sc_cover.nd rfl rfl (sw_true rfl rfl rfl (by decide +kernel)) (pi_list (pv 3)) (blkOk_by (own := [("_law_product_here", 10)]) (N := ["_law_deck_here", "_law_wish_here", "_law_way", "_law_menu", "_law_some", "_law_one", "_law_holders", "_law_near", "_law_at", "_law_more", "_law_product_here", "_law_k"]) (sc := defScope s_cover) (by decide +kernel)) (fun _ _ _ _ _ => (pg_name (i := 10) sc_cover.nd rfl (by first | exact .inl rfl | exact .inr rfl))) (fun _ _ _ _ _ => (pts_one (pt_val (pe_call (ok_inside T) (hr.mono (by decide)) (by rfl) T.g_inside T.F_inside.kp T.b_inside .nil pass0 (pa_cons (pv 10) (pa_cons (pv 5) pa_nil)))))) (fun _ _ _ _ _ => (pv 10))) (pss_cons (ps_setLc (i := 7) (own := [("_law_product_here", 10)]) (by rfl) sc_cover.nd rfl rfl (sw_true rfl rfl rfl (by decide +kernel)) (pi_list (pv 4)) (blkOk_by (own := [("_law_product_here", 10)]) (N := ["_law_deck_here", "_law_wish_here", "_law_way", "_law_menu", "_law_some", "_law_one", "_law_holders", "_law_near", "_law_at", "_law_more", "_law_product_here", "_law_k"]) (sc := defScope s_cover) (by decide +kernel)) (fun _ _ _ _ _ => (pg_name (i := 10) sc_cover.nd rfl (by first | exact .inl rfl | exact .inr rfl))) (fun _ _ _ _ _ => (pts_one (pt_val (pe_call (ok_inside T) (hr.mono (by decide)) (by rfl) T.g_inside T.F_inside.kp T.b_inside .nil pass0 (pa_cons (pv 10) (pa_cons (pv 5) pa_nil)))))) (fun _ _ _ _ _ => (pv 10))) (pss_one (ps_if (pt_cut (pw_and (pt_cmpR (NeL.op_neN hr.units) (pv 6) (pe_lst pa_nil) (nomark _)) (pw_and1 (pt_cmpR (NeL.op_eqN hr.units) (pv 7) (pe_lst pa_nil) (nomark _)))).pt) (pss_one (ps_expr (pe_bm PySem.F.plainAttrs_list PySem.F.slot_list_insert PySem.F.type_list_insert mt_insert (pv 4) (pa_cons (pe_call (ok_next T) (hr.mono (by decide)) (by rfl) T.g_next T.F_next.kp T.b_next .nil pass0 (pa_cons (pv 0) (pa_cons (pe_op op_add (pe_callB call_len_seq (by rfl) T.m_len PySem.boot_len (pa_cons (pv 4) pa_nil)) pe_int) pa_nil))) (pa_cons (pe_ix ix_list (pv 6) (pe_call (ok_next T) (hr.mono (by decide)) (by rfl) T.g_next T.F_next.kp T.b_next .nil pass0 (pa_cons (pv 0) (pa_cons (pe_callB call_len_seq (by rfl) T.m_len PySem.boot_len (pa_cons (pv 6) pa_nil)) pa_nil))) (fun _ _ => rfl)) pa_nil))))) pss_nil))))) (pss_cons (ps_set (i := 8) sc_cover.nd rfl (by first | exact .inl rfl | exact .inr rfl) (pe_call (ok_next T) (hr.mono (by decide)) (by rfl) T.g_next T.F_next.kp T.b_next .nil pass0 (pa_cons (pv 0) (pa_cons (pe_op op_add (pe_callB call_len_seq (by rfl) T.m_len PySem.boot_len (pa_cons (pv 4) pa_nil)) pe_int) pa_nil)))) (pss_cons (ps_set (i := 9) sc_cover.nd rfl (by first | exact .inl rfl | exact .inr rfl) (pe_call (ok_product T) (hr.mono (by decide)) (by rfl) T.g_product T.F_product.kp T.b_product .nil pass0 (pa_cons (pv 0) (pa_cons (pe_ix ix_tup (pv 1) pe_int (fun _ _ => rfl)) pa_nil)))) (C8.pss_cut (ps_if (pt_cmpR op_eq (pv 2) pe_int (nomark _)) (pss_one (ps_set (i := 4) sc_cover.nd rfl (by first | exact .inl rfl | exact .inr rfl) (pe_op op_cat (pe_slice sl_list (pv 4) po_none (po_some (pv 8))) (pe_slice sl_list (pv 4) (po_some (pe_op op_add (pv 8) pe_int)) po_none)))) pss_nil) (C8.pss_cut (ps_if (pt_cmpR op_eq (pv 2) pe_int (nomark _)) (pss_one (ps_set (i := 4) sc_cover.nd rfl (by first | exact .inl rfl | exact .inr rfl) (pe_op op_cat (pe_op op_cat (pe_slice sl_list (pv 4) po_none (po_some (pv 8))) (pe_lst (pa_cons (pv 9) pa_nil))) (pe_slice sl_list (pv 4) (po_some (pv 8)) po_none)))) pss_nil) (C8.pss_cut (Rp1.ps_ifT (Rp1.ptg_and (Rp1.ptg_cmp op_eq (pv 2) (nomark _)) (pw_and1 (pt_cmpR op_lt (pv 8) (pe_callB call_len_seq (by rfl) T.m_len PySem.boot_len (pa_cons (pv 4) pa_nil)) (nomark _)))) (CwR.psst_one (Rp1.pst_asg (Rp1.pet_repl1 (pe_ix ix_list (pv 4) (pv 8) (fun _ _ => rfl)) (CwR.pet_replC (pv 9))) (pg_sub (pv 4) (pv 8) set_list))) pss_nil) (C8.pss_cut (ps_if (pt_cmpR op_eq (pv 2) pe_int (nomark _)) (pss_one (ps_set (i := 4) sc_cover.nd rfl (by first | exact .inl rfl | exact .inr rfl) (pe_op op_cat (pe_revL (pv 4)) (pe_slice sl_list (pv 4) po_none (po_some pe_int))))) pss_nil) (C8.pss_cut (ps_if (pt_cmpR op_eq (pv 2) pe_int (nomark _)) (pss_one (ps_setLc (i := 4) (own := [("_law_k", 11)]) (by rfl) sc_cover.nd rfl rfl (sw_true rfl rfl rfl (by decide +kernel)) (pi_range1 (by rfl) T.m_range (pa_cons (pe_call (ok_next T) (hr.mono (by decide)) (by rfl) T.g_next T.F_next.kp T.b_next .nil pass0 (pa_cons (pv 0) (pa_cons pe_int pa_nil))) pa_nil)) (blkOk_by (own := [("_law_k", 11)]) (N := ["_law_deck_here", "_law_wish_here", "_law_way", "_law_menu", "_law_some", "_law_one", "_law_holders", "_law_near", "_law_at", "_law_more", "_law_product_here", "_law_k"]) (sc := defScope s_cover) (by decide +kernel)) (fun _ _ _ _ _ => (pg_name (i := 11) sc_cover.nd rfl (by first | exact .inl rfl | exact .inr rfl))) (fun _ _ _ _ _ => pts_nil) (fun _ _ _ _ _ => (pe_call (ok_product T) (hr.mono (by decide)) (by rfl) T.g_product T.F_product.kp T.b_product .nil pass0 (pa_cons (pv 0) (pa_cons (pe_ix (show IxR _ (rIxT K) from ix_tup) (pv 1) pe_int (fun _ _ => rfl)) pa_nil)))))) pss_nil) (pss_one (ps_ret (pe_tup (pa_cons (pe_ix ix_tup (pv 1) pe_int (fun _ _ => rfl)) (pa_cons (pe_callTy call_tuple_of (by rfl) T.m_tuple (by decide +kernel) (pa_cons (pe_slice sl_list (pv 4) po_none (po_some pe_int)) pa_nil)) pa_nil)))))))))))))))), ?_⟩
    refine ⟨.ref d, rfl, d, l, 7, _, rfl, D, by omega, by decide, by decide, fun H1 way D1 fr1 w0 w7 => ?_⟩
    have tw1 := tw.ts (Ts.frG D fr1) nlw
    obtain ⟨_, t, xs, e, hw1, _, _⟩ := tw1.wish_inv
    cases e
    show tSeq _ _ _ [some (.ref d), some (.ref wa), some (.int way), none, none, none, none, none, none, none, none, none] H1
    refine ⟨.ref wa, rfl, wa, _, _, .int m, rfl, rfl, SqT.of hw1, rfl, m, rfl, m1, m4, fun r H2 nr s2 hr2 => ?_⟩
    refine ⟨r, rfl, ⟨_, SqL.of hr2⟩, fun L nL => ?_⟩
    refine lc_list (K := K) (a := r) (xs := pVs (prodsU m)) (fun j H' => Same H2 (hd1 L H') ∧ ∃ mn, H' L = some (.lst (pVs mn)) ∧ mn.length ≤ j ∧ CovOk m mn) ⟨hd1_of (same_upd nL) nL, [], upd_same, Nat.zero_le _, fun p hp => nomatch hp⟩ (fun j H' _ z => SqL.of (hd1_le _ _ (z.1 _ _ hr2))) ?_ ?_
    · rintro j v H3 hv ⟨s3, mn, hL, lm, okm⟩
      obtain ⟨p, hp, rfl⟩ := pV_at hv
      have okp := prodsU_ok p (List.mem_of_getElem? hp)
      have lj := (List.getElem?_eq_some_iff.mp hp).1
      have s13 : Same H1 H3 := s2.trans fun b o e => hd1_le _ _ (s3 _ _ e)
      refine ⟨rfl, .ref wa, rfl, .str (SX.S p), rfl, wa, m, bs, cs, p, rfl, tw1.same s13, ok, okp, fun H4 s4 => ⟨_, rfl, ite2 (fun e => ?_) (fun e => ?_)⟩⟩
      · exact ⟨.str (SX.S p), rfl, _, s4 _ _ hL, pVs_few (by omega), (s3.trans (hd1_same s4)).trans hd1_upd, mn ++ [p], by rw [pVs_snoc]; exact upd_same, by rw [List.length_append]; exact Nat.succ_le_succ lm, okm.snoc okp⟩
      · exact ⟨s3.trans (hd1_same s4), mn, s4 _ _ hL, by omega, okm⟩
    rintro H3 ⟨s3, mn, hL, lm, okm⟩
    rw [pVs_len] at lm
    have s13 : Same H1 H3 := s2.trans fun b o e => hd1_le _ _ (s3 _ _ e)
    show tSeq _ _ _ [some (.ref d), some (.ref wa), some (.int way), some (.ref L), none, none, none, none, none, none, none, none] H3
    refine ⟨Nat.zero_le _, fun S nS => ?_⟩
    have oS := (D1.same s13).off nS
    have nS0 := none_of_frG (fr1.trans (Fr.of s13)) (D1.same s13) nS
    have SL : S ≠ L := fun z => by rw [z, hL] at nS; cases nS
    have s4 := same_upd (o := (HO.lst [])) nS
    have hS : upd H3 S (HO.lst []) S = some (HO.lst []) := upd_same
    generalize upd H3 S (HO.lst []) = H4 at s4 hS ⊢
    have s14 := s13.trans s4
    show tSeq _ _ _ [some (.ref d), some (.ref wa), some (.int way), some (.ref L), some (.ref S), none, none, none, none, none, none, none] H4
    refine ⟨.ref wa, rfl, wa, m, bs, cs, rfl, tw1.same s14, ok, fun r2 H5 nr5 s5 hr5 => ?_⟩
    have oka : CovOk m (askedM m bs cs) := fun p hp => prodsU_ok p (List.mem_filter.mp hp).1
    have la : (askedM m bs cs).length ≤ 81 := Nat.le_trans (List.length_filter_le _ _) p81
    revert hr5 oka la
    generalize askedM m bs cs = as
    intro hr5 oka la
    have s15 := s14.trans s5
    have D5 := D1.same s15
    have hS5 := s5 _ _ hS
    have hL5 := s5 _ _ (s4 _ _ hL)
    have oL : L ≠ d ∧ L ≠ l := by
      obtain ⟨ne, c0, z, y, hd, hl, _⟩ := (D1.same s2)
      exact ⟨(ne_of_none hd nL).symm, (ne_of_none hl nL).symm⟩
    have or : r2 ≠ d ∧ r2 ≠ l := (D1.same s14).off nr5
    have Sr : r2 ≠ S := (ne_of_none hS nr5).symm
    refine ⟨r2, rfl, ⟨_, SqL.of hr5⟩, ?_⟩
    refine for_list (K := K) (a := r2) (xs := pVs as) (fun j σ H' => ∃ y5 y6 y7 ps, σ = [some (.ref d), some (.ref wa), some (.int way), some (.ref L), some (.ref S), y5, y6, y7, none, none, none, none] ∧ DeckG H' d l (n + 1 + 2 * j) ∧ Fr d l H H' ∧ H' L = some (.lst (pVs mn)) ∧ H' r2 = some (.lst (pVs as)) ∧ H' S = some (.lst (pVs ps)) ∧ ps.length ≤ j ∧ CovOk m ps) ⟨none, none, none, [], rfl, D5.mono (by omega), fr1.trans (Fr.of s15), hL5, hr5, hS5, Nat.le_refl _, fun p hp => nomatch hp⟩ (fun j σ H' _ ⟨_, _, _, _, _, _, _, _, z, _⟩ => SqL.of z) ?_ ?_
    · rintro j v σ H6 hv ⟨y5, y6, y7, ps, rfl, D6, fr6, hL6, hr6, hS6, lp, okps⟩
      obtain ⟨a, ha, rfl⟩ := pV_at hv
      have okaa := oka a (List.mem_of_getElem? ha)
      have lj := (List.getElem?_eq_some_iff.mp ha).1
      show tSeq _ _ _ [some (.ref d), some (.ref wa), some (.int way), some (.ref L), some (.ref S), some (.str (SX.S a)), y6, y7, none, none, none, none] H6
      refine ⟨.ref L, rfl, L, rfl, ⟨_, SqL.of hL6⟩, fun M nM => ?_⟩
      refine lc_list (K := K) (a := L) (xs := pVs mn) (fun k H' => Same H6 (hd1 M H') ∧ ∃ hs, H' M = some (.lst (pVs hs)) ∧ hs.length ≤ k ∧ CovOk m hs) ⟨hd1_of (same_upd nM) nM, [], upd_same, Nat.zero_le _, fun p hp => nomatch hp⟩ (fun k H' _ z => SqL.of (hd1_le _ _ (z.1 _ _ hL6))) ?_ ?_
      · rintro k v H7 hv7 ⟨s7, hs, hM, lh, okh⟩
        obtain ⟨p, hp, rfl⟩ := pV_at hv7
        have okp := okm p (List.mem_of_getElem? hp)
        have lk := (List.getElem?_eq_some_iff.mp hp).1
        refine ⟨rfl, .str (SX.S p), rfl, .str (SX.S a), rfl, m, p, a, rfl, okp.1, okaa.1, by omega, fun H8 s8 => ⟨_, rfl, ite2 (fun e => ?_) (fun e => ?_)⟩⟩
        · exact ⟨.str (SX.S p), rfl, _, s8 _ _ hM, pVs_few (by omega), (s7.trans (hd1_same s8)).trans hd1_upd, hs ++ [p], by rw [pVs_snoc]; exact upd_same, by rw [List.length_append]; exact Nat.succ_le_succ lh, okh.snoc okp⟩
        · exact ⟨s7.trans (hd1_same s8), hs, s8 _ _ hM, by omega, okh⟩
      rintro H7 ⟨s7, hs, hM, lh, okh⟩
      rw [pVs_len] at lh
      have s67 : Same H6 H7 := fun b o e => hd1_le _ _ (s7 _ _ e)
      have hS7 := s67 _ _ hS6
      show tSeq _ _ _ [some (.ref d), some (.ref wa), some (.int way), some (.ref L), some (.ref S), some (.str (SX.S a)), some (.ref M), y7, none, none, none, none] H7
      refine ⟨.ref S, rfl, S, rfl, ⟨_, SqL.of hS7⟩, fun N nN => ?_⟩
      refine lc_list (K := K) (a := S) (xs := pVs ps) (fun k H' => Same H7 (hd1 N H') ∧ ∃ ys, H' N = some (.lst ys) ∧ ys.length ≤ k) ⟨hd1_of (same_upd nN) nN, [], upd_same, Nat.zero_le _⟩ (fun k H' _ z => SqL.of (hd1_le _ _ (z.1 _ _ hS7))) ?_ ?_
      · rintro k v H8 hv8 ⟨s8, ys, hN, ly⟩
        obtain ⟨p, hp, rfl⟩ := pV_at hv8
        have okp := okps p (List.mem_of_getElem? hp)
        have lk := (List.getElem?_eq_some_iff.mp hp).1
        refine ⟨rfl, .str (SX.S p), rfl, .str (SX.S a), rfl, m, p, a, rfl, okp.1, okaa.1, by omega, fun H9 s9 => ⟨_, rfl, ite2 (fun e => ?_) (fun e => ?_)⟩⟩
        · exact ⟨.str (SX.S p), rfl, ys, s9 _ _ hN, Nat.lt_of_lt_of_le (show _ < 128 by omega) (by decide), (s8.trans (hd1_same s9)).trans hd1_upd, ys ++ [V.str (SX.S p)], upd_same, by rw [List.length_append]; exact Nat.succ_le_succ ly⟩
        · exact ⟨s8.trans (hd1_same s9), ys, s9 _ _ hN, by omega⟩
      rintro H8 ⟨s8, ys, hN, ly⟩
      have s78 : Same H7 H8 := fun b o e => hd1_le _ _ (s8 _ _ e)
      have hM8 := s78 _ _ hM
      have s68 := s67.trans s78
      first | (show (_ : L2.St → Hp → Prop) [some (.ref d), some (.ref wa), some (.int way), some (.ref L), some (.ref S), some (.str (SX.S a)), some (.ref M), some (.ref N), none, none, none, none] H8) | (unfold gName; show (_ : L2.St → Hp → Prop) [some (.ref d), some (.ref wa), some (.int way), some (.ref L), some (.ref S), some (.str (SX.S a)), some (.ref M), some (.ref N), none, none, none, none] H8) | (dsimp only; show (_ : L2.St → Hp → Prop) [some (.ref d), some (.ref wa), some (.int way), some (.ref L), some (.ref S), some (.str (SX.S a)), some (.ref M), some (.ref N), none, none, none, none] H8) | (dsimp only [gName]; show (_ : L2.St → Hp → Prop) [some (.ref d), some (.ref wa), some (.int way), some (.ref L), some (.ref S), some (.str (SX.S a)), some (.ref M), some (.ref N), none, none, none, none] H8)
      refine ⟨fun b H' => Same H8 H' ∧ (b = true → hs ≠ []), ?_, ?_⟩
      · refine ⟨.ref M, rfl, Nat.zero_le _, fun e1 ne1 => ?_⟩
        have s9 := same_upd (o := (HO.lst [])) ne1
        have h9 : upd H8 e1 (HO.lst []) e1 = some (HO.lst []) := upd_same
        generalize upd H8 e1 (HO.lst []) = H9 at s9 h9 ⊢
        refine ⟨M, e1, _, rfl, rfl, SqL.of (s9 _ _ hM8), SqL.of h9, _, rfl, ite2 (fun e => ?_) (fun e => ?_)⟩
        · refine ⟨.ref N, rfl, Nat.zero_le _, fun e2 ne2 => ?_⟩
          have s10 := same_upd (o := (HO.lst [])) ne2
          have h10 : upd H9 e2 (HO.lst []) e2 = some (HO.lst []) := upd_same
          generalize upd H9 e2 (HO.lst []) = H10 at s10 h10 ⊢
          refine ⟨N, e2, _, rfl, rfl, SqL.of (s10 _ _ (s9 _ _ hN)), SqL.of h10, _, rfl, s9.trans s10, fun _ z => ?_⟩
          rw [z] at e
          cases e
        · exact ⟨s9, fun z => by cases z⟩
      rintro b H9 ⟨s9, hb⟩
      have s69 := s68.trans s9
      have D9 := D6.same s69
      refine ite2 (fun e => ?_) (fun e => ⟨_, _, _, ps, rfl, D9.mono (by push_cast; omega), fr6.trans (Fr.of s69), s69 _ _ hL6, s69 _ _ hr6, s69 _ _ hS6, by omega, okps⟩)
      have hne := hb e
      have lpos : 0 < hs.length := List.length_pos_iff.mpr hne
      have hM9 := s9 _ _ hM8
      have oM : M ≠ d ∧ M ≠ l := D6.off nM
      have hS9 := s69 _ _ hS6
      refine ⟨.ref S, rfl, .inl ⟨rfl, _, SqL.of hS9⟩, .ref d, rfl, .ref S, rfl, S, _, rfl, .inl (SqL.of hS9), _, _, rfl, rfl, d, l, _, _, rfl, D9, by omega, by rw [pVs_len]; omega, by rw [pVs_len]; omega, fun H10 i1 D10 fr10 a0 a1 => ?_⟩
      rw [pVs_len] at a1
      have hM10 := fr10 _ _ oM.1 oM.2 hM9
      refine ⟨.ref M, rfl, .ref d, rfl, .ref M, rfl, M, _, rfl, .inl (SqL.of hM10), d, l, _, _, rfl, D10, by omega, by rw [pVs_len]; omega, by rw [pVs_len]; omega, fun H11 i2 D11 fr11 b0 b1 => ?_⟩
      obtain ⟨v2, hv2, mv2⟩ := at_pick (xs := pVs hs) b0 b1
      obtain ⟨p2, hp2, rfl⟩ := List.mem_map.mp mv2
      have hS11 := fr11 _ _ oS.1 oS.2 (fr10 _ _ oS.1 oS.2 hS9)
      refine ⟨M, _, _, _, rfl, rfl, SqL.of (fr11 _ _ oM.1 oM.2 hM10), hv2, S, _, _, _, rfl, rfl, hS11, pVs_few (by omega), a0, by omega, ?_⟩
      have frS : Fr d l H (upd H11 S (.lst ((pVs ps).take i1.toNat ++ [V.str (SX.S p2)] ++ (pVs ps).drop i1.toNat))) := Fr.upd (((fr6.trans (Fr.of s69)).trans fr10).trans fr11) nS0
      refine ⟨_, _, _, ps.take i1.toNat ++ [p2] ++ ps.drop i1.toNat, rfl, (D11.upd oS.1 oS.2).mono (by push_cast; omega), frS, ?_, ?_, ?_, ?_, ((okps.take _).snoc (okh p2 hp2)).app (okps.drop _)⟩
      · rw [upd_ne SL.symm]
        exact fr11 _ _ oL.1 oL.2 (fr10 _ _ oL.1 oL.2 (s69 _ _ hL6))
      · rw [upd_ne Sr]
        exact fr11 _ _ or.1 or.2 (fr10 _ _ or.1 or.2 (s69 _ _ hr6))
      · rw [upd_same, pVs_app, pVs_snoc, pVs_take, pVs_drop]
      · rw [List.length_append, List.length_append, List.length_take, List.length_drop]
        show _ + 1 + _ ≤ _
        omega
    · rintro σ H6 ⟨y5, y6, y7, ps, rfl, D6, fr6, _, _, hS6, lp, okps⟩
      rw [pVs_len] at lp D6
      clear hr5
      first | (show (_ : L2.St → Hp → Prop) [some (.ref d), some (.ref wa), some (.int way), some (.ref L), some (.ref S), y5, y6, y7, none, none, none, none] H6) | (unfold gName; show (_ : L2.St → Hp → Prop) [some (.ref d), some (.ref wa), some (.int way), some (.ref L), some (.ref S), y5, y6, y7, none, none, none, none] H6) | (dsimp only; show (_ : L2.St → Hp → Prop) [some (.ref d), some (.ref wa), some (.int way), some (.ref L), some (.ref S), y5, y6, y7, none, none, none, none] H6) | (dsimp only [gName]; show (_ : L2.St → Hp → Prop) [some (.ref d), some (.ref wa), some (.int way), some (.ref L), some (.ref S), y5, y6, y7, none, none, none, none] H6)
      refine ⟨.ref d, rfl, .ref S, rfl, S, _, rfl, .inl (SqL.of hS6), _, _, rfl, rfl, d, l, _, _, rfl, D6, by omega, by rw [pVs_len]; omega, by rw [pVs_len]; omega, fun H7 k D7 fr7 k0 k1 => ?_⟩
      obtain ⟨k, rfl⟩ := Int.eq_ofNat_of_zero_le k0
      rw [pVs_len] at k1
      have fr07 := fr6.trans fr7
      have tw7 := tw.ts (Ts.frG D fr07) nlw
      obtain ⟨_, t, xs, e, hw7, _, _⟩ := tw7.wish_inv
      cases e
      refine ⟨.ref d, rfl, .ref wa, rfl, wa, _, _, .int m, rfl, rfl, SqT.of hw7, rfl, d, l, _, m, rfl, D7, by omega, by omega, fun more H8 D8 fr8 okmo => ?_⟩
      have hS8 := fr8 _ _ oS.1 oS.2 (fr7 _ _ oS.1 oS.2 hS6)
      have fr08 := fr07.trans fr8
      have l100 : ps.length ≤ 81 := by omega
      replace D8 := D8.mono (show _ ≤ n + 200 by omega)
      clear fr7 fr8 D7 tw7 hw7 hS6 fr6 D6 k0
      -- way 1
      refine ⟨CvM H d l wa way k (some (.ref L)) y5 y6 y7 more m 81 (n + 200), ?_, ?_⟩
      · first | (show (_ : L2.St → Hp → Prop) [some (.ref d), some (.ref wa), some (.int way), some (.ref L), some (.ref S), y5, y6, y7, some (.int (k : Int)), some (.str (SX.S more)), none, none] H8) | (unfold gName; show (_ : L2.St → Hp → Prop) [some (.ref d), some (.ref wa), some (.int way), some (.ref L), some (.ref S), y5, y6, y7, some (.int (k : Int)), some (.str (SX.S more)), none, none] H8) | (dsimp only; show (_ : L2.St → Hp → Prop) [some (.ref d), some (.ref wa), some (.int way), some (.ref L), some (.ref S), y5, y6, y7, some (.int (k : Int)), some (.str (SX.S more)), none, none] H8) | (dsimp only [gName]; show (_ : L2.St → Hp → Prop) [some (.ref d), some (.ref wa), some (.int way), some (.ref L), some (.ref S), y5, y6, y7, some (.int (k : Int)), some (.str (SX.S more)), none, none] H8)
        refine ⟨.int way, rfl, rfl, _, rfl, ite2 (fun e => ?_) (fun e => ⟨S, ps, rfl, D8, fr08, nS0, hS8, l100, okps⟩)⟩
        refine ⟨.ref S, rfl, .int (k : Int), rfl, k, rfl, S, _, rfl, SqL.of hS8, fun p1 n1 => ?_⟩
        rw [cut_to, pVs_take]
        have s9 := same_upd (o := (HO.lst (pVs (ps.take k)))) n1
        have h9 : upd H8 p1 (HO.lst (pVs (ps.take k))) p1 = some (HO.lst (pVs (ps.take k))) := upd_same
        generalize upd H8 p1 (HO.lst (pVs (ps.take k))) = H9 at s9 h9 ⊢
        refine ⟨.ref S, rfl, .int (k : Int), rfl, _, _, rfl, rfl, _, rfl, S, _, rfl, SqL.of (s9 _ _ hS8), fun p2 n2 => ?_⟩
        rw [show ((k : Int) + 1) = ((k + 1 : Nat) : Int) from rfl, cut_from, pVs_drop]
        have s10 := same_upd (o := (HO.lst (pVs (ps.drop (k + 1))))) n2
        have h10 : upd H9 p2 (HO.lst (pVs (ps.drop (k + 1)))) p2 = some (HO.lst (pVs (ps.drop (k + 1)))) := upd_same
        generalize upd H9 p2 (HO.lst (pVs (ps.drop (k + 1)))) = H10 at s10 h10 ⊢
        refine ⟨p1, p2, _, _, rfl, rfl, s10 _ _ h9, h10, ?_, fun p3 n3 => ?_⟩
        · rw [pVs_len, pVs_len, List.length_take, List.length_drop]
          exact Nat.le_trans (show _ ≤ 128 by omega) (by decide)
        have s11 := same_upd (o := (HO.lst (pVs (ps.take k) ++ pVs (ps.drop (k + 1))))) n3
        have h11 : upd H10 p3 (HO.lst (pVs (ps.take k) ++ pVs (ps.drop (k + 1)))) p3 = some (HO.lst (pVs (ps.take k) ++ pVs (ps.drop (k + 1)))) := upd_same
        generalize upd H10 p3 (HO.lst (pVs (ps.take k) ++ pVs (ps.drop (k + 1)))) = H11 at s11 h11 ⊢
        have sA := (s9.trans s10).trans s11
        exact ⟨p3, ps.take k ++ ps.drop (k + 1), rfl, D8.same sA, fr08.trans (Fr.of sA), none_of_frG (fr08.trans (Fr.of (s9.trans s10))) (D8.same (s9.trans s10)) n3, by rw [h11, pVs_app], by rw [List.length_append, List.length_take, List.length_drop]; omega, (okps.take _).app (okps.drop _)⟩
      -- way 2
      rintro σ H9 ⟨S1, qs, rfl, D9, fr9, nS1, hS9, lq, okq⟩
      clear hS8 D8 fr08 k1 lp
      refine ⟨CvM H d l wa way k (some (.ref L)) y5 y6 y7 more m 82 (n + 200), ?_, ?_⟩
      · first | (show (_ : L2.St → Hp → Prop) [some (.ref d), some (.ref wa), some (.int way), some (.ref L), some (.ref S1), y5, y6, y7, some (.int (k : Int)), some (.str (SX.S more)), none, none] H9) | (unfold gName; show (_ : L2.St → Hp → Prop) [some (.ref d), some (.ref wa), some (.int way), some (.ref L), some (.ref S1), y5, y6, y7, some (.int (k : Int)), some (.str (SX.S more)), none, none] H9) | (dsimp only; show (_ : L2.St → Hp → Prop) [some (.ref d), some (.ref wa), some (.int way), some (.ref L), some (.ref S1), y5, y6, y7, some (.int (k : Int)), some (.str (SX.S more)), none, none] H9) | (dsimp only [gName]; show (_ : L2.St → Hp → Prop) [some (.ref d), some (.ref wa), some (.int way), some (.ref L), some (.ref S1), y5, y6, y7, some (.int (k : Int)), some (.str (SX.S more)), none, none] H9)
        refine ⟨.int way, rfl, rfl, _, rfl, ite2 (fun e => ?_) (fun e => ⟨S1, qs, rfl, D9, fr9, nS1, hS9, by omega, okq⟩)⟩
        refine ⟨.ref S1, rfl, .int (k : Int), rfl, k, rfl, S1, _, rfl, SqL.of hS9, fun p1 n1 => ?_⟩
        rw [cut_to, pVs_take]
        have t1 := same_upd (o := (HO.lst (pVs (qs.take k)))) n1
        have h1 : upd H9 p1 (HO.lst (pVs (qs.take k))) p1 = some (HO.lst (pVs (qs.take k))) := upd_same
        generalize upd H9 p1 (HO.lst (pVs (qs.take k))) = A1 at t1 h1 ⊢
        refine ⟨.str (SX.S more), rfl, sl1, fun p2 n2 => ?_⟩
        have t2 := same_upd (o := (HO.lst [V.str (SX.S more)])) n2
        have h2 : upd A1 p2 (HO.lst [V.str (SX.S more)]) p2 = some (HO.lst [V.str (SX.S more)]) := upd_same
        generalize upd A1 p2 (HO.lst [V.str (SX.S more)]) = A2 at t2 h2 ⊢
        refine ⟨p1, p2, _, _, rfl, rfl, t2 _ _ h1, h2, ?_, fun p3 n3 => ?_⟩
        · rw [pVs_len, List.length_take]
          exact Nat.le_trans (show _ + 1 ≤ 128 by omega) (by decide)
        have t3 := same_upd (o := (HO.lst (pVs (qs.take k) ++ [V.str (SX.S more)]))) n3
        have h3 : upd A2 p3 (HO.lst (pVs (qs.take k) ++ [V.str (SX.S more)])) p3 = some (HO.lst (pVs (qs.take k) ++ [V.str (SX.S more)])) := upd_same
        generalize upd A2 p3 (HO.lst (pVs (qs.take k) ++ [V.str (SX.S more)])) = A3 at t3 h3 ⊢
        have tA := (t1.trans t2).trans t3
        refine ⟨.ref S1, rfl, .int (k : Int), rfl, k, rfl, S1, _, rfl, SqL.of (tA _ _ hS9), fun p4 n4 => ?_⟩
        rw [cut_from, pVs_drop]
        have t4 := same_upd (o := (HO.lst (pVs (qs.drop k)))) n4
        have h4 : upd A3 p4 (HO.lst (pVs (qs.drop k))) p4 = some (HO.lst (pVs (qs.drop k))) := upd_same
        generalize upd A3 p4 (HO.lst (pVs (qs.drop k))) = A4 at t4 h4 ⊢
        refine ⟨p3, p4, _, _, rfl, rfl, t4 _ _ h3, h4, ?_, fun p5 n5 => ?_⟩
        · rw [List.length_append, pVs_len, pVs_len, List.length_take, List.length_drop]
          exact Nat.le_trans (show _ + 1 + _ ≤ 128 by omega) (by decide)
        have t5 := same_upd (o := (HO.lst ((pVs (qs.take k) ++ [V.str (SX.S more)]) ++ pVs (qs.drop k)))) n5
        have h5 : upd A4 p5 (HO.lst ((pVs (qs.take k) ++ [V.str (SX.S more)]) ++ pVs (qs.drop k))) p5 = some (HO.lst ((pVs (qs.take k) ++ [V.str (SX.S more)]) ++ pVs (qs.drop k))) := upd_same
        generalize upd A4 p5 (HO.lst ((pVs (qs.take k) ++ [V.str (SX.S more)]) ++ pVs (qs.drop k))) = A5 at t5 h5 ⊢
        have tB := tA.trans (t4.trans t5)
        refine ⟨p5, (qs.take k ++ [more]) ++ qs.drop k, rfl, D9.same tB, fr9.trans (Fr.of tB), none_of_frG (fr9.trans (Fr.of (tA.trans t4))) (D9.same (tA.trans t4)) n5, by rw [h5, pVs_app, pVs_snoc], ?_, ((okq.take _).snoc okmo).app (okq.drop _)⟩
        rw [List.length_append, List.length_append, List.length_take, List.length_drop]
        show _ + 1 + _ ≤ _
        omega
      -- way 3
      rintro σ B ⟨S2, rs, rfl, D9, fr9, nS2, hS9, lr, okr⟩
      clear lq okq
      refine ⟨CvM H d l wa way k (some (.ref L)) y5 y6 y7 more m 82 (n + 200), ?_, ?_⟩
      · first | (show (_ : L2.St → Hp → Prop) [some (.ref d), some (.ref wa), some (.int way), some (.ref L), some (.ref S2), y5, y6, y7, some (.int (k : Int)), some (.str (SX.S more)), none, none] B) | (unfold gName; show (_ : L2.St → Hp → Prop) [some (.ref d), some (.ref wa), some (.int way), some (.ref L), some (.ref S2), y5, y6, y7, some (.int (k : Int)), some (.str (SX.S more)), none, none] B) | (dsimp only; show (_ : L2.St → Hp → Prop) [some (.ref d), some (.ref wa), some (.int way), some (.ref L), some (.ref S2), y5, y6, y7, some (.int (k : Int)), some (.str (SX.S more)), none, none] B) | (dsimp only [gName]; show (_ : L2.St → Hp → Prop) [some (.ref d), some (.ref wa), some (.int way), some (.ref L), some (.ref S2), y5, y6, y7, some (.int (k : Int)), some (.str (SX.S more)), none, none] B)
        refine ⟨.int way, rfl, rfl, _, rfl, ite2 (fun e => ?_) (fun e => ⟨S2, rs, rfl, D9, fr9, nS2, hS9, by omega, okr⟩)⟩
        refine ⟨.int (k : Int), rfl, .ref S2, rfl, S2, _, rfl, .inl (SqL.of hS9), _, _, rfl, rfl, _, rfl, ite2 (fun e => ?_) (fun e => ⟨S2, rs, rfl, D9, fr9, nS2, hS9, by omega, okr⟩)⟩
        have hk : k < rs.length := by
          rw [pVs_len] at e
          simpa using e
        have okx := okr _ (List.getElem_mem hk)
        obtain ⟨c, hc, c01⟩ := more_at m1 m4 okmo
        obtain ⟨okR, x', ex, okx'⟩ := rep_at m4 okx c01
        have hat : atI (pVs rs) (k : Int) = some (.str (SX.S rs[k])) := atI_nat (by unfold pVs; rw [List.getElem?_map, List.getElem?_eq_getElem hk]; rfl)
        refine ⟨.ref S2, rfl, .int (k : Int), rfl, S2, _, _, _, rfl, rfl, SqL.of hS9, hat, _, rfl, .str (SX.S more), rfl, _, rfl, ?_, _, c, rfl, hc, okR, ?_⟩
        · rw [SX.S_len, okmo.1]
          show m + (m + 1) * 1 ≤ _
          omega
        rw [ex]
        refine ⟨.ref S2, rfl, .int (k : Int), rfl, S2, _, _, k, rfl, rfl, hS9, ?_, ?_⟩
        · unfold ixN
          rw [pVs_len, if_pos (by omega), if_pos (by omega)]
          rfl
        have oS2 := D.off nS2
        exact ⟨S2, rs.set k x', rfl, D9.upd oS2.1 oS2.2, Fr.upd fr9 nS2, nS2, by rw [upd_same]; unfold pVs; rw [List.map_set], by rw [List.length_set]; omega, fun p hp => (List.mem_or_eq_of_mem_set hp).elim (okr p) fun z => by rw [z]; exact okx'⟩
      -- way 4
      rintro σ C ⟨S3, us, rfl, DC, frC, nS3, hSC, lu, oku⟩
      refine ⟨CvM H d l wa way k (some (.ref L)) y5 y6 y7 more m 90 (n + 200), ?_, ?_⟩
      · first | (show (_ : L2.St → Hp → Prop) [some (.ref d), some (.ref wa), some (.int way), some (.ref L), some (.ref S3), y5, y6, y7, some (.int (k : Int)), some (.str (SX.S more)), none, none] C) | (unfold gName; show (_ : L2.St → Hp → Prop) [some (.ref d), some (.ref wa), some (.int way), some (.ref L), some (.ref S3), y5, y6, y7, some (.int (k : Int)), some (.str (SX.S more)), none, none] C) | (dsimp only; show (_ : L2.St → Hp → Prop) [some (.ref d), some (.ref wa), some (.int way), some (.ref L), some (.ref S3), y5, y6, y7, some (.int (k : Int)), some (.str (SX.S more)), none, none] C) | (dsimp only [gName]; show (_ : L2.St → Hp → Prop) [some (.ref d), some (.ref wa), some (.int way), some (.ref L), some (.ref S3), y5, y6, y7, some (.int (k : Int)), some (.str (SX.S more)), none, none] C)
        refine ⟨.int way, rfl, rfl, _, rfl, ite2 (fun e => ?_) (fun e => ⟨S3, us, rfl, DC, frC, nS3, hSC, by omega, oku⟩)⟩
        refine ⟨.ref S3, rfl, S3, _, rfl, SqL.of hSC, fun p1 n1 => ?_⟩
        have t1 := same_upd (o := (HO.lst (pVs us).reverse)) n1
        have h1 : upd C p1 (HO.lst (pVs us).reverse) p1 = some (HO.lst (pVs us).reverse) := upd_same
        generalize upd C p1 (HO.lst (pVs us).reverse) = A1 at t1 h1 ⊢
        refine ⟨.ref S3, rfl, 2, rfl, S3, _, rfl, SqL.of (t1 _ _ hSC), fun p2 n2 => ?_⟩
        rw [show (2 : Int) = ((2 : Nat) : Int) from rfl, cut_to, pVs_take]
        have t2 := same_upd (o := (HO.lst (pVs (us.take 2)))) n2
        have h2 : upd A1 p2 (HO.lst (pVs (us.take 2))) p2 = some (HO.lst (pVs (us.take 2))) := upd_same
        generalize upd A1 p2 (HO.lst (pVs (us.take 2))) = A2 at t2 h2 ⊢
        refine ⟨p1, p2, _, _, rfl, rfl, t2 _ _ h1, h2, ?_, fun p3 n3 => ?_⟩
        · rw [List.length_reverse, pVs_len, pVs_len, List.length_take]
          exact Nat.le_trans (show _ ≤ 128 by omega) (by decide)
        have t3 := same_upd (o := (HO.lst ((pVs us).reverse ++ pVs (us.take 2)))) n3
        have h3 : upd A2 p3 (HO.lst ((pVs us).reverse ++ pVs (us.take 2))) p3 = some (HO.lst ((pVs us).reverse ++ pVs (us.take 2))) := upd_same
        generalize upd A2 p3 (HO.lst ((pVs us).reverse ++ pVs (us.take 2))) = A3 at t3 h3 ⊢
        have tA := (t1.trans t2).trans t3
        refine ⟨p3, us.reverse ++ us.take 2, rfl, DC.same tA, frC.trans (Fr.of tA), none_of_frG (frC.trans (Fr.of (t1.trans t2))) (DC.same (t1.trans t2)) n3, ?_, ?_, CovOk.app (fun p hp => oku p (List.mem_reverse.mp hp)) (oku.take _)⟩
        · rw [h3, pVs_app]
          unfold pVs
          rw [List.map_reverse]
        · rw [List.length_append, List.length_reverse, List.length_take]
          omega
      -- way 5
      rintro σ E1 ⟨S4, xs5, rfl, DE, frE, nS4, hSE, lx, okx⟩
      refine ⟨CvM H d l wa way k (some (.ref L)) y5 y6 y7 more m 90 (n + 300), ?_, ?_⟩
      · first | (show (_ : L2.St → Hp → Prop) [some (.ref d), some (.ref wa), some (.int way), some (.ref L), some (.ref S4), y5, y6, y7, some (.int (k : Int)), some (.str (SX.S more)), none, none] E1) | (unfold gName; show (_ : L2.St → Hp → Prop) [some (.ref d), some (.ref wa), some (.int way), some (.ref L), some (.ref S4), y5, y6, y7, some (.int (k : Int)), some (.str (SX.S more)), none, none] E1) | (dsimp only; show (_ : L2.St → Hp → Prop) [some (.ref d), some (.ref wa), some (.int way), some (.ref L), some (.ref S4), y5, y6, y7, some (.int (k : Int)), some (.str (SX.S more)), none, none] E1) | (dsimp only [gName]; show (_ : L2.St → Hp → Prop) [some (.ref d), some (.ref wa), some (.int way), some (.ref L), some (.ref S4), y5, y6, y7, some (.int (k : Int)), some (.str (SX.S more)), none, none] E1)
        refine ⟨.int way, rfl, rfl, _, rfl, ite2 (fun e => ?_) (fun e => ⟨S4, xs5, rfl, DE.mono (by omega), frE, nS4, hSE, by omega, okx⟩)⟩
        refine ⟨.ref d, rfl, d, l, 6, _, rfl, DE, by omega, by decide, by decide, fun E2 c D2 fr2 c0 c1 => ?_⟩
        refine ⟨c, rfl, by omega, by omega, fun Z nZ => ?_⟩
        have fr02 := frE.trans fr2
        have oZ := D2.off nZ
        have nZ0 := none_of_frG fr02 D2 nZ
        refine lc_range (lo := 0) (n := c.toNat) (fun j H' => DeckG H' d l (n + 201 + 13 * j) ∧ Fr d l H H' ∧ ∃ ps, H' Z = some (.lst (pVs ps)) ∧ ps.length = j ∧ CovOk m ps) ⟨(D2.same (same_upd nZ)).mono (by omega), fr02.trans (Fr.new nZ), [], upd_same, rfl, fun p hp => by cases hp⟩ ?_ ?_
        · rintro j H3 hj ⟨D3, fr3, ps, hZ, lps, okp⟩
          have hj' : j < 6 := by omega
          have tw3 := tw.ts (Ts.frG D fr3) nlw
          obtain ⟨_, t, xs, e, hw3, _, _⟩ := tw3.wish_inv
          cases e
          refine ⟨rfl, .ref d, rfl, .ref wa, rfl, wa, _, _, .int m, rfl, rfl, SqT.of hw3, rfl, d, l, _, m, rfl, D3, by omega, by omega, fun p H4 D4 fr4 op => ?_⟩
          exact ⟨_, fr4 _ _ oZ.1 oZ.2 hZ, pVs_few (by omega), (D4.upd oZ.1 oZ.2).mono (by push_cast; omega), Fr.upd (fr3.trans fr4) nZ0, ps ++ [p], by rw [pVs_snoc]; exact upd_same, by rw [List.length_append, lps]; rfl, okp.snoc op⟩
        · rintro H3 ⟨D3, fr3, ps, hZ, lps, okp⟩
          exact ⟨Z, ps, rfl, D3.mono (by omega), fr3, nZ0, hZ, by omega, okp⟩
      rintro σ G ⟨S5, ws, rfl, DG, frG', nS5, hSG, lw, okw⟩
      have tw9 := tw.ts (Ts.frG D frG') nlw
      obtain ⟨_, t, xs, e, hw9, _, _⟩ := tw9.wish_inv
      cases e
      first | (show (_ : L2.St → Hp → Prop) [some (.ref d), some (.ref wa), some (.int way), some (.ref L), some (.ref S5), y5, y6, y7, some (.int (k : Int)), some (.str (SX.S more)), none, none] G) | (unfold gName; show (_ : L2.St → Hp → Prop) [some (.ref d), some (.ref wa), some (.int way), some (.ref L), some (.ref S5), y5, y6, y7, some (.int (k : Int)), some (.str (SX.S more)), none, none] G) | (dsimp only; show (_ : L2.St → Hp → Prop) [some (.ref d), some (.ref wa), some (.int way), some (.ref L), some (.ref S5), y5, y6, y7, some (.int (k : Int)), some (.str (SX.S more)), none, none] G) | (dsimp only [gName]; show (_ : L2.St → Hp → Prop) [some (.ref d), some (.ref wa), some (.int way), some (.ref L), some (.ref S5), y5, y6, y7, some (.int (k : Int)), some (.str (SX.S more)), none, none] G)
      refine ⟨.ref wa, rfl, wa, _, _, .int m, rfl, rfl, SqT.of hw9, rfl, .ref S5, rfl, 16, rfl, S5, _, rfl, SqL.of hSG, fun p1 n1 => ?_⟩
      rw [show (16 : Int) = ((16 : Nat) : Int) from rfl, cut_to, pVs_take]
      have t1 := same_upd (o := (HO.lst (pVs (ws.take 16)))) n1
      have h1 : upd G p1 (HO.lst (pVs (ws.take 16))) p1 = some (HO.lst (pVs (ws.take 16))) := upd_same
      generalize upd G p1 (HO.lst (pVs (ws.take 16))) = A1 at t1 h1 ⊢
      refine ⟨p1, _, rfl, .inl ⟨SqL.of h1, fun p2 n2 => ?_⟩⟩
      have t2 := same_upd (o := (HO.tup (pVs (ws.take 16)))) n2
      have h2 : upd A1 p2 (HO.tup (pVs (ws.take 16))) p2 = some (HO.tup (pVs (ws.take 16))) := upd_same
      generalize upd A1 p2 (HO.tup (pVs (ws.take 16))) = A2 at t2 h2 ⊢
      refine ⟨sl2, fun p3 n3 => ?_⟩
      have t3 := same_upd (o := (HO.tup [.int m, .ref p2])) n3
      have h3 : upd A2 p3 (HO.tup [.int m, .ref p2]) p3 = some (HO.tup [.int m, .ref p2]) := upd_same
      generalize upd A2 p3 (HO.tup [.int m, .ref p2]) = A3 at t3 h3 ⊢
      have tA := (t1.trans t2).trans t3
      exact q p3 (ws.take 16) A3 ((DG.same tA).mono (by omega)) (frG'.trans (Fr.of tA)) ⟨p2, h3, t3 _ _ h2⟩ (okw.take _) (by rw [List.length_take]; omega)

end
end Gk

set_option Elab.async false
set_option linter.all false
set_option maxRecDepth 100000
set_option maxHeartbeats 2000000
set_option pp.maxSteps 900
set_option pp.deepTerms false
namespace Gk
open PySem PySem.Spec PyProof.Rows L2

section
variable {P : Program} {w : World} {K : PySem.W.Frag} {mg : Str → Option Value} {base : Heap}
/-! ### the law -/
theorem kitBB : kitB "bool" "bool" = some true := by decide +kernel
theorem Tabs.fr {H H' : Hp} {d l : Addr} {n : Int} {Ps : List Addr} (D : DeckG H d l n) (f : Fr d l H H') (t : Tabs H Ps) : Tabs H' Ps := fun P hP => by
  obtain ⟨ps, e, z⟩ := t P hP
  obtain ⟨ne, cs, y, w, hd, hl, r⟩ := D
  exact ⟨ps, f P _ (ne_of e hd (by intro z; cases z)) (ne_of e hl (by intro z; cases z)) e, z⟩
theorem CovAt.ts {H H' : Hp} {c : Addr} {m : Nat} {ps : List (List Nat)} (h : CovAt H c m ps) (g : Ts H H') : CovAt H' c m ps := by
  obtain ⟨t, h1, h2⟩ := h
  exact ⟨t, g _ _ h1, g _ _ h2⟩
theorem CovAt.same' {H H' : Hp} {c : Addr} {m : Nat} {ps : List (List Nat)} (h : CovAt H c m ps) (g : Same H H') : CovAt H' c m ps := h.ts fun a xs e => g _ _ e
theorem rep_pV (k : Nat) (ps : List (List Nat)) : (List.replicate k (pVs ps)).flatten = pVs (List.replicate k ps).flatten := by
  unfold pVs
  rw [List.map_flatten, List.map_replicate]
theorem CovOk.rep {m k : Nat} {ps : List (List Nat)} (h : CovOk m ps) : CovOk m (List.replicate k ps).flatten := fun p hp => by
  obtain ⟨l, hl, hp'⟩ := List.mem_flatten.mp hp
  rw [(List.mem_replicate.mp hl).2] at hp'
  exact h p hp'
def sp_law (K : PySem.W.Frag) (Ps : List Addr) : Sp := fun vs H Q _ => ∃ (a : Addr) (ns : List Int), vs = [.ref a] ∧ SqL K H a (ns.map V.int) ∧ ns.length ≤ 63 ∧ Tabs H Ps ∧ ∀ H', Q (.bl true) H'
theorem ok_law (T : Tx K mg) (B : Tb base T) : FnOk P w K mg base CX0 10 T.f_law T.fd_law ["_law_script"] (sp_law K T.tabs) := by
  refine T.F_law.ok sc_law (fun vs H Q E h => ?_) (fun cdv A outer s H vs Q E hr h => ?_)
  · obtain ⟨a, ns, rfl, _⟩ := h
    rfl
  · obtain ⟨a, ns, rfl, hS, hlen, tabs, q⟩ := h
    refine ⟨_, (pss_cons (ps_set (i := 1) sc_law.nd rfl (by first | exact .inl rfl | exact .inr rfl) (pe_call (ok_deck T) (hr.mono (by decide)) (by rfl) T.g_deck T.F_deck.kp T.b_deck .nil pass0 (pa_cons (pv 0) pa_nil))) (pss_cons (ps_for PassesOwn.never rfl (pi_range1 (by rfl) T.m_range (pa_cons pe_int pa_nil)) (pg_name (i := 2) sc_law.nd rfl (by first | exact .inl rfl | exact .inr rfl)) (pss_cons (ps_set (i := 3) sc_law.nd rfl (by first | exact .inl rfl | exact .inr rfl) (pe_call (ok_wish T) (hr.mono (by decide)) (by rfl) T.g_wish T.F_wish.kp T.b_wish .nil pass0 (pa_cons (pv 1) (pa_cons pe_int pa_nil)))) (pss_cons (ps_for PassesOwn.never rfl (pi_range1 (by rfl) T.m_range (pa_cons pe_int pa_nil)) (pg_name (i := 4) sc_law.nd rfl (by first | exact .inl rfl | exact .inr rfl)) (pss_cons (ps_set (i := 5) sc_law.nd rfl (by first | exact .inl rfl | exact .inr rfl) (pe_call (ok_cover T) (hr.mono (by decide)) (by rfl) T.g_cover T.F_cover.kp T.b_cover .nil pass0 (pa_cons (pv 1) (pa_cons (pv 3) pa_nil)))) (C8.pss_cut (ps_if (pt_cmpR op_eq (pe_call (ok_next T) (hr.mono (by decide)) (by rfl) T.g_next T.F_next.kp T.b_next .nil pass0 (pa_cons (pv 1) (pa_cons pe_int pa_nil))) pe_int (nomark _)) (pss_one (ps_set (i := 5) sc_law.nd rfl (by first | exact .inl rfl | exact .inr rfl) (pe_tup (pa_cons (pe_ix ix_tup (pv 3) pe_int (fun _ _ => rfl)) (pa_cons (pe_slice sl_tupA (pe_cut (pe_op RpA.op_repTA (pe_ix ix_tup (pv 5) pe_int (fun _ _ => rfl)) pe_int)) po_none (po_some (pe_op op_add pe_int (pe_call (ok_next T) (hr.mono (by decide)) (by rfl) T.g_next T.F_next.kp T.b_next .nil pass0 (pa_cons (pv 1) (pa_cons pe_int pa_nil)))))) pa_nil))))) pss_nil) (pss_cons (ps_set (i := 6) sc_law.nd rfl (by first | exact .inl rfl | exact .inr rfl) (pe_call (ok_l_is_free T) (hr.mono (by decide)) (by rfl) T.g_l_is_free T.F_l_is_free.kp T.b_l_is_free .nil pass0 (pa_cons (pv 3) (pa_cons (pv 5) pa_nil)))) (pss_cons (ps_if (pt_cmpR op_ne (pv 6) (pe_call (ok_other_words T) (hr.mono (by decide)) (by rfl) T.g_other_words T.F_other_words.kp T.b_other_words .nil pass0 (pa_cons (pv 3) (pa_cons (pv 5) pa_nil))) (nomark _)) (pss_one (ps_ret pe_bl)) pss_nil) (pss_one (ps_for PassesOwn.never rfl (pi_range1 (by rfl) T.m_range (pa_cons pe_int pa_nil)) (pg_name (i := 7) sc_law.nd rfl (by first | exact .inl rfl | exact .inr rfl)) (pss_cons (ps_set (i := 8) sc_law.nd rfl (by first | exact .inl rfl | exact .inr rfl) (pe_call (ok_is_free T B) (hr.mono (by decide)) (by rfl) T.g_is_free T.F_is_free.kp T.b_is_free .nil pass0 (pa_cons (pv 3) (pa_cons (pv 5) pa_nil)))) (pss_one (ps_if (pw_or (pt_not (pt_val (pe_callB call_isi (by rfl) T.m_isinstance (by decide +kernel) (pa_cons (pv 8) (pa_cons (pe_bltn (v := .ty "bool") (u := .type "bool") (by rfl) T.m_bool (by decide +kernel) rfl) pa_nil))))) (pw_or1 (pt_cmpR op_ne (pv 8) (pv 6) (nomark _)))).pt (pss_one (ps_ret pe_bl)) pss_nil)))))))))) (pss_one (ps_if (pt_cmpR (NeL.op_neN hr.units) (pe_lc (own := [("_law_thing", 9)]) (by rfl) sc_law.nd (pi_list (pe_call (ok_odd T) (hr.mono (by decide)) (by rfl) T.g_odd T.F_odd.kp T.b_odd .nil pass0 (pa_cons (pv 3) (pa_cons (pv 5) pa_nil)))) (blkOk_by (own := [("_law_thing", 9)]) (N := ["_law_script", "_law_deck_here", "_law_turn", "_law_wish_here", "_law_k", "_law_cover_here", "_law_due", "_law_again", "_law_found", "_law_thing"]) (sc := defScope s_law) (by decide +kernel)) (fun _ _ _ _ _ => (pg_name (i := 9) sc_law.nd rfl (by first | exact .inl rfl | exact .inr rfl))) (fun _ _ _ _ _ => (pts_one (pt_cmpR op_isnot_bl (pe_call (ok_is_free T B) (hr.mono (by decide)) (by rfl) T.g_is_free T.F_is_free.kp T.b_is_free .nil pass0 (pa_cons (pv 3) (pa_cons (pv 9) pa_nil))) pe_bl (nomark _)))) (fun _ _ _ _ _ => (pv 9))) (pe_lst pa_nil) (nomark _)) (pss_one (ps_ret pe_bl)) pss_nil))))) (pss_one (ps_ret pe_bl)))), ?_⟩
    refine ⟨.ref a, rfl, a, ns, rfl, hS, hlen, fun H1 d l s1 D1 => ?_⟩
    have tab1 := (Gr.of s1).tabs tabs
    refine ⟨2, rfl, by decide, by decide, ?_⟩
    refine for_range (lo := 0) (n := (2 : Int).toNat) (fun j σ H' => ∃ y2 y3 y4 y5 y6 y7 y8, σ = [some (.ref a), some (.ref d), y2, y3, y4, y5, y6, y7, y8, none] ∧ DeckG H' d l (20000 * j) ∧ Tabs H' T.tabs) ⟨_, _, _, _, _, _, _, rfl, D1.mono (by omega), tab1⟩ ?_ ?_
    · rintro j σ H2 hj ⟨y2, y3, y4, y5, y6, y7, y8, rfl, D2, t2⟩
      have hj' : j < 2 := hj
      first | (show (_ : L2.St → Hp → Prop) [some (.ref a), some (.ref d), some (.int (0 + (j : Int))), y3, y4, y5, y6, y7, y8, none] H2) | (unfold gName; show (_ : L2.St → Hp → Prop) [some (.ref a), some (.ref d), some (.int (0 + (j : Int))), y3, y4, y5, y6, y7, y8, none] H2) | (dsimp only; show (_ : L2.St → Hp → Prop) [some (.ref a), some (.ref d), some (.int (0 + (j : Int))), y3, y4, y5, y6, y7, y8, none] H2) | (dsimp only [gName]; show (_ : L2.St → Hp → Prop) [some (.ref a), some (.ref d), some (.int (0 + (j : Int))), y3, y4, y5, y6, y7, y8, none] H2)
      refine ⟨.ref d, rfl, d, l, _, 12, rfl, D2, by omega, by decide, by decide, fun wa m bs cs H3 D3 fr3 nr tw ok => ?_⟩
      have t3 := Tabs.fr D2 fr3 t2
      have m1 := ok.m1
      have m4 := ok.m4
      first | (show (_ : L2.St → Hp → Prop) [some (.ref a), some (.ref d), some (.int (0 + (j : Int))), some (.ref wa), y4, y5, y6, y7, y8, none] H3) | (unfold gName; show (_ : L2.St → Hp → Prop) [some (.ref a), some (.ref d), some (.int (0 + (j : Int))), some (.ref wa), y4, y5, y6, y7, y8, none] H3) | (dsimp only; show (_ : L2.St → Hp → Prop) [some (.ref a), some (.ref d), some (.int (0 + (j : Int))), some (.ref wa), y4, y5, y6, y7, y8, none] H3) | (dsimp only [gName]; show (_ : L2.St → Hp → Prop) [some (.ref a), some (.ref d), some (.int (0 + (j : Int))), some (.ref wa), y4, y5, y6, y7, y8, none] H3)
      refine ⟨6, rfl, by decide, by decide, ?_⟩
      refine for_range (lo := 0) (n := (6 : Int).toNat) (fun i σ H' => ∃ y4 y5 y6 y7 y8, σ = [some (.ref a), some (.ref d), some (.int (0 + (j : Int))), some (.ref wa), y4, y5, y6, y7, y8, none] ∧ DeckG H' d l (20000 * j + 800 + 1100 * i) ∧ Tabs H' T.tabs ∧ Tk H' (.ref wa) (wishD m bs cs) ∧ (0 < i → ∃ cv ps, y5 = some (.ref cv) ∧ CovAt H' cv m ps ∧ CovOk m ps ∧ ps.length ≤ 48)) ⟨_, _, _, _, _, rfl, D3.mono (by push_cast; omega), t3, tw, fun z => absurd z (by decide)⟩ ?_ ?_
      · rintro i σ H4 hi ⟨y4, y5, y6, y7, y8, rfl, D4, t4, tw4, _⟩
        have hi' : i < 6 := hi
        first | (show (_ : L2.St → Hp → Prop) [some (.ref a), some (.ref d), some (.int (0 + (j : Int))), some (.ref wa), some (.int (0 + (i : Int))), y5, y6, y7, y8, none] H4) | (unfold gName; show (_ : L2.St → Hp → Prop) [some (.ref a), some (.ref d), some (.int (0 + (j : Int))), some (.ref wa), some (.int (0 + (i : Int))), y5, y6, y7, y8, none] H4) | (dsimp only; show (_ : L2.St → Hp → Prop) [some (.ref a), some (.ref d), some (.int (0 + (j : Int))), some (.ref wa), some (.int (0 + (i : Int))), y5, y6, y7, y8, none] H4) | (dsimp only [gName]; show (_ : L2.St → Hp → Prop) [some (.ref a), some (.ref d), some (.int (0 + (j : Int))), some (.ref wa), some (.int (0 + (i : Int))), y5, y6, y7, y8, none] H4)
        refine ⟨.ref d, rfl, .ref wa, rfl, d, l, wa, _, m, bs, cs, rfl, D4, by omega, tw4, ok, fun cv ps H5 D5 fr5 hcv okp l16 => ?_⟩
        have tw5 := tw4.ts (Ts.frG D4 fr5) (noL_wish m bs cs)
        have t5 := Tabs.fr D4 fr5 t4
        refine ⟨fun σ H' => ∃ cv ps, σ = [some (.ref a), some (.ref d), some (.int (0 + (j : Int))), some (.ref wa), some (.int (0 + (i : Int))), some (.ref cv), y6, y7, y8, none] ∧ DeckG H' d l (20000 * j + 800 + 1100 * i + 1002) ∧ Tabs H' T.tabs ∧ Tk H' (.ref wa) (wishD m bs cs) ∧ CovAt H' cv m ps ∧ CovOk m ps ∧ ps.length ≤ 48, ?_, ?_⟩
        · first | (show (_ : L2.St → Hp → Prop) [some (.ref a), some (.ref d), some (.int (0 + (j : Int))), some (.ref wa), some (.int (0 + (i : Int))), some (.ref cv), y6, y7, y8, none] H5) | (unfold gName; show (_ : L2.St → Hp → Prop) [some (.ref a), some (.ref d), some (.int (0 + (j : Int))), some (.ref wa), some (.int (0 + (i : Int))), some (.ref cv), y6, y7, y8, none] H5) | (dsimp only; show (_ : L2.St → Hp → Prop) [some (.ref a), some (.ref d), some (.int (0 + (j : Int))), some (.ref wa), some (.int (0 + (i : Int))), some (.ref cv), y6, y7, y8, none] H5) | (dsimp only [gName]; show (_ : L2.St → Hp → Prop) [some (.ref a), some (.ref d), some (.int (0 + (j : Int))), some (.ref wa), some (.int (0 + (i : Int))), some (.ref cv), y6, y7, y8, none] H5)
          refine ⟨.ref d, rfl, d, l, 8, _, rfl, D5, by omega, by decide, by decide, fun H6 x D6 fr6 x0 x8 => ?_⟩
          have ts6 := Ts.frG D5 fr6
          have tw6 := tw5.ts ts6 (noL_wish m bs cs)
          have t6 := Tabs.fr D5 fr6 t5
          have hcv6 := hcv.ts ts6
          refine ⟨rfl, _, rfl, ite2 (fun e => ?_) (fun e => ⟨cv, ps, rfl, D6.mono (by omega), t6, tw6, hcv6, okp, by omega⟩)⟩
          obtain ⟨_, tt, xs, e, hw, ht, tx⟩ := tw6.wish_inv
          cases e
          obtain ⟨tc, hc, htc⟩ := id hcv6
          refine ⟨.ref wa, rfl, wa, _, _, .int m, rfl, rfl, SqT.of hw, rfl, ?_⟩
          refine ⟨fun v H' => ∃ p, v = .ref p ∧ Same H6 H' ∧ H' p = some (.tup (pVs (List.replicate 40 ps).flatten)), ?_, ?_⟩
          · refine ⟨.ref cv, rfl, cv, _, _, .ref tc, rfl, rfl, SqT.of hc, rfl, tc, 40, pVs ps, rfl, rfl, SqT.of htc, by decide, by decide, by rw [pVs_len]; omega, fun ez => ⟨tc, rfl, Same.refl _, ?_⟩, fun _ p np => ⟨p, rfl, same_upd np, ?_⟩⟩
            · rw [htc, ← rep_pV, ez]
              rfl
            · rw [upd_same, ← rep_pV]
              rfl
          rintro v H7 ⟨p, rfl, s7, hp7⟩
          have D7 := D6.same s7
          refine ⟨.ref d, rfl, d, l, 24, _, rfl, D7, by omega, by decide, by decide, fun H8 u D8 fr8 u0 u24 => ?_⟩
          have ts8 := Ts.frG D7 fr8
          obtain ⟨u, rfl⟩ := Int.eq_ofNat_of_zero_le u0
          refine ⟨_, _, rfl, rfl, _, rfl, slA (ts8 _ _ hp7) fun p9 H9 s9 h9 => ?_⟩
          rw [show (17 : Int) + (u : Int) = ((17 + u : Nat) : Int) from by push_cast; rfl, cut_to, pVs_take] at h9
          refine ⟨sl2, fun c' nc' => ?_⟩
          have sA := same_upd (o := (HO.tup [.int m, .ref p9])) nc'
          have hA : upd H9 c' (HO.tup [.int m, .ref p9]) c' = some (HO.tup [.int m, .ref p9]) := upd_same
          generalize upd H9 c' (HO.tup [.int m, .ref p9]) = HA at sA hA ⊢
          have s8A := s9.trans sA
          exact ⟨c', _, rfl, (D8.same s8A).mono (by omega), (Gr.of s8A).tabs (Tabs.fr D7 fr8 ((Gr.of s7).tabs t6)), (tw6.same s7 |>.ts ts8 (noL_wish m bs cs)).same s8A, ⟨p9, hA, sA _ _ h9⟩, (okp.rep).take _, by rw [List.length_take]; omega⟩
        rintro σ H6 ⟨cv, ps, rfl, D6, t6, tw6, hcv, okp, l48⟩
        first | (show (_ : L2.St → Hp → Prop) [some (.ref a), some (.ref d), some (.int (0 + (j : Int))), some (.ref wa), some (.int (0 + (i : Int))), some (.ref cv), y6, y7, y8, none] H6) | (unfold gName; show (_ : L2.St → Hp → Prop) [some (.ref a), some (.ref d), some (.int (0 + (j : Int))), some (.ref wa), some (.int (0 + (i : Int))), some (.ref cv), y6, y7, y8, none] H6) | (dsimp only; show (_ : L2.St → Hp → Prop) [some (.ref a), some (.ref d), some (.int (0 + (j : Int))), some (.ref wa), some (.int (0 + (i : Int))), some (.ref cv), y6, y7, y8, none] H6) | (dsimp only [gName]; show (_ : L2.St → Hp → Prop) [some (.ref a), some (.ref d), some (.int (0 + (j : Int))), some (.ref wa), some (.int (0 + (i : Int))), some (.ref cv), y6, y7, y8, none] H6)
        refine ⟨.ref wa, rfl, .ref cv, rfl, wa, cv, m, bs, cs, ps, rfl, tw6, ok, hcv, okp, by omega, fun H7 s7 => ?_⟩
        refine ⟨.bl (freeM m bs cs ps), rfl, .ref wa, rfl, .ref cv, rfl, wa, cv, m, bs, cs, ps, rfl, tw6.same s7, ok, hcv.same' s7, okp, by omega, fun H8 s8 => ?_⟩
        have s68 := s7.trans s8
        refine ⟨rfl, false, ?_, iteF ?_⟩
        · rw [← free_other ok]
          show V.bl (!decide (V.bl _ = V.bl _)) = V.bl false
          rw [decide_eq_true rfl]
          rfl
        refine ⟨2, rfl, by decide, by decide, ?_⟩
        refine for_range (lo := 0) (n := (2 : Int).toNat) (fun k σ H' => ∃ y7 y8, σ = [some (.ref a), some (.ref d), some (.int (0 + (j : Int))), some (.ref wa), some (.int (0 + (i : Int))), some (.ref cv), some (.bl (freeM m bs cs ps)), y7, y8, none] ∧ Gr H6 H') ⟨_, _, rfl, Gr.of s68⟩ ?_ ?_
        · rintro k σ H9 hk ⟨y7, y8, rfl, g9⟩
          refine ⟨.ref wa, rfl, .ref cv, rfl, wa, .ref cv, m, bs, cs, some ps, rfl, tw6.gr g9, ok, ⟨cv, rfl, hcv.gr g9, okp, by omega⟩, g9.tabs t6, fun H10 g10 => ?_⟩
          refine ⟨.bl _, rfl, _, _, _, _, true, rfl, .ty _, .base (.bl _), kit_ty kitBB, true, rfl, iteF ?_⟩
          refine ⟨.bl _, rfl, .bl _, rfl, rfl, false, ?_, iteF ?_⟩
          · show V.bl (!decide (V.bl (freeM m bs cs ps) = V.bl (freeM m bs cs ps))) = V.bl false
            rw [decide_eq_true rfl]
            rfl
          exact ⟨_, _, rfl, g9.trans g10⟩
        · rintro σ H9 ⟨y7, y8, rfl, g9⟩
          exact ⟨_, _, _, _, _, rfl, (D6.gr g9).mono (by push_cast; omega), g9.tabs t6, tw6.gr g9, fun _ => ⟨cv, ps, rfl, hcv.gr g9, okp, l48⟩⟩
      · rintro σ H4 ⟨y4, y5, y6, y7, y8, rfl, D4, t4, tw4, hc⟩
        obtain ⟨cv, ps, rfl, hcv, okp, l48⟩ := hc (by decide)
        replace D4 := D4.mono (show _ ≤ 20000 * (j : Int) + 10000 by push_cast; omega)
        first | (show (_ : L2.St → Hp → Prop) [some (.ref a), some (.ref d), some (.int (0 + (j : Int))), some (.ref wa), y4, some (.ref cv), y6, y7, y8, none] H4) | (unfold gName; show (_ : L2.St → Hp → Prop) [some (.ref a), some (.ref d), some (.int (0 + (j : Int))), some (.ref wa), y4, some (.ref cv), y6, y7, y8, none] H4) | (dsimp only; show (_ : L2.St → Hp → Prop) [some (.ref a), some (.ref d), some (.int (0 + (j : Int))), some (.ref wa), y4, some (.ref cv), y6, y7, y8, none] H4) | (dsimp only [gName]; show (_ : L2.St → Hp → Prop) [some (.ref a), some (.ref d), some (.int (0 + (j : Int))), some (.ref wa), y4, some (.ref cv), y6, y7, y8, none] H4)
        refine ⟨.ref wa, rfl, .ref cv, rfl, .ref wa, cv, m, ps, rfl, hcv, okp, m1, m4, l48, fun od os H5 nod s5 hod l64 bad => ?_⟩
        have t5 := (Gr.of s5).tabs t4
        have tw5 := tw4.same s5
        refine ⟨od, rfl, ⟨_, SqL.of hod⟩, fun L nL => ?_⟩
        refine lc_list (K := K) (a := od) (xs := os) (fun k H' => Gr H5 (hd1 L H') ∧ Tabs H' T.tabs ∧ H' L = some (.lst [])) ⟨Gr.of (hd1_of (same_upd nL) nL), (Gr.none nL).tabs t5, upd_same⟩ (fun k H' _ z => SqL.of (hd1_le _ _ (z.1.lst hod))) ?_ ?_
        · rintro k x H9 hx ⟨g9, t9, hL⟩
          obtain ⟨dd, sh, wt, bd⟩ := bad x (List.mem_of_getElem? hx)
          have g9' := g9.trans (Gr.of hd1_le)
          refine ⟨rfl, .ref wa, rfl, x, rfl, wa, x, m, bs, cs, none, rfl, tw5.gr g9', ok, ⟨dd, sh.gr g9', wt, bd⟩, t9, fun H10 g10 => ?_⟩
          refine ⟨_, _, rfl, rfl, false, rfl, iteF ⟨g9.trans (hd1_gr g10 fun P ⟨ps, e, _⟩ z => ?_), g10.tabs t9, g10.lst hL⟩⟩
          rw [← z, hL] at e
          cases e
        · rintro H9 ⟨g9, t9, hL⟩
          have D9 := (D4.same s5).gr (g9.trans (Gr.of hd1_le))
          refine ⟨Nat.zero_le _, fun e0 ne0 => ?_⟩
          have s10 := same_upd (o := HO.lst []) ne0
          refine ⟨L, e0, [], rfl, rfl, SqL.of (s10 _ _ hL), SqL.of upd_same, _, rfl, iteF ?_⟩
          exact ⟨_, _, _, _, _, _, _, rfl, (D9.same s10).mono (by push_cast; omega), (Gr.of s10).tabs t9⟩
    · rintro σ H2 ⟨y2, y3, y4, y5, y6, y7, y8, rfl, _, _⟩
      exact q H2

end
def d_is_whole : He.DefD := ⟨("is_whole", none), "is_whole", "is_whole", defArgs s_is_whole, defBody s_is_whole, defScope s_is_whole, [], []⟩
def d_choices_of : He.DefD := ⟨("choices_of", none), "choices_of", "choices_of", defArgs s_choices_of, defBody s_choices_of, defScope s_choices_of, [], []⟩
def d_rows_of : He.DefD := ⟨("rows_of", none), "rows_of", "rows_of", defArgs s_rows_of, defBody s_rows_of, defScope s_rows_of, [], []⟩
def d_show_row : He.DefD := ⟨("show_row", none), "show_row", "show_row", defArgs s_show_row, defBody s_show_row, defScope s_show_row, [], []⟩
def d_is_product : He.DefD := ⟨("is_product", none), "is_product", "is_product", defArgs s_is_product, defBody s_is_product, defScope s_is_product, [], []⟩
def d_holds_row : He.DefD := ⟨("holds_row", none), "holds_row", "holds_row", defArgs s_holds_row, defBody s_holds_row, defScope s_holds_row, [], []⟩
def d_holds_all : He.DefD := ⟨("holds_all", none), "holds_all", "holds_all", defArgs s_holds_all, defBody s_holds_all, defScope s_holds_all, [], []⟩
def d_meet : He.DefD := ⟨("meet", none), "meet", "meet", defArgs s_meet, defBody s_meet, defScope s_meet, [], []⟩
def d_cube_of : He.DefD := ⟨("cube_of", none), "cube_of", "cube_of", defArgs s_cube_of, defBody s_cube_of, defScope s_cube_of, [], []⟩
def d_is_cover : He.DefD := ⟨("is_cover", none), "is_cover", "is_cover", defArgs s_is_cover, defBody s_is_cover, defScope s_is_cover, [], []⟩
def d_told_of : He.DefD := ⟨("told_of", none), "told_of", "told_of", defArgs s_told_of, defBody s_told_of, defScope s_told_of, [], []⟩
def d_cover_word : He.DefD := ⟨("cover_word", none), "cover_word", "cover_word", defArgs s_cover_word, defBody s_cover_word, defScope s_cover_word, [], []⟩
def d_judged : He.DefD := ⟨("judged", none), "judged", "judged", defArgs s_judged, defBody s_judged, defScope s_judged, [], []⟩
def d_first_holding : He.DefD := ⟨("first_holding", none), "first_holding", "first_holding", defArgs s_first_holding, defBody s_first_holding, defScope s_first_holding, [], []⟩
def d_flashes : He.DefD := ⟨("flashes", none), "flashes", "flashes", defArgs s_flashes, defBody s_flashes, defScope s_flashes, [], []⟩
def d_is_free : He.DefD := ⟨("is_free", none), "is_free", "is_free", defArgs s_is_free, defBody s_is_free, defScope s_is_free, [], []⟩
def d_deck : He.DefD := ⟨("_law_deck", none), "_law_deck", "_law_deck", defArgs s_deck, defBody s_deck, defScope s_deck, [], []⟩
def d_next : He.DefD := ⟨("_law_next", none), "_law_next", "_law_next", defArgs s_next, defBody s_next, defScope s_next, [], []⟩
def d_rows : He.DefD := ⟨("_law_rows", none), "_law_rows", "_law_rows", defArgs s_rows, defBody s_rows, defScope s_rows, [], []⟩
def d_holds : He.DefD := ⟨("_law_holds", none), "_law_holds", "_law_holds", defArgs s_holds, defBody s_holds, defScope s_holds, [], []⟩
def d_inside : He.DefD := ⟨("_law_inside", none), "_law_inside", "_law_inside", defArgs s_inside, defBody s_inside, defScope s_inside, [], []⟩
def d_meets : He.DefD := ⟨("_law_meets", none), "_law_meets", "_law_meets", defArgs s_meets, defBody s_meets, defScope s_meets, [], []⟩
def d_cube : He.DefD := ⟨("_law_cube", none), "_law_cube", "_law_cube", defArgs s_cube, defBody s_cube, defScope s_cube, [], []⟩
def d_product : He.DefD := ⟨("_law_product", none), "_law_product", "_law_product", defArgs s_product, defBody s_product, defScope s_product, [], []⟩
def d_table : He.DefD := ⟨("_law_table", none), "_law_table", "_law_table", defArgs s_table, defBody s_table, defScope s_table, [], []⟩
def d_worth : He.DefD := ⟨("_law_worth", none), "_law_worth", "_law_worth", defArgs s_worth, defBody s_worth, defScope s_worth, [], []⟩
def d_change : He.DefD := ⟨("_law_change", none), "_law_change", "_law_change", defArgs s_change, defBody s_change, defScope s_change, [], []⟩
def d_wish : He.DefD := ⟨("_law_wish", none), "_law_wish", "_law_wish", defArgs s_wish, defBody s_wish, defScope s_wish, [], []⟩
def d_all_products : He.DefD := ⟨("_law_all_products", none), "_law_all_products", "_law_all_products", defArgs s_all_products, defBody s_all_products, defScope s_all_products, [], []⟩
def d_fits : He.DefD := ⟨("_law_fits", none), "_law_fits", "_law_fits", defArgs s_fits, defBody s_fits, defScope s_fits, [], []⟩
def d_allowed : He.DefD := ⟨("_law_allowed", none), "_law_allowed", "_law_allowed", defArgs s_allowed, defBody s_allowed, defScope s_allowed, [], []⟩
def d_asked : He.DefD := ⟨("_law_asked", none), "_law_asked", "_law_asked", defArgs s_asked, defBody s_asked, defScope s_asked, [], []⟩
def d_told_worth : He.DefD := ⟨("_law_told_worth", none), "_law_told_worth", "_law_told_worth", defArgs s_told_worth, defBody s_told_worth, defScope s_told_worth, [], []⟩
def d_fro : He.DefD := ⟨("_law_fro", none), "_law_fro", "_law_fro", defArgs s_fro, defBody s_fro, defScope s_fro, [], []⟩
def d_l_is_free : He.DefD := ⟨("_law_is_free", none), "_law_is_free", "_law_is_free", defArgs s_l_is_free, defBody s_l_is_free, defScope s_l_is_free, [], []⟩
def d_cover : He.DefD := ⟨("_law_cover", none), "_law_cover", "_law_cover", defArgs s_cover, defBody s_cover, defScope s_cover, [], []⟩
def d_other_words : He.DefD := ⟨("_law_other_words", none), "_law_other_words", "_law_other_words", defArgs s_other_words, defBody s_other_words, defScope s_other_words, [], []⟩
def d_odd : He.DefD := ⟨("_law_odd", none), "_law_odd", "_law_odd", defArgs s_odd, defBody s_odd, defScope s_odd, [], []⟩
def d_law : He.DefD := ⟨("law", none), "law", "law", defArgs s_law, defBody s_law, defScope s_law, [], []⟩
def fn : List He.DefD := [d_is_whole, d_choices_of, d_rows_of, d_show_row, d_is_product, d_holds_row, d_holds_all, d_meet, d_cube_of, d_is_cover, d_told_of, d_cover_word, d_judged, d_first_holding, d_flashes, d_is_free, d_deck, d_next, d_rows, d_holds, d_inside, d_meets, d_cube, d_product, d_table, d_worth, d_change, d_wish, d_all_products, d_fits, d_allowed, d_asked, d_told_worth, d_fro, d_l_is_free, d_cover, d_other_words, d_odd, d_law]
def fa : List He.Fa := [.glo "is_whole", .glo "choices_of", .glo "rows_of", .glo "show_row", .glo "is_product", .glo "holds_row", .glo "holds_all", .glo "meet", .glo "cube_of", .glo "is_cover", .glo "told_of", .glo "cover_word", .glo "judged", .glo "first_holding", .glo "flashes", .glo "is_free", .glo "_law_deck", .glo "_law_next", .glo "_law_rows", .glo "_law_holds", .glo "_law_inside", .glo "_law_meets", .glo "_law_cube", .glo "_law_product", .glo "_law_table", .glo "_law_worth", .glo "_law_change", .glo "_law_wish", .glo "_law_all_products", .glo "_law_fits", .glo "_law_allowed", .glo "_law_asked", .glo "_law_told_worth", .glo "_law_fro", .glo "_law_is_free", .glo "_law_cover", .glo "_law_other_words", .glo "_law_odd", .glo "law", .free "all", .free "any", .free "bool", .free "enumerate", .free "int", .free "isinstance", .free "len", .free "list", .free "range", .free "set", .free "sorted", .free "str", .free "sum", .free "tuple", .free "zip", .int "MOST_INPUTS" 6]
def tf : List He.Defn := [("show_row", none), ("is_product", none), ("holds_all", none), ("meet", none), ("cube_of", none), ("is_cover", none), ("told_of", none), ("is_free", none)]
abbrev RR : PySem.W.OpenRow := PySem.W.OpenLaw.row PySem.Challenge.rw_glitchnet_k45_free_covers
def yes : PySem.W.Frag → Bool := fun _ => true
abbrev hk : PySem.W.Hook := He.hookX 4 fa fn [] tf yes
def ob (s : PySem.W.SharedT) : He.AlX := He.obsX 4 fa fn [] tf yes (HandSHeadRun.getT s)
theorem ob_eq (s : PySem.W.SharedT) : ob s = hk.obs s.abs := He.obsX_eq (HandSHeadRun.getT_eq s)
theorem run (w : World) : HandSHeadRun.RunEq RR (PySem.W.view RR.prog [46]) hk ob 3000 [("is_whole" : PySem.Str), ("MOST_INPUTS" : PySem.Str), ("choices_of" : PySem.Str), ("rows_of" : PySem.Str), ("show_row" : PySem.Str), ("is_product" : PySem.Str), ("holds_row" : PySem.Str), ("holds_all" : PySem.Str), ("meet" : PySem.Str), ("cube_of" : PySem.Str), ("is_cover" : PySem.Str), ("told_of" : PySem.Str), ("cover_word" : PySem.Str), ("judged" : PySem.Str), ("first_holding" : PySem.Str), ("flashes" : PySem.Str), ("is_free" : PySem.Str), ("_law_deck" : PySem.Str), ("_law_next" : PySem.Str), ("_law_rows" : PySem.Str), ("_law_holds" : PySem.Str), ("_law_inside" : PySem.Str), ("_law_meets" : PySem.Str), ("_law_cube" : PySem.Str), ("_law_product" : PySem.Str), ("_law_table" : PySem.Str), ("_law_worth" : PySem.Str), ("_law_change" : PySem.Str), ("_law_wish" : PySem.Str), ("_law_all_products" : PySem.Str), ("_law_fits" : PySem.Str), ("_law_allowed" : PySem.Str), ("_law_asked" : PySem.Str), ("_law_told_worth" : PySem.Str), ("_law_fro" : PySem.Str), ("_law_is_free" : PySem.Str), ("_law_cover" : PySem.Str), ("_law_other_words" : PySem.Str), ("_law_odd" : PySem.Str)] w := by
  intro os
  kernel_rfl
theorem facts {w : World} {K : PySem.W.Frag} {h : Heap} {mg : Str → Option Value} {f : Addr} (X : K.In h) (G : h.Ns mainGlobals mg) (hfa : mg ("law" : Str) = some (.ref f)) (c : He.SaysX fa fn [] tf yes w h K) : LamX.LawAtS PySem.Challenge.rw_glitchnet_k45_free_covers w K CX0 10 63 "_law_script" mg f h := by
  obtain ⟨fd0, D0⟩ := c.t.d.def_ 0 (d := d_is_whole) rfl
  have F0 : Fun K "is_whole" "is_whole" s_is_whole (He.fAd K ("is_whole", none)) fd0 := fun_of D0
  have b0 := F0.binds (ps := ["thing"]) fun _ _ _ _ _ _ us hl => match us, hl with | [_], _ => rfl
  obtain ⟨fd1, D1⟩ := c.t.d.def_ 1 (d := d_choices_of) rfl
  have F1 : Fun K "choices_of" "choices_of" s_choices_of (He.fAd K ("choices_of", none)) fd1 := fun_of D1
  have b1 := F1.binds (ps := ["lists"]) fun _ _ _ _ _ _ us hl => match us, hl with | [_], _ => rfl
  obtain ⟨fd2, D2⟩ := c.t.d.def_ 2 (d := d_rows_of) rfl
  have F2 : Fun K "rows_of" "rows_of" s_rows_of (He.fAd K ("rows_of", none)) fd2 := fun_of D2
  have b2 := F2.binds (ps := ["many"]) fun _ _ _ _ _ _ us hl => match us, hl with | [_], _ => rfl
  obtain ⟨fd3, D3⟩ := c.t.d.def_ 3 (d := d_show_row) rfl
  have F3 : Fun K "show_row" "show_row" s_show_row (He.fAd K ("show_row", none)) fd3 := fun_of D3
  have b3 := F3.binds (ps := ["row"]) fun _ _ _ _ _ _ us hl => match us, hl with | [_], _ => rfl
  obtain ⟨fd4, D4⟩ := c.t.d.def_ 4 (d := d_is_product) rfl
  have F4 : Fun K "is_product" "is_product" s_is_product (He.fAd K ("is_product", none)) fd4 := fun_of D4
  have b4 := F4.binds (ps := ["many", "thing"]) fun _ _ _ _ _ _ us hl => match us, hl with | [_, _], _ => rfl
  obtain ⟨fd5, D5⟩ := c.t.d.def_ 5 (d := d_holds_row) rfl
  have F5 : Fun K "holds_row" "holds_row" s_holds_row (He.fAd K ("holds_row", none)) fd5 := fun_of D5
  have b5 := F5.binds (ps := ["product", "row"]) fun _ _ _ _ _ _ us hl => match us, hl with | [_, _], _ => rfl
  obtain ⟨fd6, D6⟩ := c.t.d.def_ 6 (d := d_holds_all) rfl
  have F6 : Fun K "holds_all" "holds_all" s_holds_all (He.fAd K ("holds_all", none)) fd6 := fun_of D6
  have b6 := F6.binds (ps := ["product", "other"]) fun _ _ _ _ _ _ us hl => match us, hl with | [_, _], _ => rfl
  obtain ⟨fd7, D7⟩ := c.t.d.def_ 7 (d := d_meet) rfl
  have F7 : Fun K "meet" "meet" s_meet (He.fAd K ("meet", none)) fd7 := fun_of D7
  have b7 := F7.binds (ps := ["product", "other"]) fun _ _ _ _ _ _ us hl => match us, hl with | [_, _], _ => rfl
  obtain ⟨fd8, D8⟩ := c.t.d.def_ 8 (d := d_cube_of) rfl
  have F8 : Fun K "cube_of" "cube_of" s_cube_of (He.fAd K ("cube_of", none)) fd8 := fun_of D8
  have b8 := F8.binds (ps := ["change"]) fun _ _ _ _ _ _ us hl => match us, hl with | [_], _ => rfl
  obtain ⟨fd9, D9⟩ := c.t.d.def_ 9 (d := d_is_cover) rfl
  have F9 : Fun K "is_cover" "is_cover" s_is_cover (He.fAd K ("is_cover", none)) fd9 := fun_of D9
  have b9 := F9.binds (ps := ["thing"]) fun _ _ _ _ _ _ us hl => match us, hl with | [_], _ => rfl
  obtain ⟨fd10, D10⟩ := c.t.d.def_ 10 (d := d_told_of) rfl
  have F10 : Fun K "told_of" "told_of" s_told_of (He.fAd K ("told_of", none)) fd10 := fun_of D10
  have b10 := F10.binds (ps := ["cover", "row"]) fun _ _ _ _ _ _ us hl => match us, hl with | [_, _], _ => rfl
  obtain ⟨fd11, D11⟩ := c.t.d.def_ 11 (d := d_cover_word) rfl
  have F11 : Fun K "cover_word" "cover_word" s_cover_word (He.fAd K ("cover_word", none)) fd11 := fun_of D11
  have b11 := F11.binds (ps := ["cover", "change"]) fun _ _ _ _ _ _ us hl => match us, hl with | [_, _], _ => rfl
  obtain ⟨fd12, D12⟩ := c.t.d.def_ 12 (d := d_judged) rfl
  have F12 : Fun K "judged" "judged" s_judged (He.fAd K ("judged", none)) fd12 := fun_of D12
  have b12 := F12.binds (ps := ["cover", "change"]) fun _ _ _ _ _ _ us hl => match us, hl with | [_, _], _ => rfl
  obtain ⟨fd13, D13⟩ := c.t.d.def_ 13 (d := d_first_holding) rfl
  have F13 : Fun K "first_holding" "first_holding" s_first_holding (He.fAd K ("first_holding", none)) fd13 := fun_of D13
  have b13 := F13.binds (ps := ["products", "change"]) fun _ _ _ _ _ _ us hl => match us, hl with | [_, _], _ => rfl
  obtain ⟨fd14, D14⟩ := c.t.d.def_ 14 (d := d_flashes) rfl
  have F14 : Fun K "flashes" "flashes" s_flashes (He.fAd K ("flashes", none)) fd14 := fun_of D14
  have b14 := F14.binds (ps := ["product", "change"]) fun _ _ _ _ _ _ us hl => match us, hl with | [_, _], _ => rfl
  obtain ⟨fd15, D15⟩ := c.t.d.def_ 15 (d := d_is_free) rfl
  have F15 : Fun K "is_free" "is_free" s_is_free (He.fAd K ("is_free", none)) fd15 := fun_of D15
  have b15 := F15.binds (ps := ["wish", "cover"]) fun _ _ _ _ _ _ us hl => match us, hl with | [_, _], _ => rfl
  obtain ⟨fd16, D16⟩ := c.t.d.def_ 16 (d := d_deck) rfl
  have F16 : Fun K "_law_deck" "_law_deck" s_deck (He.fAd K ("_law_deck", none)) fd16 := fun_of D16
  have b16 := F16.binds (ps := ["_law_script"]) fun _ _ _ _ _ _ us hl => match us, hl with | [_], _ => rfl
  obtain ⟨fd17, D17⟩ := c.t.d.def_ 17 (d := d_next) rfl
  have F17 : Fun K "_law_next" "_law_next" s_next (He.fAd K ("_law_next", none)) fd17 := fun_of D17
  have b17 := F17.binds (ps := ["_law_deck_here", "_law_most"]) fun _ _ _ _ _ _ us hl => match us, hl with | [_, _], _ => rfl
  obtain ⟨fd18, D18⟩ := c.t.d.def_ 18 (d := d_rows) rfl
  have F18 : Fun K "_law_rows" "_law_rows" s_rows (He.fAd K ("_law_rows", none)) fd18 := fun_of D18
  have b18 := F18.binds (ps := ["_law_many"]) fun _ _ _ _ _ _ us hl => match us, hl with | [_], _ => rfl
  obtain ⟨fd19, D19⟩ := c.t.d.def_ 19 (d := d_holds) rfl
  have F19 : Fun K "_law_holds" "_law_holds" s_holds (He.fAd K ("_law_holds", none)) fd19 := fun_of D19
  have b19 := F19.binds (ps := ["_law_product_here", "_law_row"]) fun _ _ _ _ _ _ us hl => match us, hl with | [_, _], _ => rfl
  obtain ⟨fd20, D20⟩ := c.t.d.def_ 20 (d := d_inside) rfl
  have F20 : Fun K "_law_inside" "_law_inside" s_inside (He.fAd K ("_law_inside", none)) fd20 := fun_of D20
  have b20 := F20.binds (ps := ["_law_product_here", "_law_other"]) fun _ _ _ _ _ _ us hl => match us, hl with | [_, _], _ => rfl
  obtain ⟨fd21, D21⟩ := c.t.d.def_ 21 (d := d_meets) rfl
  have F21 : Fun K "_law_meets" "_law_meets" s_meets (He.fAd K ("_law_meets", none)) fd21 := fun_of D21
  have b21 := F21.binds (ps := ["_law_product_here", "_law_other"]) fun _ _ _ _ _ _ us hl => match us, hl with | [_, _], _ => rfl
  obtain ⟨fd22, D22⟩ := c.t.d.def_ 22 (d := d_cube) rfl
  have F22 : Fun K "_law_cube" "_law_cube" s_cube (He.fAd K ("_law_cube", none)) fd22 := fun_of D22
  have b22 := F22.binds (ps := ["_law_one", "_law_other"]) fun _ _ _ _ _ _ us hl => match us, hl with | [_, _], _ => rfl
  obtain ⟨fd23, D23⟩ := c.t.d.def_ 23 (d := d_product) rfl
  have F23 : Fun K "_law_product" "_law_product" s_product (He.fAd K ("_law_product", none)) fd23 := fun_of D23
  have b23 := F23.binds (ps := ["_law_deck_here", "_law_many"]) fun _ _ _ _ _ _ us hl => match us, hl with | [_, _], _ => rfl
  obtain ⟨fd24, D24⟩ := c.t.d.def_ 24 (d := d_table) rfl
  have F24 : Fun K "_law_table" "_law_table" s_table (He.fAd K ("_law_table", none)) fd24 := fun_of D24
  have b24 := F24.binds (ps := ["_law_deck_here", "_law_many"]) fun _ _ _ _ _ _ us hl => match us, hl with | [_, _], _ => rfl
  obtain ⟨fd25, D25⟩ := c.t.d.def_ 25 (d := d_worth) rfl
  have F25 : Fun K "_law_worth" "_law_worth" s_worth (He.fAd K ("_law_worth", none)) fd25 := fun_of D25
  have b25 := F25.binds (ps := ["_law_wish_here", "_law_row"]) fun _ _ _ _ _ _ us hl => match us, hl with | [_, _], _ => rfl
  obtain ⟨fd26, D26⟩ := c.t.d.def_ 26 (d := d_change) rfl
  have F26 : Fun K "_law_change" "_law_change" s_change (He.fAd K ("_law_change", none)) fd26 := fun_of D26
  have b26 := F26.binds (ps := ["_law_deck_here", "_law_many", "_law_table_here"]) fun _ _ _ _ _ _ us hl => match us, hl with | [_, _, _], _ => rfl
  obtain ⟨fd27, D27⟩ := c.t.d.def_ 27 (d := d_wish) rfl
  have F27 : Fun K "_law_wish" "_law_wish" s_wish (He.fAd K ("_law_wish", none)) fd27 := fun_of D27
  have b27 := F27.binds (ps := ["_law_deck_here", "_law_most"]) fun _ _ _ _ _ _ us hl => match us, hl with | [_, _], _ => rfl
  obtain ⟨fd28, D28⟩ := c.t.d.def_ 28 (d := d_all_products) rfl
  have F28 : Fun K "_law_all_products" "_law_all_products" s_all_products (He.fAd K ("_law_all_products", none)) fd28 := fun_of D28
  have b28 := F28.binds (ps := ["_law_many"]) fun _ _ _ _ _ _ us hl => match us, hl with | [_], _ => rfl
  obtain ⟨fd29, D29⟩ := c.t.d.def_ 29 (d := d_fits) rfl
  have F29 : Fun K "_law_fits" "_law_fits" s_fits (He.fAd K ("_law_fits", none)) fd29 := fun_of D29
  have b29 := F29.binds (ps := ["_law_wish_here", "_law_product_here", "_law_change_here"]) fun _ _ _ _ _ _ us hl => match us, hl with | [_, _, _], _ => rfl
  obtain ⟨fd30, D30⟩ := c.t.d.def_ 30 (d := d_allowed) rfl
  have F30 : Fun K "_law_allowed" "_law_allowed" s_allowed (He.fAd K ("_law_allowed", none)) fd30 := fun_of D30
  have b30 := F30.binds (ps := ["_law_wish_here", "_law_product_here"]) fun _ _ _ _ _ _ us hl => match us, hl with | [_, _], _ => rfl
  obtain ⟨fd31, D31⟩ := c.t.d.def_ 31 (d := d_asked) rfl
  have F31 : Fun K "_law_asked" "_law_asked" s_asked (He.fAd K ("_law_asked", none)) fd31 := fun_of D31
  have b31 := F31.binds (ps := ["_law_wish_here"]) fun _ _ _ _ _ _ us hl => match us, hl with | [_], _ => rfl
  obtain ⟨fd32, D32⟩ := c.t.d.def_ 32 (d := d_told_worth) rfl
  have F32 : Fun K "_law_told_worth" "_law_told_worth" s_told_worth (He.fAd K ("_law_told_worth", none)) fd32 := fun_of D32
  have b32 := F32.binds (ps := ["_law_cover_here", "_law_row"]) fun _ _ _ _ _ _ us hl => match us, hl with | [_, _], _ => rfl
  obtain ⟨fd33, D33⟩ := c.t.d.def_ 33 (d := d_fro) rfl
  have F33 : Fun K "_law_fro" "_law_fro" s_fro (He.fAd K ("_law_fro", none)) fd33 := fun_of D33
  have b33 := F33.binds (ps := ["_law_cover_here", "_law_change_here"]) fun _ _ _ _ _ _ us hl => match us, hl with | [_, _], _ => rfl
  obtain ⟨fd34, D34⟩ := c.t.d.def_ 34 (d := d_l_is_free) rfl
  have F34 : Fun K "_law_is_free" "_law_is_free" s_l_is_free (He.fAd K ("_law_is_free", none)) fd34 := fun_of D34
  have b34 := F34.binds (ps := ["_law_wish_here", "_law_cover_here"]) fun _ _ _ _ _ _ us hl => match us, hl with | [_, _], _ => rfl
  obtain ⟨fd35, D35⟩ := c.t.d.def_ 35 (d := d_cover) rfl
  have F35 : Fun K "_law_cover" "_law_cover" s_cover (He.fAd K ("_law_cover", none)) fd35 := fun_of D35
  have b35 := F35.binds (ps := ["_law_deck_here", "_law_wish_here"]) fun _ _ _ _ _ _ us hl => match us, hl with | [_, _], _ => rfl
  obtain ⟨fd36, D36⟩ := c.t.d.def_ 36 (d := d_other_words) rfl
  have F36 : Fun K "_law_other_words" "_law_other_words" s_other_words (He.fAd K ("_law_other_words", none)) fd36 := fun_of D36
  have b36 := F36.binds (ps := ["_law_wish_here", "_law_cover_here"]) fun _ _ _ _ _ _ us hl => match us, hl with | [_, _], _ => rfl
  obtain ⟨fd37, D37⟩ := c.t.d.def_ 37 (d := d_odd) rfl
  have F37 : Fun K "_law_odd" "_law_odd" s_odd (He.fAd K ("_law_odd", none)) fd37 := fun_of D37
  have b37 := F37.binds (ps := ["_law_wish_here", "_law_cover_here"]) fun _ _ _ _ _ _ us hl => match us, hl with | [_, _], _ => rfl
  obtain ⟨fd38, D38⟩ := c.t.d.def_ 38 (d := d_law) rfl
  have F38 : Fun K "law" "law" s_law (He.fAd K ("law", none)) fd38 := fun_of D38
  have b38 := F38.binds (ps := ["_law_script"]) fun _ _ _ _ _ _ us hl => match us, hl with | [_], _ => rfl
  have e := hfa.symm.trans (He.glo_ok X G (c.t.d.fact 38 (f := .glo "law") rfl))
  cases e
  let T : Tx K mg := { f_is_whole := _, fd_is_whole := _, F_is_whole := F0, g_is_whole := He.glo_ok X G (c.t.d.fact 0 (f := .glo "is_whole") rfl), b_is_whole := b0, f_choices_of := _, fd_choices_of := _, F_choices_of := F1, g_choices_of := He.glo_ok X G (c.t.d.fact 1 (f := .glo "choices_of") rfl), b_choices_of := b1, f_rows_of := _, fd_rows_of := _, F_rows_of := F2, g_rows_of := He.glo_ok X G (c.t.d.fact 2 (f := .glo "rows_of") rfl), b_rows_of := b2, f_show_row := _, fd_show_row := _, F_show_row := F3, g_show_row := He.glo_ok X G (c.t.d.fact 3 (f := .glo "show_row") rfl), b_show_row := b3, c_show_row := (He.cT K ("show_row", none)).1, P_show_row := (He.cT K ("show_row", none)).2, cd_show_row := code_of F3, f_is_product := _, fd_is_product := _, F_is_product := F4, g_is_product := He.glo_ok X G (c.t.d.fact 4 (f := .glo "is_product") rfl), b_is_product := b4, c_is_product := (He.cT K ("is_product", none)).1, P_is_product := (He.cT K ("is_product", none)).2, cd_is_product := code_of F4, f_holds_row := _, fd_holds_row := _, F_holds_row := F5, g_holds_row := He.glo_ok X G (c.t.d.fact 5 (f := .glo "holds_row") rfl), b_holds_row := b5, f_holds_all := _, fd_holds_all := _, F_holds_all := F6, g_holds_all := He.glo_ok X G (c.t.d.fact 6 (f := .glo "holds_all") rfl), b_holds_all := b6, c_holds_all := (He.cT K ("holds_all", none)).1, P_holds_all := (He.cT K ("holds_all", none)).2, cd_holds_all := code_of F6, f_meet := _, fd_meet := _, F_meet := F7, g_meet := He.glo_ok X G (c.t.d.fact 7 (f := .glo "meet") rfl), b_meet := b7, c_meet := (He.cT K ("meet", none)).1, P_meet := (He.cT K ("meet", none)).2, cd_meet := code_of F7, f_cube_of := _, fd_cube_of := _, F_cube_of := F8, g_cube_of := He.glo_ok X G (c.t.d.fact 8 (f := .glo "cube_of") rfl), b_cube_of := b8, c_cube_of := (He.cT K ("cube_of", none)).1, P_cube_of := (He.cT K ("cube_of", none)).2, cd_cube_of := code_of F8, f_is_cover := _, fd_is_cover := _, F_is_cover := F9, g_is_cover := He.glo_ok X G (c.t.d.fact 9 (f := .glo "is_cover") rfl), b_is_cover := b9, c_is_cover := (He.cT K ("is_cover", none)).1, P_is_cover := (He.cT K ("is_cover", none)).2, cd_is_cover := code_of F9, f_told_of := _, fd_told_of := _, F_told_of := F10, g_told_of := He.glo_ok X G (c.t.d.fact 10 (f := .glo "told_of") rfl), b_told_of := b10, c_told_of := (He.cT K ("told_of", none)).1, P_told_of := (He.cT K ("told_of", none)).2, cd_told_of := code_of F10, f_cover_word := _, fd_cover_word := _, F_cover_word := F11, g_cover_word := He.glo_ok X G (c.t.d.fact 11 (f := .glo "cover_word") rfl), b_cover_word := b11, f_judged := _, fd_judged := _, F_judged := F12, g_judged := He.glo_ok X G (c.t.d.fact 12 (f := .glo "judged") rfl), b_judged := b12, f_first_holding := _, fd_first_holding := _, F_first_holding := F13, g_first_holding := He.glo_ok X G (c.t.d.fact 13 (f := .glo "first_holding") rfl), b_first_holding := b13, f_flashes := _, fd_flashes := _, F_flashes := F14, g_flashes := He.glo_ok X G (c.t.d.fact 14 (f := .glo "flashes") rfl), b_flashes := b14, f_is_free := _, fd_is_free := _, F_is_free := F15, g_is_free := He.glo_ok X G (c.t.d.fact 15 (f := .glo "is_free") rfl), b_is_free := b15, c_is_free := (He.cT K ("is_free", none)).1, P_is_free := (He.cT K ("is_free", none)).2, cd_is_free := code_of F15, f_deck := _, fd_deck := _, F_deck := F16, g_deck := He.glo_ok X G (c.t.d.fact 16 (f := .glo "_law_deck") rfl), b_deck := b16, f_next := _, fd_next := _, F_next := F17, g_next := He.glo_ok X G (c.t.d.fact 17 (f := .glo "_law_next") rfl), b_next := b17, f_rows := _, fd_rows := _, F_rows := F18, g_rows := He.glo_ok X G (c.t.d.fact 18 (f := .glo "_law_rows") rfl), b_rows := b18, f_holds := _, fd_holds := _, F_holds := F19, g_holds := He.glo_ok X G (c.t.d.fact 19 (f := .glo "_law_holds") rfl), b_holds := b19, f_inside := _, fd_inside := _, F_inside := F20, g_inside := He.glo_ok X G (c.t.d.fact 20 (f := .glo "_law_inside") rfl), b_inside := b20, f_meets := _, fd_meets := _, F_meets := F21, g_meets := He.glo_ok X G (c.t.d.fact 21 (f := .glo "_law_meets") rfl), b_meets := b21, f_cube := _, fd_cube := _, F_cube := F22, g_cube := He.glo_ok X G (c.t.d.fact 22 (f := .glo "_law_cube") rfl), b_cube := b22, f_product := _, fd_product := _, F_product := F23, g_product := He.glo_ok X G (c.t.d.fact 23 (f := .glo "_law_product") rfl), b_product := b23, f_table := _, fd_table := _, F_table := F24, g_table := He.glo_ok X G (c.t.d.fact 24 (f := .glo "_law_table") rfl), b_table := b24, f_worth := _, fd_worth := _, F_worth := F25, g_worth := He.glo_ok X G (c.t.d.fact 25 (f := .glo "_law_worth") rfl), b_worth := b25, f_change := _, fd_change := _, F_change := F26, g_change := He.glo_ok X G (c.t.d.fact 26 (f := .glo "_law_change") rfl), b_change := b26, f_wish := _, fd_wish := _, F_wish := F27, g_wish := He.glo_ok X G (c.t.d.fact 27 (f := .glo "_law_wish") rfl), b_wish := b27, f_all_products := _, fd_all_products := _, F_all_products := F28, g_all_products := He.glo_ok X G (c.t.d.fact 28 (f := .glo "_law_all_products") rfl), b_all_products := b28, f_fits := _, fd_fits := _, F_fits := F29, g_fits := He.glo_ok X G (c.t.d.fact 29 (f := .glo "_law_fits") rfl), b_fits := b29, f_allowed := _, fd_allowed := _, F_allowed := F30, g_allowed := He.glo_ok X G (c.t.d.fact 30 (f := .glo "_law_allowed") rfl), b_allowed := b30, f_asked := _, fd_asked := _, F_asked := F31, g_asked := He.glo_ok X G (c.t.d.fact 31 (f := .glo "_law_asked") rfl), b_asked := b31, f_told_worth := _, fd_told_worth := _, F_told_worth := F32, g_told_worth := He.glo_ok X G (c.t.d.fact 32 (f := .glo "_law_told_worth") rfl), b_told_worth := b32, f_fro := _, fd_fro := _, F_fro := F33, g_fro := He.glo_ok X G (c.t.d.fact 33 (f := .glo "_law_fro") rfl), b_fro := b33, f_l_is_free := _, fd_l_is_free := _, F_l_is_free := F34, g_l_is_free := He.glo_ok X G (c.t.d.fact 34 (f := .glo "_law_is_free") rfl), b_l_is_free := b34, f_cover := _, fd_cover := _, F_cover := F35, g_cover := He.glo_ok X G (c.t.d.fact 35 (f := .glo "_law_cover") rfl), b_cover := b35, f_other_words := _, fd_other_words := _, F_other_words := F36, g_other_words := He.glo_ok X G (c.t.d.fact 36 (f := .glo "_law_other_words") rfl), b_other_words := b36, f_odd := _, fd_odd := _, F_odd := F37, g_odd := He.glo_ok X G (c.t.d.fact 37 (f := .glo "_law_odd") rfl), b_odd := b37, f_law := _, fd_law := _, F_law := F38, g_law := He.glo_ok X G (c.t.d.fact 38 (f := .glo "law") rfl), b_law := b38, m_all := He.free_ok X G (c.t.d.fact 39 (f := .free "all") rfl), m_any := He.free_ok X G (c.t.d.fact 40 (f := .free "any") rfl), m_bool := He.free_ok X G (c.t.d.fact 41 (f := .free "bool") rfl), m_enumerate := He.free_ok X G (c.t.d.fact 42 (f := .free "enumerate") rfl), m_int := He.free_ok X G (c.t.d.fact 43 (f := .free "int") rfl), m_isinstance := He.free_ok X G (c.t.d.fact 44 (f := .free "isinstance") rfl), m_len := He.free_ok X G (c.t.d.fact 45 (f := .free "len") rfl), m_list := He.free_ok X G (c.t.d.fact 46 (f := .free "list") rfl), m_range := He.free_ok X G (c.t.d.fact 47 (f := .free "range") rfl), m_set := He.free_ok X G (c.t.d.fact 48 (f := .free "set") rfl), m_sorted := He.free_ok X G (c.t.d.fact 49 (f := .free "sorted") rfl), m_str := He.free_ok X G (c.t.d.fact 50 (f := .free "str") rfl), m_sum := He.free_ok X G (c.t.d.fact 51 (f := .free "sum") rfl), m_tuple := He.free_ok X G (c.t.d.fact 52 (f := .free "tuple") rfl), m_zip := He.free_ok X G (c.t.d.fact 53 (f := .free "zip") rfl), k_MOST_INPUTS := He.int_ok X G (c.t.d.fact 54 (f := .int "MOST_INPUTS" 6) rfl) }
  refine ⟨fd38, tf.map (He.cT K), sp_law K T.tabs, ?_, ?_, ?_, ?_, ?_, ?_⟩
  · rintro p hp
    obtain ⟨d, hd, rfl⟩ := List.mem_map.mp hp
    exact c.empty d hd
  · rintro p hp
    obtain ⟨d, hd, rfl⟩ := List.mem_map.mp hp
    exact c.out d hd
  · rintro p hp
    obtain ⟨d, hd, rfl⟩ := List.mem_map.mp hp
    exact PySem.W.codeHd_of_K X (c.hd d hd)
  · obtain ⟨oc, od, kV, doc, pm, an, cdv, ct, osl, rfl, lk, hcd⟩ := F38.ex
    exact fun s v => .of_eq rfl
  · intro H a ns hl hbits hT hS
    refine ⟨a, ns, rfl, hS, hl, fun P hP => ?_, fun _ => rfl⟩
    have hP : P ∈ (tf.map (He.cT K)).map (·.2) := hP
    obtain ⟨p, hp, rfl⟩ := List.mem_map.mp hP
    exact ⟨#[], hT p hp, by trivial⟩
  · intro base KB GB hTB
    have B : Tb base T := ⟨tab_of (hTB (He.cT K ("show_row", none)) (List.mem_map.mpr ⟨_, (show (("show_row", none) : He.Defn) ∈ tf by decide), rfl⟩)), tab_of (hTB (He.cT K ("is_product", none)) (List.mem_map.mpr ⟨_, (show (("is_product", none) : He.Defn) ∈ tf by decide), rfl⟩)), tab_of (hTB (He.cT K ("holds_all", none)) (List.mem_map.mpr ⟨_, (show (("holds_all", none) : He.Defn) ∈ tf by decide), rfl⟩)), tab_of (hTB (He.cT K ("meet", none)) (List.mem_map.mpr ⟨_, (show (("meet", none) : He.Defn) ∈ tf by decide), rfl⟩)), tab_of (hTB (He.cT K ("cube_of", none)) (List.mem_map.mpr ⟨_, (show (("cube_of", none) : He.Defn) ∈ tf by decide), rfl⟩)), tab_of (hTB (He.cT K ("is_cover", none)) (List.mem_map.mpr ⟨_, (show (("is_cover", none) : He.Defn) ∈ tf by decide), rfl⟩)), tab_of (hTB (He.cT K ("told_of", none)) (List.mem_map.mpr ⟨_, (show (("told_of", none) : He.Defn) ∈ tf by decide), rfl⟩)), tab_of (hTB (He.cT K ("is_free", none)) (List.mem_map.mpr ⟨_, (show (("is_free", none) : He.Defn) ∈ tf by decide), rfl⟩))⟩
    exact ok_law T B
end Gk
open PySem PySem.W PyProof.Rows
set_option maxRecDepth 100000 in
set_option maxHeartbeats 0 in
theorem PySem.Challenge.cw_glitchnet_k45_free_covers_holds : PySem.Challenge.rw_glitchnet_k45_free_covers.Holds := by
  w_on; o_law
  refine HandSHeadRun.head_any (r := OpenLaw.row PySem.Challenge.rw_glitchnet_k45_free_covers) (q := view (OpenLaw.row PySem.Challenge.rw_glitchnet_k45_free_covers).prog [46]) (H := Gk.hk) (ob := Gk.ob) (M := 3000) (loose := [("is_whole" : PySem.Str), ("MOST_INPUTS" : PySem.Str), ("choices_of" : PySem.Str), ("rows_of" : PySem.Str), ("show_row" : PySem.Str), ("is_product" : PySem.Str), ("holds_row" : PySem.Str), ("holds_all" : PySem.Str), ("meet" : PySem.Str), ("cube_of" : PySem.Str), ("is_cover" : PySem.Str), ("told_of" : PySem.Str), ("cover_word" : PySem.Str), ("judged" : PySem.Str), ("first_holding" : PySem.Str), ("flashes" : PySem.Str), ("is_free" : PySem.Str), ("_law_deck" : PySem.Str), ("_law_next" : PySem.Str), ("_law_rows" : PySem.Str), ("_law_holds" : PySem.Str), ("_law_inside" : PySem.Str), ("_law_meets" : PySem.Str), ("_law_cube" : PySem.Str), ("_law_product" : PySem.Str), ("_law_table" : PySem.Str), ("_law_worth" : PySem.Str), ("_law_change" : PySem.Str), ("_law_wish" : PySem.Str), ("_law_all_products" : PySem.Str), ("_law_fits" : PySem.Str), ("_law_allowed" : PySem.Str), ("_law_asked" : PySem.Str), ("_law_told_worth" : PySem.Str), ("_law_fro" : PySem.Str), ("_law_is_free" : PySem.Str), ("_law_cover" : PySem.Str), ("_law_other_words" : PySem.Str), ("_law_odd" : PySem.Str)]) (d := HandSHeadRun.topDef (OpenLaw.row PySem.Challenge.rw_glitchnet_k45_free_covers).prog 46) (kwd := []) Gk.ob_eq
    (by kernel_rfl) (fun s => by kernel_rfl) Gk.run (by kernel_rfl) (by kernel_rfl) (by kernel_rfl) (by rfl) (by first | assumption | decide +kernel) (by decide +kernel) ⟨rfl, rfl, rfl, rfl, rfl, by decide +kernel⟩ ?hw ?hc
  case hw => w_witness2
  case hc =>
    refine LamX.walk_ofTsE (l := PySem.Challenge.rw_glitchnet_k45_free_covers) (n := 63) (k := 10) (x := "_law_script") (CX := fun _ => L2.CX0) rfl (by decide) (by kernel_rfl) ⟨rfl, by decide, by decide⟩ ?F (fun _ _ _ _ _ z => z)
    intro w mg fa h Y G hmg0
    obtain ⟨K, KX, c⟩ := Y
    have hmg : mg ("law" : PySem.Str) = some (.ref fa) := by
      have e : (HandSHeadRun.topDef (OpenLaw.row PySem.Challenge.rw_glitchnet_k45_free_covers).prog 46).name = ("law" : PySem.Str) := by kernel_rfl
      rw [← e]
      exact hmg0
    exact ⟨K, KX, Gk.facts KX G hmg c⟩
