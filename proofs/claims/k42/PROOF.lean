import PyProof.Rows.All
import Wide.All
import OpenK.AllK
import Wide.FinOn
import HandS.ForMost
import HandS.SortRule
import HandS.TupSets
import KE.GoesMore
import KE.KDictZip
import HandS.IsInst
import HandS.TupLe
import HandS.TupAny
import HandS.TupMul
import HandS.More
import HandS.Codes
import HandS.Conv
import HandS.Deep
import HandS.Style
import HandS.Strs
import HandS.AnyAll
import HandS.GenList
import HandS.JoinGen
import HandS.Zip
import HandS.Rev
import HandS.Head0
import HandS.Head1
import HandS.Head2
import HandS.HeadEnd
import HandS.HeadHook1
import HandS.HeadHook2
import HandS.HeadHook3
import HandS.HeadHook4
import HandS.HeadWalk
import HandS.Defaults
import HandS.ReplaceLit
import PySem.Challenge.RW_glitchnet_k42_what_is_a_wish
import HandS.RevTup
import HandS.FStr
import HandS.Flow
import PyProof.TupleOfStr
set_option Elab.async false
set_option linter.all false
set_option maxRecDepth 100000
set_option maxHeartbeats 1000000
namespace Gk
open PySem PySem.Spec PyProof.Rows L2
/-! ### sorted of pairs of tuples of ints -/
namespace SrtTT
open PySem PyProof.Rows Srt SrtO
theorem lex_asym : ∀ xs ys : List Int, HT.lexLt xs ys = true → HT.lexLt ys xs = false
  | [], [], h => by rw [HT.lexLt_nil_nil] at h; cases h
  | [], y :: ys, _ => HT.lexLt_cons_nil y ys
  | x :: xs, [], h => by rw [HT.lexLt_cons_nil] at h; cases h
  | x :: xs, y :: ys, h => by
    rw [HT.lexLt_cons] at h ⊢
    by_cases e : x = y
    · rw [if_pos e] at h
      rw [if_pos e.symm]
      exact lex_asym xs ys h
    · rw [if_neg e] at h
      rw [if_neg (Ne.symm e)]
      have a := of_decide_eq_true h
      exact decide_eq_false (by omega)
theorem lex_tot : ∀ xs ys : List Int, HT.lexLt xs ys = false → HT.lexLt ys xs = false → xs = ys
  | [], [], _, _ => rfl
  | [], y :: ys, h, _ => by rw [HT.lexLt_nil_cons] at h; cases h
  | x :: xs, [], _, h => by rw [HT.lexLt_nil_cons] at h; cases h
  | x :: xs, y :: ys, h1, h2 => by
    rw [HT.lexLt_cons] at h1 h2
    by_cases e : x = y
    · rw [if_pos e] at h1
      rw [if_pos e.symm] at h2
      rw [e, lex_tot xs ys h1 h2]
    · rw [if_neg e] at h1
      rw [if_neg (Ne.symm e)] at h2
      have a := of_decide_eq_false h1
      have b := of_decide_eq_false h2
      omega
theorem lex_tr : ∀ xs ys zs : List Int, HT.lexLt ys xs = false → HT.lexLt zs ys = false → HT.lexLt zs xs = false
  | [], ys, zs, _, _ => by
    cases zs with
    | nil => exact HT.lexLt_nil_nil
    | cons z zs => exact HT.lexLt_cons_nil z zs
  | x :: xs, [], zs, h, _ => by rw [HT.lexLt_nil_cons] at h; cases h
  | x :: xs, y :: ys, [], _, h => by rw [HT.lexLt_nil_cons] at h; cases h
  | x :: xs, y :: ys, z :: zs, h1, h2 => by
    rw [HT.lexLt_cons] at h1 h2 ⊢
    by_cases e1 : y = x
    · rw [if_pos e1] at h1
      by_cases e2 : z = y
      · rw [if_pos e2] at h2
        rw [if_pos (e2.trans e1)]
        exact lex_tr xs ys zs h1 h2
      · rw [if_neg e2] at h2
        have b := of_decide_eq_false h2
        rw [if_neg (fun q => e2 (q.trans e1.symm))]
        exact decide_eq_false (by omega)
    · rw [if_neg e1] at h1
      have a := of_decide_eq_false h1
      by_cases e2 : z = y
      · rw [if_neg (fun q => e1 (e2.symm.trans q))]
        exact decide_eq_false (by omega)
      · rw [if_neg e2] at h2
        have b := of_decide_eq_false h2
        have n : ¬ z = x := by omega
        rw [if_neg n]
        exact decide_eq_false (by omega)
def ltTT (p q : List Int × List Int) : Bool := if p.1 = q.1 then HT.lexLt p.2 q.2 else HT.lexLt p.1 q.1
theorem tt_asym {p q : List Int × List Int} (h : ltTT p q = true) : ltTT q p = false := by
  unfold ltTT at h ⊢
  by_cases e : p.1 = q.1
  · rw [if_pos e] at h
    rw [if_pos e.symm]
    exact lex_asym _ _ h
  · rw [if_neg e] at h
    rw [if_neg (Ne.symm e)]
    exact lex_asym _ _ h
theorem tt_tot {p q : List Int × List Int} (h1 : ltTT p q = false) (h2 : ltTT q p = false) : p = q := by
  unfold ltTT at h1 h2
  by_cases e : p.1 = q.1
  · rw [if_pos e] at h1
    rw [if_pos e.symm] at h2
    exact Prod.ext e (lex_tot _ _ h1 h2)
  · rw [if_neg e] at h1
    rw [if_neg (Ne.symm e)] at h2
    exact absurd (lex_tot _ _ h1 h2) e
theorem tt_tr {x y z : List Int × List Int} (h1 : ltTT y x = false) (h2 : ltTT z y = false) : ltTT z x = false := by
  unfold ltTT at h1 h2 ⊢
  by_cases e1 : y.1 = x.1
  · rw [if_pos e1] at h1
    by_cases e2 : z.1 = y.1
    · rw [if_pos e2] at h2
      rw [if_pos (e2.trans e1)]
      exact lex_tr _ _ _ h1 h2
    · rw [if_neg e2] at h2
      rw [if_neg (fun q => e2 (q.trans e1.symm)), ← e1]
      exact h2
  · rw [if_neg e1] at h1
    by_cases e2 : z.1 = y.1
    · rw [if_neg (fun q => e1 (e2.symm.trans q)), e2]
      exact h1
    · rw [if_neg e2] at h2
      by_cases e3 : z.1 = x.1
      · rw [e3] at h2
        exact absurd (lex_tot _ _ h1 h2) e1
      · rw [if_neg e3]
        exact lex_tr _ _ _ h1 h2
theorem swo_tt {α : Type} (k : α → List Int × List Int) : Swo (fun v u : α => ltTT (k v) (k u)) := ⟨fun _ _ h => tt_asym h, fun _ _ _ h1 h2 => tt_tr h1 h2⟩
def IsTT (h : Heap) (v : Value) (k : List Int × List Int) : Prop := ∃ p o x y n, v = .ref p ∧ h.get? p = some o ∧ o.cls = .type "tuple" ∧ o.data = .seq #[x, y] n ∧ TS.TupInts h x k.1 ∧ TS.TupInts h y k.2
theorem IsTT.keeps {h h' : Heap} {v : Value} {k : List Int × List Int} (x : IsTT h v k) (kp : ∀ b o, h.get? b = some o → o.cls = .type "tuple" → h'.get? b = some o) : IsTT h' v k := by
  obtain ⟨p, o, x, y, n, e, ho, hc, hd, h1, h2⟩ := x
  exact ⟨p, o, x, y, n, e, kp _ _ ho hc, hc, hd, h1.keeps kp, h2.keeps kp⟩
theorem ints_fun {vs : List Value} {a b : List Int} (h : IntsAre vs a) (h' : IntsAre vs b) : a = b := by
  induction h generalizing b with
  | nil => cases h'; rfl
  | cons n t r ih =>
    cases h' with
    | cons _ _ r' => rw [ih r']
section
variable {prog : Program} {w : World} {A : Around} {E : Value → Shared → Prop} {s : Shared}
theorem all_eq : ∀ (a b : List Int), a.length = b.length → ((List.range a.length).all fun j => decide (a.getD j 0 = b.getD j 0)) = decide (a = b) := by
  intro a b hl
  by_cases e : a = b
  · subst e
    simp
  · rw [decide_eq_false e]
    rw [Bool.eq_false_iff]
    intro h
    apply e
    rw [List.all_eq_true] at h
    apply List.ext_getElem hl
    intro i h1 h2
    have := of_decide_eq_true (h i (List.mem_range.mpr h1))
    simpa [List.getD_eq_getElem?_getD, h1, h2] using this
theorem eqTup {x y : Value} {a b : List Int} (hu : A.units < cLine) (hx : TS.TupInts s.heap x a) (hy : TS.TupInts s.heap y b) : SeqAt.EqAt A s x y (decide (a = b)) := by
  obtain ⟨p, xs, rfl, ⟨o, ho, hc, n, hd⟩, hi⟩ := hx
  obtain ⟨q, ys, rfl, ⟨o', ho', hc', n', hd'⟩, hi'⟩ := hy
  by_cases e : p = q
  · subst e
    rw [ho] at ho'
    cases ho'
    rw [hd] at hd'
    cases hd'
    rw [ints_fun hi hi', decide_eq_true rfl]
    exact SeqAt.EqAt.same _
  · have z1 : xs.size = a.length := by rw [← hi.length]; simp
    have z2 : ys.size = b.length := by rw [← hi'.length]; simp
    have at1 : ∀ j (h1 : j < xs.size), ∃ t, xs[j] = .int (a.getD j 0) t := fun j h1 => PyProof.Rows.IntsAre.int_at hi _ _ (by simp [h1])
    have at2 : ∀ j (h1 : j < ys.size), ∃ t, ys[j] = .int (b.getD j 0) t := fun j h1 => PyProof.Rows.IntsAre.int_at hi' _ _ (by simp [h1])
    have R := SeqAt.RcAt.tuples (A := A) (s := s) (e := fun j => decide (a.getD j 0 = b.getD j 0)) (l := p) (b := q) (items := xs) (items2 := ys) ⟨o, ho, hc, n, hd⟩ ⟨o', ho', hc', n', hd'⟩ hu (fun j h1 h2 => by
      obtain ⟨t, et⟩ := at1 j h1
      obtain ⟨t', et'⟩ := at2 j h2
      rw [et, et']
      have z : (a.getD j 0 == b.getD j 0) = decide (a.getD j 0 = b.getD j 0) := by
        by_cases q : a.getD j 0 = b.getD j 0
        · rw [decide_eq_true q]; exact beq_iff_eq.mpr q
        · rw [decide_eq_false q]; exact beq_eq_false_iff_ne.mpr q
      rw [← z]
      exact SeqAt.EqAt.int_int _ _ _ _)
    have ez : ((List.range (min xs.size ys.size)).all (fun j => decide (a.getD j 0 = b.getD j 0)) && xs.size == ys.size) = decide (a = b) := by
      rw [z1, z2]
      by_cases hl : a.length = b.length
      · rw [hl, Nat.min_self, beq_self_eq_true, Bool.and_true, ← hl]
        exact all_eq a b hl
      · rw [beq_eq_false_iff_ne.mpr hl, Bool.and_false, decide_eq_false (fun q => hl (by rw [q]))]
    rw [ez] at R
    exact SeqAt.EqAt.of_refs e R
theorem tt_cmp {vs : List Value} {k : Value → List Int × List Int} (hu : A.units < cLine) (hp : ∀ v ∈ vs, IsTT s.heap v (k v)) : Cmp prog w A s (tuples' false) (fun p => p.1 ∈ vs) (lt2 fun v u => ltTT (k v) (k u)) := by
  intro p q hm hm'
  have h1 := hp _ hm
  have h2 := hp _ hm'
  show wpAny (model prog w) A (keyLt' (tuples' false) p.1 q.1) (fun r s' => s' = s ∧ r = ltTT (k p.1) (k q.1)) (fun _ _ => False) s
  unfold ltTT
  generalize k p.1 = c at h1 ⊢
  generalize k q.1 = c' at h2 ⊢
  obtain ⟨a, o, x, y, n, e, ho, hc, hd, hx, hy⟩ := h1
  obtain ⟨a', o', x', y', n', e', ho', hc', hd', hx', hy'⟩ := h2
  rw [e, e']
  have lt : ∀ {x y : Value} {a b : List Int}, TS.TupInts s.heap x a → TS.TupInts s.heap y b → ∀ {Q : Bool → Shared → Prop}, Q (HT.lexLt a b) s → wpAny (model prog w) A (oneLt' false x y) Q (fun _ _ => False) s := by
    intro x y a b ix iy Q hq
    obtain ⟨p, xs, rfl, hp, hi⟩ := ix
    obtain ⟨q, ys, rfl, hq', hi'⟩ := iy
    refine PySem.W.kat_one _ _ (HT.lt_tupInts hp hq' hi hi' hu ?_)
    exact hq
  refine PySem.W.kat_lt ho hd ho' hd' ?_
  show PySem.W.KatLex prog w A false (decide (2 < 2)) _ [(x, x'), (y, y')] 0 s
  refine PySem.W.kat_cons (eqTup hu hx hx' prog w _ _ ?_)
  refine PySem.W.kat_go (fun e1 => ?_) (fun e1 => ?_)
  · have ex := of_decide_eq_true e1
    rw [if_pos ex]
    refine PySem.W.kat_yes (PySem.W.kat_cons (eqTup hu hy hy' prog w _ _ ?_))
    refine PySem.W.kat_go (fun e2 => ?_) (fun e2 => ?_)
    · have ey := of_decide_eq_true e2
      refine PySem.W.kat_yes (PySem.W.kat_nil ⟨rfl, ?_⟩)
      rw [ey]
      exact ((swo_tt (fun c : List Int => (([] : List Int), c))).refl c'.2).symm
    · exact PySem.W.kat_no (lt hy hy' ⟨rfl, rfl⟩)
  · rw [if_neg (of_decide_eq_false e1)]
    exact PySem.W.kat_no (lt hx hx' ⟨rfl, rfl⟩)
theorem firsts_tt {h : Heap} : ∀ {vs : List Value}, (∀ v ∈ vs, ∃ k, IsTT h v k) → ∃ fs : List Value, PySem.W.KatTups h vs fs ∧ fs.length = vs.length ∧ ∀ f ∈ fs, ∃ ns, TS.TupInts h f ns
  | [], _ => ⟨[], PySem.W.KatTups.nil, rfl, fun _ hm => by simp at hm⟩
  | v :: vs, hp => by
    obtain ⟨fs, h1, h2, h3⟩ := firsts_tt (vs := vs) fun v' hm => hp v' (List.mem_cons_of_mem _ hm)
    obtain ⟨k, a, o, x, y, n, e, ho, hc, hd, hx, hy⟩ := hp v (List.mem_cons_self ..)
    subst e
    refine ⟨x :: fs, PySem.W.KatTups.cons ho hc hd rfl h1, by rw [List.length_cons, List.length_cons, h2], fun f hm => ?_⟩
    rcases List.mem_cons.mp hm with rfl | hm
    · exact ⟨_, hx⟩
    · exact h3 f hm
theorem tt_sortableO {a : Addr} {vs : List Value} {k : Value → List Int × List Int} (hu : A.units < cLine) (h0 : 0 < vs.length) (hp : ∀ v ∈ vs, IsTT s.heap v (k v)) (ha : ∀ o, s.heap.get? a = some o → o.cls ≠ .type "tuple") : SortableO prog w A s a vs fun v u => ltTT (k v) (k u) := by
  intro h' keep
  have hp' : ∀ v ∈ vs, IsTT h' v (k v) := fun v hm => (hp v hm).keeps fun b o e c => keep b o (fun z => by subst z; exact ha o e c) e
  obtain ⟨fs, h1, h2, h3⟩ := firsts_tt fun v hm => ⟨_, hp' v hm⟩
  refine ⟨tuples' false, fun Q E hq => ?_, tt_cmp (s := { s with heap := h' }) hu hp'⟩
  refine PySem.W.kat_kind (T := .type "tuple") h1 (by omega) (fun f hm => ?_) (by rfl) ?_
  · obtain ⟨ns, p, xs, rfl, ⟨o, ho, hc, _⟩, _⟩ := h3 f hm
    have z : PySem.W.Looks (model prog w) h' (typeOf (.ref p)) o.cls := (PySem.W.Looks.ld ho).andThen .now
    rw [hc] at z
    exact z
  · have e : (Value.type "tuple" != Value.type "tuple") = false := by first | decide +kernel | rfl | decide
    rw [e]
    exact hq
end
end SrtTT
/-- sorted(xs), pairs of tuples of ints, any number of them -/
def rSortedTT (K : PySem.W.Frag) : List V → Hp → VK → Prop := fun vs H Q => ∃ (a : Addr) (xs : List V) (k : V → List Int × List Int), vs = [V.ref a] ∧ SqL K H a xs ∧ (∀ x ∈ xs, ∃ t u v, x = V.ref t ∧ H t = some (.tup [.ref u, .ref v]) ∧ SqT K H u ((k x).1.map V.int) ∧ SqT K H v ((k x).2.map V.int)) ∧
  ∀ ys p, SrtO.Srtd (fun x y => SrtTT.ltTT (k x) (k y)) ys → ys.Perm xs → H p = none → Q (.ref p) (upd H p (.lst ys))
theorem cr_sortedTT {X : Cx} (hu : X.A.units + 64 < cLine) : CallR X (.builtin "sorted") (rSortedTT X.K) := by
  intro pins s σ H vs us Q I r h
  obtain ⟨a, xs, k, rfl, hs, hx, q⟩ := h
  obtain ⟨its, rv, hl, hz⟩ := I.list hs
  obtain ⟨u, rfl, ru⟩ := vals1 r
  obtain rfl : u = Value.ref a := ru
  obtain ⟨e1, e2⟩ := refs_back rv fun x m => by
    obtain ⟨t, _, _, e, _⟩ := hx x m
    exact ⟨t, e⟩
  have hp : ∀ v ∈ its, SrtTT.IsTT s.heap v (k (backV v)) := fun v hv => by
    obtain ⟨t, rfl⟩ := e2 v hv
    have hm : V.ref t ∈ xs := by rw [e1]; exact List.mem_map.mpr ⟨_, hv, rfl⟩
    obtain ⟨t', u1, u2, e, ht, h1, h2⟩ := hx _ hm
    cases e
    obtain ⟨_, its2, r2, o, ho, hc, n, hd⟩ := I.hok _ _ ht
    obtain ⟨w1, w2, rfl, ri, rj⟩ := vals2 r2
    obtain rfl : w1 = Value.ref u1 := ri
    obtain rfl : w2 = Value.ref u2 := rj
    exact ⟨t, o, _, _, n, rfl, ho, hc, hd, tupI_raw I h1, tupI_raw I h2⟩
  refine SrtO.sorted_ord (SrtTT.swo_tt fun u => k (backV u)) hl.isList (by rw [← rv.length]; exact hz) (fun h2 h₁ a' ha kk => ?_) fun out h1 h2 => ?_
  · refine SrtTT.tt_sortableO (k := fun u => k (backV u)) (s := { s with heap := h₁ }) (by simp only [Around.in1_units]; omega) (by omega) (fun v hm => (hp v hm).keeps fun b o e _ => (kk b o e).2) fun o e => ?_
    have e' : some o = some (seqObj "list" its.toArray 0) := e.symm.trans ha
    cases e'
    intro c
    exact absurd (Value.type.inj c) (by decide)
  · have h3 : ∀ u ∈ out, ∃ a, u = Value.ref a := fun u hu => e2 u (h2.perm.mem_iff.mp hu)
    obtain ⟨n, hn⟩ := PyProof.Rows.sortedAll_at s.heap its out.toArray
    have hb : (out.map backV).Perm xs := by
      rw [e1]
      exact h2.perm.map backV
    refine ⟨.ref _, upd H (s.heap.objs.size + 1) (.lst (out.map backV)), I.laid (t' := s.toks) (fun _ _ => PyProof.Rows.sortedAll_old) (Nat.le_succ _) ⟨?_, out, n, vals_back h3, hn⟩, rfl, q _ _ (SrtO.srtd_map h1) hb (I.hok.fresh (Nat.le_succ _))⟩
    rw [hb.length_eq]
    exact hz

/-! ### sorted of tuples of ints, any number of them -/
namespace SrtT
open PySem PyProof.Rows Srt SrtO
theorem swo_t {α : Type} (k : α → List Int) : Swo (fun v u : α => HT.lexLt (k v) (k u)) := ⟨fun _ _ h => SrtTT.lex_asym _ _ h, fun _ _ _ h1 h2 => SrtTT.lex_tr _ _ _ h1 h2⟩
section
variable {prog : Program} {w : World} {A : Around} {E : Value → Shared → Prop} {s : Shared}
theorem lex {Q : Bool → Shared → Prop} : ∀ {xs ys : List Value} {a b : List Int} (i : Nat), IntsAre xs a → IntsAre ys b → a.length = b.length → Q (HT.lexLt a b) s → PySem.W.KatLex prog w A true false Q (xs.zip ys) i s
  | _, _, _, _, i, .nil, .nil, _, h => PySem.W.kat_nil h
  | _, _, _, _, i, .nil, .cons _ _ _, hl, h => by simp at hl
  | _, _, _, _, i, .cons _ _ _, .nil, hl, h => by simp at hl
  | _, _, _, _, i, .cons n t r, .cons m u r', hl, h => by
    refine PySem.W.kat_cons (SeqAt.EqAt.int_int _ _ _ _ prog w _ _ ?_)
    refine PySem.W.kat_go (fun e => ?_) (fun e => ?_)
    · have e : n = m := beq_iff_eq.mp e
      rw [HT.lexLt_cons, if_pos e] at h
      exact PySem.W.kat_yes (lex (i + 1) r r' (by simpa using hl) h)
    · have e : n ≠ m := beq_eq_false_iff_ne.mp e
      rw [HT.lexLt_cons, if_neg e] at h
      exact PySem.W.kat_no (TS.oneLt_ints _ h)
theorem t_cmp {d : Nat} {vs : List Value} {k : Value → List Int} (hp : ∀ v ∈ vs, TS.TupInts s.heap v (k v) ∧ (k v).length = d) : Cmp prog w A s (tuples' true) (fun p => p.1 ∈ vs) (lt2 fun v u => HT.lexLt (k v) (k u)) := by
  intro p q hm hm'
  obtain ⟨h1, l1⟩ := hp _ hm
  obtain ⟨h2, l2⟩ := hp _ hm'
  show wpAny (model prog w) A (keyLt' (tuples' true) p.1 q.1) (fun r s' => s' = s ∧ r = HT.lexLt (k p.1) (k q.1)) (fun _ _ => False) s
  generalize k p.1 = c at h1 l1 ⊢
  generalize k q.1 = c' at h2 l2 ⊢
  obtain ⟨a, xs, e, ⟨o, ho, hc, n, hd⟩, hi⟩ := h1
  obtain ⟨a', ys, e', ⟨o', ho', hc', n', hd'⟩, hi'⟩ := h2
  rw [e, e']
  refine PySem.W.kat_lt ho hd ho' hd' ?_
  have z1 : xs.size = c.length := by rw [← hi.length]; simp
  have z2 : ys.size = c'.length := by rw [← hi'.length]; simp
  have z : decide (xs.size < ys.size) = false := decide_eq_false (by omega)
  rw [z]
  exact lex 0 hi hi' (by omega) ⟨rfl, rfl⟩
theorem firsts_t {d : Nat} {h : Heap} (hd : 1 ≤ d) : ∀ {vs : List Value}, (∀ v ∈ vs, ∃ k, TS.TupInts h v k ∧ k.length = d) → ∃ fs : List Value, PySem.W.KatTups h vs fs ∧ fs.length = vs.length ∧ ∀ f ∈ fs, ∃ n t, f = Value.int n t
  | [], _ => ⟨[], PySem.W.KatTups.nil, rfl, fun _ hm => by simp at hm⟩
  | v :: vs, hp => by
    obtain ⟨fs, h1, h2, h3⟩ := firsts_t hd (vs := vs) fun v' hm => hp v' (List.mem_cons_of_mem _ hm)
    obtain ⟨k, ⟨a, xs, e, ⟨o, ho, hc, n, hdd⟩, hi⟩, hl⟩ := hp v (List.mem_cons_self ..)
    subst e
    have z1 : xs.size = k.length := by rw [← hi.length]; simp
    have h0 : 0 < xs.size := by omega
    obtain ⟨t, et⟩ := PyProof.Rows.IntsAre.int_at hi 0 xs[0] (by simp [h0])
    refine ⟨xs[0] :: fs, PySem.W.KatTups.cons ho hc hdd (by simp [h0]) h1, by rw [List.length_cons, List.length_cons, h2], fun f hm => ?_⟩
    rcases List.mem_cons.mp hm with rfl | hm
    · exact ⟨_, _, et⟩
    · exact h3 f hm
theorem t_sortableO {d : Nat} {a : Addr} {vs : List Value} {k : Value → List Int} (hd : 1 ≤ d) (h0 : 0 < vs.length) (hp : ∀ v ∈ vs, TS.TupInts s.heap v (k v) ∧ (k v).length = d) (ha : ∀ o, s.heap.get? a = some o → o.cls ≠ .type "tuple") : SortableO prog w A s a vs fun v u => HT.lexLt (k v) (k u) := by
  intro h' keep
  have hp' : ∀ v ∈ vs, TS.TupInts h' v (k v) ∧ (k v).length = d := fun v hm => ⟨(hp v hm).1.keeps fun b o e c => keep b o (fun z => by subst z; exact ha o e c) e, (hp v hm).2⟩
  obtain ⟨fs, h1, h2, h3⟩ := firsts_t hd fun v hm => ⟨_, hp' v hm⟩
  refine ⟨tuples' true, fun Q E hq => ?_, t_cmp (s := { s with heap := h' }) hp'⟩
  refine PySem.W.kat_kind (T := .type "int") h1 (by omega) (fun f hm => ?_) (by rfl) ?_
  · obtain ⟨n, t, rfl⟩ := h3 f hm
    exact .now
  · have e : (Value.type "int" != Value.type "tuple") = true := by first | decide +kernel | rfl | decide
    rw [e]
    exact hq
end
end SrtT
/-- sorted(xs), tuples of d ints, any number of them -/
def rSortedTn (K : PySem.W.Frag) (d : Nat) : List V → Hp → VK → Prop := fun vs H Q => ∃ (a : Addr) (xs : List V) (k : V → List Int), vs = [V.ref a] ∧ SqL K H a xs ∧ (∀ x ∈ xs, ∃ t, x = V.ref t ∧ SqT K H t ((k x).map V.int) ∧ (k x).length = d) ∧
  ∀ ys p, SrtO.Srtd (fun x y => HT.lexLt (k x) (k y)) ys → ys.Perm xs → H p = none → Q (.ref p) (upd H p (.lst ys))
theorem cr_sortedTn {X : Cx} {d : Nat} (hd : 1 ≤ d) : CallR X (.builtin "sorted") (rSortedTn X.K d) := by
  intro pins s σ H vs us Q I r h
  obtain ⟨a, xs, k, rfl, hs, hx, q⟩ := h
  obtain ⟨its, rv, hl, hz⟩ := I.list hs
  obtain ⟨u, rfl, ru⟩ := vals1 r
  obtain rfl : u = Value.ref a := ru
  obtain ⟨e1, e2⟩ := refs_back rv fun x m => by
    obtain ⟨t, e, _⟩ := hx x m
    exact ⟨t, e⟩
  have hp : ∀ v ∈ its, TS.TupInts s.heap v (k (backV v)) ∧ (k (backV v)).length = d := fun v hv => by
    obtain ⟨t, rfl⟩ := e2 v hv
    have hm : V.ref t ∈ xs := by rw [e1]; exact List.mem_map.mpr ⟨_, hv, rfl⟩
    obtain ⟨t', e, h1, h2⟩ := hx _ hm
    cases e
    exact ⟨tupI_raw I h1, h2⟩
  refine SrtO.sorted_ord (SrtT.swo_t fun u => k (backV u)) hl.isList (by rw [← rv.length]; exact hz) (fun h2 h₁ a' ha kk => ?_) fun out h1 h2 => ?_
  · refine SrtT.t_sortableO (d := d) (k := fun u => k (backV u)) (s := { s with heap := h₁ }) hd (by omega) (fun v hm => ⟨(hp v hm).1.keeps fun b o e _ => (kk b o e).2, (hp v hm).2⟩) fun o e => ?_
    have e' : some o = some (seqObj "list" its.toArray 0) := e.symm.trans ha
    cases e'
    intro c
    exact absurd (Value.type.inj c) (by decide)
  · have h3 : ∀ u ∈ out, ∃ a, u = Value.ref a := fun u hu => e2 u (h2.perm.mem_iff.mp hu)
    obtain ⟨n, hn⟩ := PyProof.Rows.sortedAll_at s.heap its out.toArray
    have hb : (out.map backV).Perm xs := by
      rw [e1]
      exact h2.perm.map backV
    refine ⟨.ref _, upd H (s.heap.objs.size + 1) (.lst (out.map backV)), I.laid (t' := s.toks) (fun _ _ => PyProof.Rows.sortedAll_old) (Nat.le_succ _) ⟨?_, out, n, vals_back h3, hn⟩, rfl, q _ _ (SrtO.srtd_map h1) hb (I.hok.fresh (Nat.le_succ _))⟩
    rw [hb.length_eq]
    exact hz

end Gk

set_option Elab.async false
set_option linter.all false
set_option maxRecDepth 100000
set_option maxHeartbeats 1000000
namespace Gk
open PySem PySem.Spec PyProof.Rows L2
/-! ### the text -/
def topS (i : Nat) : Stmt := PySem.Challenge.pw_glitchnet_k42_what_is_a_wish.main.body.getD i (.Pass ⟨0, 0, 0, 0⟩)
abbrev s_is_whole : Stmt := topS 1
abbrev s_is_worth : Stmt := topS 2
abbrev s_is_signs : Stmt := topS 3
abbrev s_is_row : Stmt := topS 5
abbrev s_is_change : Stmt := topS 6
abbrev s_is_wish : Stmt := topS 9
abbrev s_deck : Stmt := topS 11
abbrev s_next : Stmt := topS 12
abbrev s_rows : Stmt := topS 13
abbrev s_holds : Stmt := topS 14
abbrev s_product : Stmt := topS 15
abbrev s_table : Stmt := topS 16
abbrev s_change : Stmt := topS 17
abbrev s_wish : Stmt := topS 18
abbrev s_l_is_whole : Stmt := topS 19
abbrev s_l_is_row : Stmt := topS 20
abbrev s_l_is_wish : Stmt := topS 21
abbrev s_step_off : Stmt := topS 22
abbrev s_spoilt : Stmt := topS 23
abbrev s_odd : Stmt := topS 24
abbrev s_law : Stmt := topS 25
theorem sc_is_whole : FnScope ["thing"] ["thing"] (defScope s_is_whole) := ⟨rfl, rfl, rfl, by decide +kernel, rfl, by decide +kernel, by decide +kernel⟩
theorem sc_is_worth : FnScope ["thing"] ["thing"] (defScope s_is_worth) := ⟨rfl, rfl, rfl, by decide +kernel, rfl, by decide +kernel, by decide +kernel⟩
theorem sc_is_signs : FnScope ["many", "thing", "sign"] ["many", "thing"] (defScope s_is_signs) := ⟨rfl, rfl, rfl, by decide +kernel, rfl, by decide +kernel, by decide +kernel⟩
theorem sc_is_row : FnScope ["many", "thing", "worth"] ["many", "thing"] (defScope s_is_row) := ⟨rfl, rfl, rfl, by decide +kernel, rfl, by decide +kernel, by decide +kernel⟩
theorem sc_is_change : FnScope ["many", "thing", "row"] ["many", "thing"] (defScope s_is_change) := ⟨rfl, rfl, rfl, by decide +kernel, rfl, by decide +kernel, by decide +kernel⟩
theorem sc_is_wish : FnScope ["thing", "many", "table", "changes", "change"] ["thing"] (defScope s_is_wish) := ⟨rfl, rfl, rfl, by decide +kernel, rfl, by decide +kernel, by decide +kernel⟩
theorem sc_deck : FnScope ["_law_script"] ["_law_script"] (defScope s_deck) := ⟨rfl, rfl, rfl, by decide +kernel, rfl, by decide +kernel, by decide +kernel⟩
theorem sc_next : FnScope ["_law_deck_here", "_law_most", "_law_cells", "_law_number", "_law_seed"] ["_law_deck_here", "_law_most"] (defScope s_next) := ⟨rfl, rfl, rfl, by decide +kernel, rfl, by decide +kernel, by decide +kernel⟩
theorem sc_rows : FnScope ["_law_many", "_law_found", "_law_place", "_law_row"] ["_law_many"] (defScope s_rows) := ⟨rfl, rfl, rfl, by decide +kernel, rfl, by decide +kernel, by decide +kernel⟩
theorem sc_holds : FnScope ["_law_product_here", "_law_row", "_law_k"] ["_law_product_here", "_law_row"] (defScope s_holds) := ⟨rfl, rfl, rfl, by decide +kernel, rfl, by decide +kernel, by decide +kernel⟩
theorem sc_product : FnScope ["_law_deck_here", "_law_many", "_law_bare", "_law_found", "_law_place", "_law_sign"] ["_law_deck_here", "_law_many"] (defScope s_product) := ⟨rfl, rfl, rfl, by decide +kernel, rfl, by decide +kernel, by decide +kernel⟩
theorem sc_table : FnScope ["_law_deck_here", "_law_many", "_law_way", "_law_products", "_law_rows_here", "_law_odd_here", "_law_table_here", "_law_k", "_law_row", "_law_worth", "_law_one"] ["_law_deck_here", "_law_many"] (defScope s_table) := ⟨rfl, rfl, rfl, by decide +kernel, rfl, by decide +kernel, by decide +kernel⟩
theorem sc_change : FnScope ["_law_deck_here", "_law_many", "_law_table_here", "_law_way", "_law_rows_here", "_law_one", "_law_other", "_law_place", "_law_ones", "_law_noughts", "_law_bright", "_law_dark", "_law_beside", "_law_k", "_law_row"] ["_law_deck_here", "_law_many", "_law_table_here"] (defScope s_change) := ⟨rfl, rfl, rfl, by decide +kernel, rfl, by decide +kernel, by decide +kernel⟩
theorem sc_wish : FnScope ["_law_deck_here", "_law_most", "_law_many", "_law_way", "_law_count", "_law_table_here", "_law_k"] ["_law_deck_here", "_law_most"] (defScope s_wish) := ⟨rfl, rfl, rfl, by decide +kernel, rfl, by decide +kernel, by decide +kernel⟩
theorem sc_l_is_whole : FnScope ["_law_thing"] ["_law_thing"] (defScope s_l_is_whole) := ⟨rfl, rfl, rfl, by decide +kernel, rfl, by decide +kernel, by decide +kernel⟩
theorem sc_l_is_row : FnScope ["_law_many", "_law_thing", "_law_worth"] ["_law_many", "_law_thing"] (defScope s_l_is_row) := ⟨rfl, rfl, rfl, by decide +kernel, rfl, by decide +kernel, by decide +kernel⟩
theorem sc_l_is_wish : FnScope ["_law_thing", "_law_many", "_law_table_here", "_law_changes", "_law_change_here"] ["_law_thing"] (defScope s_l_is_wish) := ⟨rfl, rfl, rfl, by decide +kernel, rfl, by decide +kernel, by decide +kernel⟩
theorem sc_step_off : FnScope ["_law_deck_here", "_law_thing", "_law_way", "_law_at", "_law_sign", "_law_some"] ["_law_deck_here", "_law_thing"] (defScope s_step_off) := ⟨rfl, rfl, rfl, by decide +kernel, rfl, by decide +kernel, by decide +kernel⟩
theorem sc_spoilt : FnScope ["_law_deck_here", "_law_thing", "_law_at"] ["_law_deck_here", "_law_thing"] (defScope s_spoilt) := ⟨rfl, rfl, rfl, by decide +kernel, rfl, by decide +kernel, by decide +kernel⟩
theorem sc_odd : FnScope ["_law_deck_here", "_law_wish_here", "_law_many", "_law_table_here", "_law_changes", "_law_some"] ["_law_deck_here", "_law_wish_here"] (defScope s_odd) := ⟨rfl, rfl, rfl, by decide +kernel, rfl, by decide +kernel, by decide +kernel⟩
theorem sc_law : FnScope ["_law_script", "_law_deck_here", "_law_turn", "_law_wish_here", "_law_k", "_law_way", "_law_thing", "_law_kept", "_law_again", "_law_found"] ["_law_script"] (defScope s_law) := ⟨rfl, rfl, rfl, by decide +kernel, rfl, by decide +kernel, by decide +kernel⟩
structure Tx (K : PySem.W.Frag) (mg : Str → Option Value) where
  f_is_whole : Addr
  fd_is_whole : FuncData
  F_is_whole : Fun K "is_whole" "is_whole" s_is_whole f_is_whole fd_is_whole
  g_is_whole : mg "is_whole" = some (.ref f_is_whole)
  b_is_whole : Binds K fd_is_whole ["thing"] []
  f_is_worth : Addr
  fd_is_worth : FuncData
  F_is_worth : Fun K "is_worth" "is_worth" s_is_worth f_is_worth fd_is_worth
  g_is_worth : mg "is_worth" = some (.ref f_is_worth)
  b_is_worth : Binds K fd_is_worth ["thing"] []
  f_is_signs : Addr
  fd_is_signs : FuncData
  F_is_signs : Fun K "is_signs" "is_signs" s_is_signs f_is_signs fd_is_signs
  g_is_signs : mg "is_signs" = some (.ref f_is_signs)
  b_is_signs : Binds K fd_is_signs ["many", "thing"] []
  c_is_signs : Addr
  P_is_signs : Addr
  cd_is_signs : fd_is_signs.code = .ref c_is_signs
  f_is_row : Addr
  fd_is_row : FuncData
  F_is_row : Fun K "is_row" "is_row" s_is_row f_is_row fd_is_row
  g_is_row : mg "is_row" = some (.ref f_is_row)
  b_is_row : Binds K fd_is_row ["many", "thing"] []
  c_is_row : Addr
  P_is_row : Addr
  cd_is_row : fd_is_row.code = .ref c_is_row
  f_is_change : Addr
  fd_is_change : FuncData
  F_is_change : Fun K "is_change" "is_change" s_is_change f_is_change fd_is_change
  g_is_change : mg "is_change" = some (.ref f_is_change)
  b_is_change : Binds K fd_is_change ["many", "thing"] []
  c_is_change : Addr
  P_is_change : Addr
  cd_is_change : fd_is_change.code = .ref c_is_change
  f_is_wish : Addr
  fd_is_wish : FuncData
  F_is_wish : Fun K "is_wish" "is_wish" s_is_wish f_is_wish fd_is_wish
  g_is_wish : mg "is_wish" = some (.ref f_is_wish)
  b_is_wish : Binds K fd_is_wish ["thing"] []
  c_is_wish : Addr
  P_is_wish : Addr
  cd_is_wish : fd_is_wish.code = .ref c_is_wish
  f_deck : Addr
  fd_deck : FuncData
  F_deck : Fun K "_law_deck" "_law_deck" s_deck f_deck fd_deck
  g_deck : mg "_law_deck" = some (.ref f_deck)
  b_deck : Binds K fd_deck ["_law_script"] []
  f_next : Addr
  fd_next : FuncData
  F_next : Fun K "_law_next" "_law_next" s_next f_next fd_next
  g_next : mg "_law_next" = some (.ref f_next)
  b_next : Binds K fd_next ["_law_deck_here", "_law_most"] []
  f_rows : Addr
  fd_rows : FuncData
  F_rows : Fun K "_law_rows" "_law_rows" s_rows f_rows fd_rows
  g_rows : mg "_law_rows" = some (.ref f_rows)
  b_rows : Binds K fd_rows ["_law_many"] []
  f_holds : Addr
  fd_holds : FuncData
  F_holds : Fun K "_law_holds" "_law_holds" s_holds f_holds fd_holds
  g_holds : mg "_law_holds" = some (.ref f_holds)
  b_holds : Binds K fd_holds ["_law_product_here", "_law_row"] []
  f_product : Addr
  fd_product : FuncData
  F_product : Fun K "_law_product" "_law_product" s_product f_product fd_product
  g_product : mg "_law_product" = some (.ref f_product)
  b_product : Binds K fd_product ["_law_deck_here", "_law_many"] []
  f_table : Addr
  fd_table : FuncData
  F_table : Fun K "_law_table" "_law_table" s_table f_table fd_table
  g_table : mg "_law_table" = some (.ref f_table)
  b_table : Binds K fd_table ["_law_deck_here", "_law_many"] []
  f_change : Addr
  fd_change : FuncData
  F_change : Fun K "_law_change" "_law_change" s_change f_change fd_change
  g_change : mg "_law_change" = some (.ref f_change)
  b_change : Binds K fd_change ["_law_deck_here", "_law_many", "_law_table_here"] []
  f_wish : Addr
  fd_wish : FuncData
  F_wish : Fun K "_law_wish" "_law_wish" s_wish f_wish fd_wish
  g_wish : mg "_law_wish" = some (.ref f_wish)
  b_wish : Binds K fd_wish ["_law_deck_here", "_law_most"] []
  f_l_is_whole : Addr
  fd_l_is_whole : FuncData
  F_l_is_whole : Fun K "_law_is_whole" "_law_is_whole" s_l_is_whole f_l_is_whole fd_l_is_whole
  g_l_is_whole : mg "_law_is_whole" = some (.ref f_l_is_whole)
  b_l_is_whole : Binds K fd_l_is_whole ["_law_thing"] []
  f_l_is_row : Addr
  fd_l_is_row : FuncData
  F_l_is_row : Fun K "_law_is_row" "_law_is_row" s_l_is_row f_l_is_row fd_l_is_row
  g_l_is_row : mg "_law_is_row" = some (.ref f_l_is_row)
  b_l_is_row : Binds K fd_l_is_row ["_law_many", "_law_thing"] []
  f_l_is_wish : Addr
  fd_l_is_wish : FuncData
  F_l_is_wish : Fun K "_law_is_wish" "_law_is_wish" s_l_is_wish f_l_is_wish fd_l_is_wish
  g_l_is_wish : mg "_law_is_wish" = some (.ref f_l_is_wish)
  b_l_is_wish : Binds K fd_l_is_wish ["_law_thing"] []
  f_step_off : Addr
  fd_step_off : FuncData
  F_step_off : Fun K "_law_step_off" "_law_step_off" s_step_off f_step_off fd_step_off
  g_step_off : mg "_law_step_off" = some (.ref f_step_off)
  b_step_off : Binds K fd_step_off ["_law_deck_here", "_law_thing"] []
  f_spoilt : Addr
  fd_spoilt : FuncData
  F_spoilt : Fun K "_law_spoilt" "_law_spoilt" s_spoilt f_spoilt fd_spoilt
  g_spoilt : mg "_law_spoilt" = some (.ref f_spoilt)
  b_spoilt : Binds K fd_spoilt ["_law_deck_here", "_law_thing"] []
  f_odd : Addr
  fd_odd : FuncData
  F_odd : Fun K "_law_odd" "_law_odd" s_odd f_odd fd_odd
  g_odd : mg "_law_odd" = some (.ref f_odd)
  b_odd : Binds K fd_odd ["_law_deck_here", "_law_wish_here"] []
  f_law : Addr
  fd_law : FuncData
  F_law : Fun K "law" "law" s_law f_law fd_law
  g_law : mg "law" = some (.ref f_law)
  b_law : Binds K fd_law ["_law_script"] []
  m_all : mg "all" = none
  m_bool : mg "bool" = none
  m_dict : mg "dict" = none
  m_enumerate : mg "enumerate" = none
  m_int : mg "int" = none
  m_isinstance : mg "isinstance" = none
  m_len : mg "len" = none
  m_list : mg "list" = none
  m_range : mg "range" = none
  m_repr : mg "repr" = none
  m_sorted : mg "sorted" = none
  m_str : mg "str" = none
  m_sum : mg "sum" = none
  m_tuple : mg "tuple" = none
  k_MOST_WISHED : ∃ t, mg "MOST_WISHED" = some (.int 4 t)
structure Tb (base : Heap) {K : PySem.W.Frag} {mg : Str → Option Value} (T : Tx K mg) : Prop where
  TB_is_signs : GxR.TabB base mg T.c_is_signs T.P_is_signs
  TB_is_row : GxR.TabB base mg T.c_is_row T.P_is_row
  TB_is_change : GxR.TabB base mg T.c_is_change T.P_is_change
  TB_is_wish : GxR.TabB base mg T.c_is_wish T.P_is_wish
def Tx.tabs {K : PySem.W.Frag} {mg : Str → Option Value} (T : Tx K mg) : List Addr := [T.P_is_signs, T.P_is_row, T.P_is_change, T.P_is_wish]
/-! ### generator expressions whose elements may call -/
theorem inv_moved {X : Cx} {cp : List (Addr × Obj)} {σ : L2.St} {H : Hp} {s s' : Shared} (I : Inv X cp σ H s) (os : s'.os = s.os) (bare : AllBare s'.gens) (k : ∀ b o, s.heap.get? b = some o → s'.heap.get? b = some o) : Inv X cp σ H s' :=
  I.call' (ch := []) os (Un.kept k) (I.hok.kept k) bare fun b hb => absurd hb (by simp)
/-- the context of a generator expression's frame: C its frame, s, H the entry, fp its iterator's objects -/
abbrev gblk (X : Cx) (A : Around) (s : Shared) (H : Hp) (cenv : Env) (fp : List Addr) : Cx :=
  { X with A := A, s_0 := s, H_0 := H, env := cenv, outer := X.stack, stack := cenv :: X.stack, ex := fp, fn := fun _ => false, pn := [], xe := fun _ _ => False }
section
variable {X : Cx} {pins : List (Addr × Obj)} {σ : L2.St} {H : Hp} {s : Shared}
theorem gen_start {scope : Scope} {own : List (Str × Nat)} {fp : List Addr} {A : Around} {code it : Value} {s5 : Shared} {cp : List (Addr × Obj)}
    (I : Inv X pins σ H s) (ok : BlkOk X.N X.env.scope scope own) (nocell : ∀ y ∈ scope.names, y.2 ≠ .cell) (hN : X.N.Nodup) (hfp : ∀ b ∈ fp, FpOk X pins H b ∧ b < s.heap.objs.size)
    (hh : A.handled = none) (hfr : A.frames = some (genEnv scope (cloFrom X.env.cells scope.names []) s.heap.objs.size code builtinsNs X.env :: X.stack))
    (os : s5.os = s.os) (bare : AllBare s5.gens) (kp : ∀ b o, s.heap.get? b = some o → s5.heap.get? b = some o)
    (hns : s5.heap.Ns s.heap.objs.size fun y => if y = ".0" then some it else none)
    (hcp : ∀ p ∈ cp, s.heap.objs.size < p.1 ∧ s5.heap.get? p.1 = some p.2 ∧ ∀ v, p.2.data ≠ .cell v) :
    Inv (gblk X A s H (genEnv scope (cloFrom X.env.cells scope.names []) s.heap.objs.size code builtinsNs X.env) fp) cp (wipe σ (own.map (·.2))) H s5 := by
  have hfree : ∀ y ∈ scope.names, y.2 = .free → ∃ c, X.env.cells.lookup y.1 = some c := fun y hy e => by
    rcases ok.free y hy e with k | k
    · exact I.ok.has _ (.inl k)
    · exact I.ok.has _ (.inr k)
  generalize hcenv : genEnv scope (cloFrom X.env.cells scope.names []) s.heap.objs.size code builtinsNs X.env = cenv at hfr ⊢
  have hL : cenv.locals = s.heap.objs.size := by rw [← hcenv]; rfl
  have hcl : cenv.cells = cloFrom X.env.cells scope.names [] := by rw [← hcenv]; rfl
  have hsc : cenv.scope = scope := by rw [← hcenv]; rfl
  have cm : ∀ {y c}, (y, c) ∈ cloFrom X.env.cells scope.names [] → X.env.cells.lookup y = some c ∧ c < s.heap.objs.size := fun {y c} hm => by
    rcases cloFrom_mem hm with hm | ⟨h1, rfl⟩
    · cases hm
    · obtain ⟨c, hc⟩ := hfree _ h1 rfl
      rw [hc]
      obtain ⟨w, z⟩ := I.cell _ _ hc
      exact ⟨rfl, z.lt⟩
  have mem : ∀ {y c}, cenv.cells.lookup y = some c → X.env.cells.lookup y = some c ∧ c < s.heap.objs.size := fun {y c} e => by
    rw [hcl] at e
    exact cm (PySem.mem_of_lookup e)
  have look : ∀ {y}, scope.names.lookup y = some .free → ∃ c, cenv.cells.lookup y = some c ∧ X.env.cells.lookup y = some c := fun {y} hl => by
    have hy : (y, NameKind.free) ∈ scope.names := PySem.mem_of_lookup hl
    obtain ⟨c', e'⟩ := mem_lookup (cloFrom_has (cells := X.env.cells) (acc := []) hy)
    rw [← hcl] at e'
    exact ⟨c', e', (mem e').1⟩
  have okB : (gblk X A s H cenv fp).Ok := by
    refine ⟨I.ok.mod, by show cenv.scope.kind = _; rw [hsc]; exact ok.kind, by show cenv.globals = _; rw [← hcenv]; exact I.ok.glob, by show cenv.builtins = _; rw [← hcenv]; rfl, by show s.heap.objs.size ≤ cenv.locals; rw [hL]; exact Nat.le_refl _,
      fun y z c e1 e2 => I.ok.inj y z c (mem e1).1 (mem e2).1, fun y hy => ?_, fun y c z e => (by cases z), fun _ => hh, hfr, .inr ⟨rfl, by show cenv.frame = some cenv.locals; rw [← hcenv]; rfl⟩, fun b hb => ⟨?_, fun y c e z => ?_⟩, I.bs, Nat.le_trans I.ok.bsz I.sz, fun b o e hb => ?_, fun b hb z => ?_, I.stack, I.stkFree⟩
    · have hy' : scope.names.lookup y = some .cell ∨ scope.names.lookup y = some .free := by
        rw [← hsc]
        exact hy
      rcases hy' with e | e
      · exact absurd rfl (nocell _ (PySem.mem_of_lookup e))
      · obtain ⟨c, h1, _⟩ := look e
        exact ⟨c, h1⟩
    · show b ≠ cenv.locals
      rw [hL]; exact Nat.ne_of_lt (hfp b hb).2
    · exact (hfp b hb).1.2.2.2.2.1 y c (mem e).1 z
    · rcases (hfp b hb).1.2.2.2.1 with z | z
      · exact I.ok.noex b o e z
      · exact absurd (Nat.lt_of_lt_of_le (Heap.lt_size e) (Nat.le_trans I.ok.bsz z)) (Nat.lt_irrefl _)
    · rcases List.mem_cons.mp (I.stkSub b z) with z | z
      · exact (hfp b hb).1.2.1 z
      · exact (hfp b hb).1.2.2.1 z
  refine ⟨okB, os, bare, Un.kept kp, ⟨_, (by show s5.heap.Ns cenv.locals _; rw [hL]; exact hns), fun i y av e1 e2 e3 => ?_⟩, fun y c e => ?_, ?_, fun y c e => I.freeC y c (mem e).1, fun p hp => ?_, I.hok.kept kp, by rw [wipe_length]; exact I.len⟩
  · obtain ⟨e2, hne⟩ := wipe_some e2
    have e3 : Vis scope y := by rw [← hsc]; exact e3
    have no : ∀ k, scope.names.lookup y = some k → ¬ (k = .local ∨ k = .cell) := fun k e hh => by
      rcases ok.own _ (PySem.mem_of_lookup e) hh with e' | e'
      · obtain ⟨p, hp, hpy⟩ := List.mem_map.mp e'
        have e3 := ok.ix p hp
        have : p.1 = y := hpy
        rw [this] at e3
        exact hne (List.mem_map.mpr ⟨p, hp, nodup_ix hN e3 e1⟩)
      · exact e' (List.mem_of_getElem? e1)
    have hfr2 : scope.names.lookup y = some .free := by
      rcases e3 with e | e | e
      · exact absurd (.inl rfl) (no _ e)
      · exact absurd (.inr rfl) (no _ e)
      · exact e
    obtain ⟨m, hn, hl⟩ := I.loc
    have hvis : Vis X.env.scope y := (ok.free _ (PySem.mem_of_lookup hfr2) rfl).elim (fun k => .inr (.inl k)) (fun k => .inr (.inr k))
    obtain ⟨w, r, q⟩ := hl i y av e1 e2 hvis
    refine ⟨w, r, .inr ⟨.inr (by show cenv.scope.names.lookup y = some .free; rw [hsc]; exact hfr2), ?_⟩⟩
    obtain ⟨c, h1, h2⟩ := look hfr2
    rcases q with ⟨k, _⟩ | ⟨_, c', e', z⟩
    · have k : X.env.scope.names.lookup y = some .local := k
      rcases ok.free _ (PySem.mem_of_lookup hfr2) rfl with k' | k' <;> rw [show X.env.scope.names.lookup y = _ from k'] at k <;> cases k
    · rw [h2] at e'; cases e'
      exact ⟨c, h1, z.keeps kp⟩
  · obtain ⟨w, z⟩ := I.cell y c (mem e).1
    exact ⟨w, z.keeps kp⟩
  · show H cenv.locals = none
    rw [hL]; exact I.hok.fresh (Nat.le_refl _)
  · have hp : p ∈ cp := by simpa using hp
    obtain ⟨h1, h2, h3⟩ := hcp p hp
    refine ⟨h2, I.hok.fresh (Nat.le_of_lt h1), by show p.1 ≠ cenv.locals; rw [hL]; exact Nat.ne_of_gt h1, fun z => ?_, h3⟩
    rcases List.mem_cons.mp (I.stkSub _ z) with z | z
    · exact absurd (Nat.lt_trans I.lt h1) (by rw [z]; exact Nat.lt_irrefl _)
    · exact I.nofs (Nat.le_of_lt h1) z
end
/-! ### the talk of a generator and who asks it -/
section
variable {α : Type}
/-- handed out: x; the asker's state a (laid down in the pins cp) goes to one with Nx -/
def YG (Xg : Cx) (fp : List Addr) (tn : Nat → Heap → Prop) (AC : α → List (Addr × Obj) → Prop) (Yd : α → V → Hp → (α → Hp → Prop) → Prop) : Protocol := fun _ s0 v s kap =>
  ∃ (a : α) (x : V) (σ : L2.St) (H : Hp) (i : Nat) (cp : List (Addr × Obj)) (Nx : α → Hp → Prop), RelV x v ∧ AC a cp ∧ (∀ p ∈ cp, s0.heap.get? p.1 = some p.2) ∧ Inv Xg cp σ H s ∧ tn i s.heap ∧ (∀ b ∈ fp, H b = none) ∧ Yd a x H Nx ∧
    ∀ a' cp' s', Nx a' H → AC a' cp' → Inv Xg cp' σ H s' → tn i s'.heap → kap (.send .none) s'
def RG (Xg : Cx) (AC : α → List (Addr × Obj) → Prop) (End : α → Hp → Prop) : GenEnd := fun _ s0 r s =>
  ((r = .ok (.ret .none) ∨ r = .ok .next) ∧ ∃ (a : α) (σ : L2.St) (H : Hp) (cp : List (Addr × Obj)), AC a cp ∧ (∀ p ∈ cp, s0.heap.get? p.1 = some p.2) ∧ Inv Xg cp σ H s ∧ End a H) ∨ ∃ e, r = .error e ∧ False
/-- a generator's turns -/
def tGx (J : It) (g : TG) (tt : TT) (te : TE) (σ0 : L2.St) (vs : List Nat) (End : α → Hp → Prop) (Yd : α → V → Hp → (α → Hp → Prop) → Prop) (W : Nat → Nat → α → Hp → Prop) : Prop :=
  ∀ i m a H, W i m a H → (J.stop i H ∧ End a H) ∨ (J.go i H ∧ ∃ Nx : α → Hp → Prop, (∀ a' H', Nx a' H' → ∃ m', m' < m ∧ W (i + 1) m' a' H') ∧
    ∀ x H', J.yld i H x H' → g x σ0 H' fun σ2 H2 => wipe σ2 vs = σ0 ∧ tt σ2 H2 fun b H3 => if b = true then te σ2 H3 fun y H4 => Yd a y H4 Nx else Nx a H3)
theorem wipe_wipe_some {σ σ2 : L2.St} {vs : List Nat} (h : wipe σ2 vs = σ) : ∀ (j : Nat) v, σ[j]? = some (some v) → σ2[j]? = some (some v) := fun j v e => by
  rw [← h] at e
  exact (wipe_some e).1
theorem seg_gx {X : Cx} {A A' : Around} {s_0 : Shared} {H_0 : Hp} {elt tg iter : Expr} {ifs : List Expr} {scope : Scope} {pos : Pos} {it : Addr} {fp : List Addr} {tn : Nat → Heap → Prop} {J : It} {cenv : Env} {g : TG} {tt : TT} {te : TE} {σ0 : L2.St} {vs : List Nat}
    {AC : α → List (Addr × Obj) → Prop} {End : α → Hp → Prop} {Yd : α → V → Hp → (α → Hp → Prop) → Prop} {W : Nat → Nat → α → Hp → Prop}
    (hA : A.over (.compLoop (.GeneratorExp elt [⟨tg, iter, ifs, 0⟩] scope pos) 0 (.ref it) .none cenv) [] = A') (hc : X.calm = true) (hco : cenv.scope.isCoroutine = false)
    (T : Turn X.prog X.w X.K tg J fp it tn) (pg : PG (gblk X A' s_0 H_0 cenv fp) tg g) (pt : PTs (gblk X A' s_0 H_0 cenv fp) ifs tt) (pe : PE (gblk X A' s_0 H_0 cenv fp) elt te)
    (hAC : ∀ a cp, AC a cp → ∀ p ∈ cp, ∀ b ∈ fp, p.1 ≠ b) (turn : tGx J g tt te σ0 vs End Yd W) :
    ∀ (m n i : Nat) (a : α) (H : Hp) (s₀ s : Shared) (cp : List (Addr × Obj)), m < n → W i m a H → AC a cp → (∀ p ∈ cp, s₀.heap.get? p.1 = some p.2) → Inv (gblk X A' s_0 H_0 cenv fp) cp σ0 H s → tn i s.heap → (∀ b ∈ fp, H b = none) →
      Seg (model X.prog X.w) A (RG (gblk X A' s_0 H_0 cenv fp) AC End) (YG (gblk X A' s_0 H_0 cenv fp) fp tn AC Yd) n s₀
        (.compLoop (.GeneratorExp elt [⟨tg, iter, ifs, 0⟩] scope pos) 0 (.ref it) .none cenv)
        ((model X.prog X.w).den (.compLoop (.GeneratorExp elt [⟨tg, iter, ifs, 0⟩] scope pos) 0 (.ref it) .none cenv)) [] s := by
  have stat : ∀ {a : α} {cp : List (Addr × Obj)} {σ' : L2.St} {H' : Hp} {s' : Shared}, AC a cp → Inv (gblk X A' s_0 H_0 cenv fp) cp σ' H' s' → (∀ b ∈ fp, H' b = none) → ∀ b ∈ fp, FpOk (gblk X A' s_0 H_0 cenv fp) cp H' b := fun {a cp σ' H' s'} hac I' hn b hb =>
    ⟨hn b hb, (I'.ok.exf b hb).1, I'.ok.exfs b hb, .inl hb, fun x c e => (I'.ok.exf b hb).2 x c e, fun p hp => hAC a cp hac p (by simpa using hp) b hb⟩
  intro m
  induction m using Nat.strongRecOn with
  | ind m ih =>
    intro n i a H s₀ s cp hmn w hac tie I st nf
    show Seg _ A _ _ _ s₀ _ ((compTurn (.GeneratorExp elt [⟨tg, iter, ifs, 0⟩] scope pos) 0 (.ref it) .none cenv).onRaise (leaving cenv)) [] s
    rw [compTurn_gen, Sem.onRaise_eq_wrap]
    refine seg_bind_wrap (wpAny_standAt ?_)
    rcases turn i m a H w with ⟨stop, hend⟩ | ⟨go, Nx, hNx, step⟩
    · refine seg_bind_wrap ?_
      rw [hA]
      refine thnF (T.done (gblk X A' s_0 H_0 cenv fp) rfl rfl rfl hc i cp s σ0 H (fun _ _ => False) I (stat hac I nf) st stop) fun r s1 ⟨hr, I1⟩ => ?_
      subst hr
      exact seg_end (.ok .next) (.inl ⟨.inr rfl, a, _, H, cp, hac, tie, I1, hend⟩)
    · refine seg_bind_wrap ?_
      rw [hA]
      refine thnF (T.item (gblk X A' s_0 H_0 cenv fp) rfl rfl rfl hc i cp s σ0 H (fun _ _ => False) I (stat hac I nf) st go) fun r s1 ⟨u, hr, h1⟩ => ?_
      subst hr
      refine seg_bind_wrap ?_
      rw [hA]
      refine thnF h1 fun _ s2 ⟨x, H2, I2, r2, y2, st2, n2⟩ => ?_
      have I2' := I2.pinned (stat hac I2 n2) (T.obj _ _ st2)
      refine seg_bind_wrap ?_
      rw [hA]
      refine thnF (pg.run _ s2 _ H2 x u _ I2' r2 (step x H2 y2)) fun _ s3 ⟨σ3, H3, I3, hw3, q3⟩ => ?_
      refine seg_bind_wrap ?_
      rw [hA]
      refine thnF (pt.run _ s3 σ3 H3 _ I3 q3) fun b s4 ⟨H4, I4, q4⟩ => ?_
      have hl : σ0.length = σ3.length := by rw [← hw3, wipe_length]
      have fin : ∀ {s' : Shared} {H' : Hp}, Inv (gblk X A' s_0 H_0 cenv fp) (cp ++ pinsAt fp s2.heap) σ3 H' s' → Inv (gblk X A' s_0 H_0 cenv fp) cp σ0 H' s' ∧ tn (i + 1) s'.heap ∧ ∀ b ∈ fp, H' b = none := fun {s' H'} I' => by
        have pin' : ∀ b ∈ fp, ∀ o, s2.heap.get? b = some o → s'.heap.get? b = some o ∧ H' b = none := fun b hb o e =>
          let z := I'.pin (b, o) (List.mem_append_right _ (List.mem_append_right _ (mem_pinsAt hb e)))
          ⟨z.1, z.2.1⟩
        refine ⟨(I'.unpinned (pins := cp)).weak hl (wipe_wipe_some hw3), T.keep _ _ _ st2 fun b hb o e => (pin' b hb o e).1, fun b hb => ?_⟩
        obtain ⟨o, e, _⟩ := T.obj _ _ st2 b hb
        exact (pin' b hb o e).2
      cases b with
      | false =>
        simp only [Bool.false_eq_true, if_false] at q4 ⊢
        obtain ⟨m', hm, w'⟩ := hNx a H4 q4
        obtain ⟨J1, J2, J3⟩ := fin I4
        exact seg_again rfl (ih m' hm n (i + 1) a H4 s₀ s4 cp (by omega) w' hac tie J1 J2 J3)
      | true =>
        simp only [if_true] at q4 ⊢
        have hy : ∀ v, yieldOut cenv v = yieldValue v := fun v => by simp only [yieldOut, hco, Bool.false_eq_true, if_false]
        simp only [hy]
        rw [Sem.bind_eq_wrap', Sem.bind_eq_wrap', Sem.wrap_wrap, Sem.wrap_wrap]
        refine seg_wrap ?_
        rw [hA]
        refine thnF (pe.run _ s4 σ3 H4 _ I4 q4) fun yv s5 ⟨y, H5, I5, r5, q5⟩ => ?_
        obtain ⟨J1, J2, J3⟩ := fin I5
        -- at least one more
        cases n with
        | zero => exact absurd hmn (Nat.not_lt_zero _)
        | succ n =>
          refine seg_at (seg_yield rfl rfl rfl ⟨a, y, σ0, H5, i + 1, cp, Nx, r5, hac, tie, J1, J2, J3, q5, fun a' cp' s' nx hac' I' st' => ?_⟩)
          obtain ⟨m', hm, w'⟩ := hNx a' H5 nx
          exact seg_again rfl (ih m' hm n (i + 1) a' H5 s' s' cp' (by omega) w' hac' (fun p hp => (I'.pin p (List.mem_append_right _ hp)).1) I' st' J3)
end
/-! ### a generator that is made -/
section
variable {X : Cx} {pins : List (Addr × Obj)} {σ : L2.St} {H : Hp} {s : Shared}
def GenObj (o : Obj) (g : Nat) : Prop := ∃ nm qn, o.cls = .type "generator" ∧ o.data = .fields #[.int g 0, nm, qn] ∧ o.slots = #[]
theorem GenObj.isGen {o : Obj} {g : Nat} (h : GenObj o g) {a : Addr} {hp : Heap} (e : hp.get? a = some o) : hp.IsGen a g := by
  obtain ⟨nm, qn, h1, h2, h3⟩ := h
  exact ⟨o, nm, qn, e, h1, h2, h3⟩
/-- the generator u, made and not begun, in the state s5 -/
def Gx (X : Cx) (pins : List (Addr × Obj)) (σ : L2.St) (A : Around) (J : It) (g : TG) (tt : TT) (te : TE) (vs : List Nat) (H4 : Hp) (u : Value) (s5 : Shared) : Prop :=
  ∃ (A' : Around) (s_0 : Shared) (H_0 : Hp) (cenv : Env) (fp : List Addr) (ga : Addr) (gn : Nat) (go : Obj) (tn : Nat → Heap → Prop) (gs : GenState),
    u = .ref ga ∧ GenObj go gn ∧ s5.gens[gn]? = some gs ∧ gs.bare = true ∧ Inv (gblk X A' s_0 H_0 cenv fp) [(ga, go)] (wipe σ vs) H4 s5 ∧ tn 0 s5.heap ∧ (∀ b ∈ fp, H4 b = none) ∧ (∀ b ∈ fp, b < ga) ∧
    (∀ i h h', tn i h → (∀ b ∈ fp, ∀ o, h.get? b = some o → h'.get? b = some o) → tn i h') ∧ (∀ cp σ' H' s', Inv (gblk X A' s_0 H_0 cenv fp) cp σ' H' s' → Inv X pins σ H' s') ∧
    ∀ (α : Type) (AC : α → List (Addr × Obj) → Prop) (End : α → Hp → Prop) (Yd : α → V → Hp → (α → Hp → Prop) → Prop) (W : Nat → Nat → α → Hp → Prop) (m n : Nat) (a : α) (cp : List (Addr × Obj)) (s' : Shared),
      tGx J g tt te (wipe σ vs) vs End Yd W → W 0 m a H4 → m < n → (∀ a cp, AC a cp → ∀ p ∈ cp, ∀ b ∈ fp, p.1 ≠ b) → AC a cp → Inv (gblk X A' s_0 H_0 cenv fp) cp (wipe σ vs) H4 s' → tn 0 s'.heap →
      gs.Goes (model X.prog X.w) A (RG (gblk X A' s_0 H_0 cenv fp) AC End) (YG (gblk X A' s_0 H_0 cenv fp) fp tn AC Yd) n (.send .none) s'
/-- what stands about an asker -/
structure Near (A B : Around) : Prop where
  hd : B.handled = A.handled
  fr : B.frames = A.frames
  gd : B.guards = A.guards
  dp : B.depth = A.depth
  un : B.units ≤ A.units + 8
theorem gx_make {c P : Addr} {elt tg iter : Expr} {ifs : List Expr} {gpos : Pos} {scope : Scope} {own : List (Str × Nat)} {wi : TI} {g : TG} {tt : TT} {te : TE} {k : Nat} {Q' : Value → Shared → Prop} {R : It → Hp → Prop} {A : Around}
    (hr : Room (k + 1) X.A) (near : Near X.A A) (hc : X.calm = true) (hN : X.N.Nodup) (TB : GxR.TabB X.base X.mg c P) (hcode : X.env.code = .ref c) (hco : scope.isCoroutine = false) (hdot : scope.names.lookup (".0" : Str) = some NameKind.local)
    (nocell : ∀ y ∈ scope.names, y.2 ≠ .cell) (ok : BlkOk X.N X.env.scope scope own) (hi : PI X tg iter wi)
    (hg : ∀ (A' : Around) (s : Shared) (H : Hp) (C : Addr) (cl : List (Str × Addr)) (code : Value) (fp : List Addr), Room k A' → A'.guards = X.A.guards → PG (gblk X A' s H (genEnv scope cl C code builtinsNs X.env) fp) tg g)
    (ht : ∀ (A' : Around) (s : Shared) (H : Hp) (C : Addr) (cl : List (Str × Addr)) (code : Value) (fp : List Addr), Room k A' → A'.guards = X.A.guards → PTs (gblk X A' s H (genEnv scope cl C code builtinsNs X.env) fp) ifs tt)
    (he : ∀ (A' : Around) (s : Shared) (H : Hp) (C : Addr) (cl : List (Str × Addr)) (code : Value) (fp : List Addr), Room k A' → A'.guards = X.A.guards → PE (gblk X A' s H (genEnv scope cl C code builtinsNs X.env) fp) elt te)
    (hs : ∀ v, genFold iter X.env v = pure v) (I : Inv X pins σ H s) (h : wi σ H fun J H1 => GxR.TabG H1 P ∧ R J H1)
    (hQ : ∀ J H1 H2 u s5, R J H1 → GxR.Tabbed P H1 H2 → Gx X pins σ A J g tt te (own.map (·.2)) H2 u s5 → Q' u s5) :
    wpAny (model X.prog X.w) X.A (eval (.GeneratorExp elt [⟨tg, iter, ifs, 0⟩] scope gpos) X.env) Q' X.xe s := by
  have hfree : ∀ y ∈ scope.names, y.2 = .free → ∃ c, X.env.cells.lookup y.1 = some c := fun y hy e => by
    rcases ok.free y hy e with k | k
    · exact I.ok.has _ (.inl k)
    · exact I.ok.has _ (.inr k)
  refine wpAny_GeneratorExp_make hco (closure_ok hfree) nocell hdot ok.kind (by have := hr.dp; omega) ?_ hs
  refine thn (hi.run pins s σ H _ I h) fun xv s1 hx => thn hx fun itv s2 h2 => ?_
  obtain ⟨it, fp, tn, J, H2, rfl, I2, T, st2, f2, ⟨ps, hP, ht3⟩, q⟩ := h2
  refine ⟨I2.nolimit, ?_⟩
  have hPs : s2.heap.get? P = some { cls := .none, data := .fields ps } := I2.hok P _ hP
  have cd : PySem.W.CodeHd s2.heap c P := TB.code.keeps fun b u e => I2.bk b u e
  have nP : ∀ b, H2 b = none → b ≠ P := fun b e z => by
    rw [z, hP] at e
    cases e
  have cont : ∀ (code : Value) (h3 : Heap) (tk : Nat) (ps' : Array Value), Heap.ExtBut P s2.heap h3 → s2.heap.objs.size ≤ h3.objs.size → h3.get? P = some { cls := .none, data := .fields ps' } → (∃ more, ps' = ps ++ more) → TriplesOk ps'.toList →
      wpAny (model X.prog X.w) X.A (builtinsFor X.env.globals X.env.builtins) (fun bi s₄ =>
        ∀ h', h'.Ns s₄.heap.objs.size (fun y => if y = ".0" then some (Value.ref it) else none) → Heap.SameBut s₄.heap.objs.size (s₄.heap.push { cls := .type "frame", data := .dict #[] }) h' →
          Q' (.ref h'.objs.size) { s₄ with
            gens := s₄.gens.push (.fresh (.compStart (.GeneratorExp elt [⟨tg, iter, ifs, 0⟩] scope gpos) 0 (.ref it) .none (genEnv scope (cloFrom X.env.cells scope.names []) s₄.heap.objs.size code bi X.env))),
            toks := s₄.toks + 1 + 1 + 1,
            heap := h'.push { cls := .type "generator", data := .fields #[.int s₄.gens.size 0, .str "<genexpr>" (s₄.toks + 1), .str (X.env.qual ++ "<genexpr>") (s₄.toks + 1 + 1)] } }) X.xe { s2 with heap := h3, toks := tk } := by
    rintro code h3 tk ps' hx hsz hP3 ⟨more, rfl⟩ ht4
    obtain ⟨bm, ob, e1, e2, e3, e4, e5, e6, e7, e8⟩ := TB.bm
    refine wpAny_builtinsFor (m := X.mg) (by rw [I2.ok.glob]; exact (I2.mod.glob.keeps I2.bk).extBut hx TB.gP) e1 e2 (hx _ _ e4 (I2.bk _ _ e5)) e6 e7 e8 ?_
    intro h' hns hsb
    have I3 : Inv X pins σ (upd H2 P (.tbl (ps ++ more))) { s2 with heap := h3, toks := tk } := GxR.inv_tab (g' := s2.gens) (d' := s2.drawn) I2 hP (fun b o hb e => hx b o hb e) hP3 I2.bare
    have lt2 : ∀ b ∈ fp, b < s2.heap.objs.size := fun b hb => by
      obtain ⟨o, e, _⟩ := T.obj _ _ st2 b hb
      exact Heap.lt_size e
    have f3 : ∀ b ∈ fp, FpOk X pins (upd H2 P (.tbl (ps ++ more))) b ∧ b < ({ s2 with heap := h3, toks := tk } : Shared).heap.objs.size := fun b hb => by
      refine ⟨⟨?_, (f2 b hb).2⟩, Nat.lt_of_lt_of_le (lt2 b hb) hsz⟩
      rw [upd_ne (nP b (f2 b hb).1)]
      exact (f2 b hb).1
    have st3 : tn 0 h3 := T.keep _ _ _ st2 fun b hb o e => hx b o (nP b (f2 b hb).1) e
    generalize hs4 : ({ s2 with heap := h3, toks := tk } : Shared) = s4 at I3 f3 hns hsb ⊢
    have h4 : s4.heap = h3 := by rw [← hs4]
    have hsz4 : h'.objs.size = s4.heap.objs.size + 1 := by rw [hsb.1, Heap.size_push]
    have keep' : ∀ b o, s4.heap.get? b = some o → h'.get? b = some o := fun b o e => hsb.extBut b o (Nat.ne_of_lt (Heap.lt_size e)) (Heap.get?_push_of_some _ e)
    generalize hgo : ({ cls := .type "generator", data := .fields #[.int s4.gens.size 0, .str "<genexpr>" (s4.toks + 1), .str (X.env.qual ++ "<genexpr>") (s4.toks + 1 + 1)] } : Obj) = go
    have hGO : GenObj go s4.gens.size := by rw [← hgo]; exact ⟨_, _, rfl, rfl, rfl⟩
    have k5 : ∀ b o, s4.heap.get? b = some o → (h'.push go).get? b = some o := fun b o e => Heap.get?_push_of_some _ (keep' b o e)
    have pg := fun A' => hg A' s4 (upd H2 P (.tbl (ps ++ more))) s4.heap.objs.size (cloFrom X.env.cells scope.names []) code fp
    have pt := fun A' => ht A' s4 (upd H2 P (.tbl (ps ++ more))) s4.heap.objs.size (cloFrom X.env.cells scope.names []) code fp
    have pe := fun A' => he A' s4 (upd H2 P (.tbl (ps ++ more))) s4.heap.objs.size (cloFrom X.env.cells scope.names []) code fp
    generalize hce : genEnv scope (cloFrom X.env.cells scope.names []) s4.heap.objs.size code builtinsNs X.env = cenv at pg pt pe ⊢
    have hscn : cenv.scope = scope := by rw [← hce]; rfl
    generalize hA' : A.over (.compLoop (.GeneratorExp elt [⟨tg, iter, ifs, 0⟩] scope gpos) 0 (.ref it) .none cenv) [] = A'
    have hfrA : A'.frames = some (cenv :: X.stack) := by
      rw [← hA']
      show pushEnvs [cenv] A.frames = _
      rw [near.fr, I2.ok.frames]
      rfl
    have hhd : A'.handled = none := by
      rw [← hA']
      show A.handled = none
      rw [near.hd]
      exact hr.hd
    have rm : Room k A' := by
      refine ⟨hhd, ?_, ?_⟩
      · have := hr.dp
        have := near.dp
        rw [← hA']
        show A.depth + 0 + 1 + 3 * k + 5 < _
        omega
      · have := hr.un
        have := near.un
        rw [← hA']
        show A.units + 0 + 3 + 16 * k + 200 < _
        omega
    have gdA : A'.guards = X.A.guards := by
      rw [← hA']
      show pushGuards [] A.guards = _
      rw [near.gd]
      rfl
    have I5 : Inv (gblk X A' s4 (upd H2 P (.tbl (ps ++ more))) cenv fp) [(h'.objs.size, go)] (wipe σ (own.map (·.2))) (upd H2 P (.tbl (ps ++ more)))
        { s4 with gens := s4.gens.push (.fresh (.compStart (.GeneratorExp elt [⟨tg, iter, ifs, 0⟩] scope gpos) 0 (.ref it) .none cenv)), toks := s4.toks + 1 + 1 + 1, heap := h'.push go } := by
      subst hce
      refine gen_start (it := .ref it) I3 ok nocell hN f3 hhd hfrA rfl (I3.bare.push rfl) k5 (hns.push _) fun p hp => ?_
      have e : p = (h'.objs.size, go) := by simpa using hp
      subst e
      refine ⟨by show s4.heap.objs.size < h'.objs.size; omega, Heap.get?_push_size _ (by rw [← hgo]; rfl), fun v z => ?_⟩
      rw [← hgo] at z
      cases z
    refine hQ J H2 _ _ _ q ⟨⟨_, upd_same, ht4⟩, fun b hb => upd_ne hb⟩ ⟨A', s4, _, cenv, fp, h'.objs.size, s4.gens.size, go, tn, _, rfl, hGO, Array.getElem?_push_size .., rfl, I5, ?_, fun b hb => (f3 b hb).1.1, fun b hb => ?_, T.keep, fun cp σ' H' s' I' => ?_, ?_⟩
    · exact T.keep _ _ _ st3 fun b _ o e => k5 b o (by rw [h4]; exact e)
    · have := (f3 b hb).2
      rw [hsz4]
      exact Nat.lt_succ_of_lt this
    · exact I3.call' (ch := fp) I'.os I'.base I'.hok I'.bare fun b hb => ⟨(f3 b hb).1.2.2.2.1, (f3 b hb).1.2.1, (f3 b hb).1.2.2.2.2.1, (f3 b hb).1.2.2.2.2.2⟩
    · intro α AC End Yd W m n a cp s' turn w hmn hAC hac I' st'
      refine ⟨rfl, ?_⟩
      have loop := seg_gx (A := A) (pos := gpos) (iter := iter) (scope := scope) hA' hc (by rw [hscn]; exact hco) T (pg A' rm gdA) (pt A' rm gdA) (pe A' rm gdA) hAC turn m n 0 a _ s' s' cp hmn w hac (fun p hp => (I'.pin p (List.mem_append_right _ hp)).1) I' st' fun b hb => (f3 b hb).1.1
      show Seg _ A _ _ _ s' _ ((compStart (.GeneratorExp elt [⟨tg, iter, ifs, 0⟩] scope gpos) 0 (.ref it) .none cenv).onRaise (leaving cenv)) [] s'
      unfold compStart
      rw [Sem.onRaise_eq_wrap]
      show Seg _ A _ _ _ s' _ ((ask >>= _).wrap _ _ _ _) [] s'
      refine seg_bind_wrap (wpAny_askSetting ?_)
      split
      · exact seg_again rfl loop
      · first
          | exact seg_bind_wrap (wpAny_rule (seg_bind_wrap (wpAny_standAt (seg_bind_wrap (T.self _ 0 s' _ _ st' (seg_again rfl loop))))))
          | (refine seg_bind_wrap (wpAny_rule ?_); show Seg _ A _ _ _ s' _ ((standAt iter.pos >>= _).wrap _ _ _ _) [] s'; exact seg_bind_wrap (wpAny_standAt (seg_bind_wrap (T.self _ 0 s' _ _ st' (seg_again rfl loop)))))
  cases hf : codeAmong gpos ps.toList with
  | none =>
    refine wpAny_genexprCodeX hcode (cd.code hPs ht3) (cd.tab hPs) hf fun c' h' tk hx hge hlt hco' _ htab' _ => ?_
    obtain ⟨o1, vs, f1, tf, fl, tg, inF, tx, tt, op, _, _, _, _, _, _, _, _, _, htr, _⟩ := hco'
    exact cont _ h' tk _ hx (Nat.le_trans hge (Nat.le_of_lt hlt)) htab'.2 ⟨_, rfl⟩ htr
  | some cv =>
    refine wpAny_genexprCode_hit hcode (cd.code hPs ht3) hf ?_
    exact cont cv s2.heap s2.toks ps (Heap.ExtBut.refl _ _) (Nat.le_refl _) hPs ⟨#[], by simp⟩ ht3
end
/-! ### asking -/
section
variable {α : Type} {X : Cx} {A A' : Around} {s_0 : Shared} {H_0 : Hp} {cenv : Env} {fp : List Addr} {tn : Nat → Heap → Prop} {AC : α → List (Addr × Obj) → Prop} {End : α → Hp → Prop} {Yd : α → V → Hp → (α → Hp → Prop) → Prop} {ga : Addr} {gn n : Nat} {go : Obj}
theorem next_gx2 {gs : GenState} {s : Shared} {Q : Option Value → Shared → Prop} {E : Value → Shared → Prop} (hh : A.handled = none) (hroom : A.depth < recursionLimit) (hl : s.heap.NoLimit) (hG : GenObj go gn) (e : s.heap.get? ga = some go) (hgs : s.gens[gn]? = some gs)
    (hgo : gs.Goes (model X.prog X.w) A.in1 (RG (gblk X A' s_0 H_0 cenv fp) AC End) (YG (gblk X A' s_0 H_0 cenv fp) fp tn AC Yd) n (.send .none) (s.setGen gn .running))
    (item : ∀ (a : α) (x : V) (σ : L2.St) (H : Hp) (i : Nat) (cp : List (Addr × Obj)) (Nx : α → Hp → Prop) (v : Value) (s1 : Shared) (gs' : GenState), RelV x v → AC a cp → (∀ p ∈ cp, s.heap.get? p.1 = some p.2) → Inv (gblk X A' s_0 H_0 cenv fp) cp σ H s1 → tn i s1.heap → Yd a x H Nx → s1.gens[gn]? = some gs' →
      (∀ a' cp' s', Nx a' H → AC a' cp' → Inv (gblk X A' s_0 H_0 cenv fp) cp' σ H s' → tn i s'.heap → ∃ m, n = m + 1 ∧ gs'.Goes (model X.prog X.w) A.in1 (RG (gblk X A' s_0 H_0 cenv fp) AC End) (YG (gblk X A' s_0 H_0 cenv fp) fp tn AC Yd) m (.send .none) s') → Q (some v) s1)
    (done : ∀ (a : α) (σ : L2.St) (H : Hp) (cp : List (Addr × Obj)) (s1 : Shared), AC a cp → (∀ p ∈ cp, s.heap.get? p.1 = some p.2) → Inv (gblk X A' s_0 H_0 cenv fp) cp σ H s1 → End a H → Q none s1) :
    wpAny (model X.prog X.w) A (pyNext (.ref ga)) Q E s := by
  have hgl : gn < s.gens.size := (Array.getElem?_eq_some_iff.mp hgs).1
  refine GenW.wpAny_gsz (n := gn + 1) hgl (next_genG (Er := fun _ _ => False) hh hl hroom (hG.isGen e) hgs hgo (fun v s₁ gs' hbare hv => ?_) (fun s₁ hp h' hk => ?_) fun e s₁ he => he.elim)
  · intro hsz
    obtain ⟨a, x, σ, H, i, cp, Nx, r, hac, tie, I, st, nf, hy, kap⟩ := hv
    have hsz1 : gn < s₁.gens.size := by
      have q : (s₁.setGen gn gs').gens.size = s₁.gens.size := GenW.setGen_size _ _ _
      have hsz' : gn + 1 ≤ (s₁.setGen gn gs').gens.size := hsz
      omega
    refine item a x σ H i cp Nx v (s₁.setGen gn gs') gs' r hac tie (inv_moved I rfl (allBare_setGen I.bare hbare) fun _ _ q => q) st hy (setGen_at hsz1) fun a' cp' s' nx hac' I' st' => ?_
    have z := kap a' cp' s' nx hac' I' st'
    cases n with
    | zero => exact z.elim
    | succ m => exact ⟨m, rfl, z⟩
  · intro _
    obtain ⟨a, σ, H, cp, hac, tie, I, q⟩ := hp
    exact done a σ H cp _ hac tie (inv_moved I rfl (allBare_setGen I.bare rfl) hk) q
theorem next_gx {gs : GenState} {s : Shared} {Q : Option Value → Shared → Prop} {E : Value → Shared → Prop} (hh : A.handled = none) (hroom : A.depth < recursionLimit) (hl : s.heap.NoLimit) (hG : GenObj go gn) (e : s.heap.get? ga = some go) (hgs : s.gens[gn]? = some gs)
    (hgo : gs.Goes (model X.prog X.w) A.in1 (RG (gblk X A' s_0 H_0 cenv fp) AC End) (YG (gblk X A' s_0 H_0 cenv fp) fp tn AC Yd) n (.send .none) (s.setGen gn .running))
    (item : ∀ (a : α) (x : V) (σ : L2.St) (H : Hp) (i : Nat) (cp : List (Addr × Obj)) (Nx : α → Hp → Prop) (v : Value) (s1 : Shared) (gs' : GenState), RelV x v → AC a cp → Inv (gblk X A' s_0 H_0 cenv fp) cp σ H s1 → tn i s1.heap → Yd a x H Nx → s1.gens[gn]? = some gs' →
      (∀ a' cp' s', Nx a' H → AC a' cp' → Inv (gblk X A' s_0 H_0 cenv fp) cp' σ H s' → tn i s'.heap → ∃ m, n = m + 1 ∧ gs'.Goes (model X.prog X.w) A.in1 (RG (gblk X A' s_0 H_0 cenv fp) AC End) (YG (gblk X A' s_0 H_0 cenv fp) fp tn AC Yd) m (.send .none) s') → Q (some v) s1)
    (done : ∀ (a : α) (σ : L2.St) (H : Hp) (cp : List (Addr × Obj)) (s1 : Shared), AC a cp → Inv (gblk X A' s_0 H_0 cenv fp) cp σ H s1 → End a H → Q none s1) :
    wpAny (model X.prog X.w) A (pyNext (.ref ga)) Q E s :=
  next_gx2 hh hroom hl hG e hgs hgo (fun a x σ H i cp Nx v s1 gs' r hac _ I st hy at_ kap => item a x σ H i cp Nx v s1 gs' r hac I st hy at_ kap) fun a σ H cp s1 hac _ I q => done a σ H cp s1 hac I q
/-- all(..) asks on -/
theorem all_gx {R : Result → Shared → Prop} {Stop : Hp → Prop} {End : Unit → Hp → Prop} (hh : A.handled = none) (hroom : A.depth < recursionLimit) (hG : GenObj go gn)
    (yes : ∀ (σ : L2.St) (H : Hp) (cp : List (Addr × Obj)) (s1 : Shared), Inv (gblk X A' s_0 H_0 cenv fp) cp σ H s1 → End () H → R (.ok (.ret (.bool true))) s1)
    (no : ∀ (σ : L2.St) (H : Hp) (cp : List (Addr × Obj)) (s1 : Shared), Inv (gblk X A' s_0 H_0 cenv fp) cp σ H s1 → Stop H → R (.ok (.ret (.bool false))) s1) :
    ∀ (n : Nat) (s : Shared), s.heap.NoLimit → s.heap.get? ga = some go → (∃ gs, s.gens[gn]? = some gs ∧ gs.Goes (model X.prog X.w) A.in1.in1 (RG (gblk X A' s_0 H_0 cenv fp) (fun _ cp => cp = [(ga, go)]) End)
      (YG (gblk X A' s_0 H_0 cenv fp) fp tn (fun _ cp => cp = [(ga, go)]) (fun _ y H Nx => ∃ b : Bool, y = .bl b ∧ if b = true then Nx () H else Stop H)) n (.send .none) (s.setGen gn .running)) →
      codeAny (model X.prog X.w) A (.builtin "all.loop" ⟨[.ref ga], []⟩) R s := by
  intro n
  induction n with
  | zero =>
    rintro s hl e ⟨gs, hgs, hgo⟩
    refine codeAny_builtin F.entry_all_loop ?_
    rw [Around.under_plainId F.plain_all_loop _]
    show wpAny _ A.in1 (pyNext (.ref ga) >>= _) _ _ s
    refine wpAny_bind (next_gx (A := A.in1) hh hroom hl hG e hgs hgo (fun a x σ H i cp Nx v s1 gs' r hac I st hy at_ kap => ?_) fun a σ H cp s1 hac I q => ?_)
    · obtain ⟨b, rfl, hb⟩ := hy
      cases (show v = Value.bool b from r)
      refine wpAny_bind (wpAny_holding (wpAny_truthy_bool ?_))
      refine wpAny_bind (wpAny_letGo ?_)
      cases b with
      | true =>
        obtain ⟨m, hm, _⟩ := kap () cp s1 hb hac I st
        cases hm
      | false =>
        simp only [Bool.false_eq_true, if_false] at hb ⊢
        exact wpAny_bind (wpAny_rule (wpAny_pure (no σ H cp s1 I hb)))
    · exact wpAny_bind (wpAny_rule (wpAny_pure (yes σ H cp s1 I q)))
  | succ n ih =>
    rintro s hl e ⟨gs, hgs, hgo⟩
    refine codeAny_builtin F.entry_all_loop ?_
    rw [Around.under_plainId F.plain_all_loop _]
    show wpAny _ A.in1 (pyNext (.ref ga) >>= _) _ _ s
    refine wpAny_bind (next_gx (A := A.in1) hh hroom hl hG e hgs hgo (fun a x σ H i cp Nx v s1 gs' r hac I st hy at_ kap => ?_) fun a σ H cp s1 hac I q => ?_)
    · obtain ⟨b, rfl, hb⟩ := hy
      cases (show v = Value.bool b from r)
      refine wpAny_bind (wpAny_holding (wpAny_truthy_bool ?_))
      refine wpAny_bind (wpAny_letGo ?_)
      cases b with
      | true =>
        simp only [if_true] at hb ⊢
        subst hac
        refine wpAny_pure ⟨plainId_quiet F.plain_all_loop _, ih s1 I.nolimit (I.pin (ga, go) (List.mem_append_right _ List.mem_cons_self)).1 ⟨gs', at_, ?_⟩⟩
        obtain ⟨m, hm, z⟩ := kap () [(ga, go)] (s1.setGen gn .running) hb rfl (inv_moved I rfl (allBare_setGen I.bare rfl) fun _ _ q => q) st
        cases hm
        exact z
      | false =>
        simp only [Bool.false_eq_true, if_false] at hb ⊢
        exact wpAny_bind (wpAny_rule (wpAny_pure (no σ H cp s1 I hb)))
    · exact wpAny_bind (wpAny_rule (wpAny_pure (yes σ H cp s1 I q)))
end
section
variable {X : Cx}
/-- all(elt for tg in iter ..) -/
def tAllX (P : Addr) (wi : TI) (g : TG) (tt : TT) (te : TE) (vs : List Nat) : TE := fun σ H Q => wi σ H fun J H1 => GxR.TabG H1 P ∧ ∀ H2, GxR.Tabbed P H1 H2 → ∃ W : Nat → Nat → Unit → Hp → Prop, (∃ m, W 0 m () H2) ∧
  tGx J g tt te (wipe σ vs) vs (fun _ H => Q (.bl true) H) (fun _ y H Nx => ∃ b : Bool, y = .bl b ∧ if b = true then Nx () H else Q (.bl false) H) W
theorem pe_allX {c P : Addr} {elt tg iter : Expr} {ifs : List Expr} {p pos gpos : Pos} {scope : Scope} {own : List (Str × Nat)} {wi : TI} {g : TG} {tt : TT} {te : TE} {k : Nat}
    (hr : Room (k + 1) X.A) (hc : X.calm = true) (hN : X.N.Nodup) (hgl : Gl X "all") (hm : X.mg "all" = none) (hb : bootBuiltins "all" = some (.builtin "all")) (TB : GxR.TabB X.base X.mg c P) (hcode : X.env.code = .ref c)
    (hco : scope.isCoroutine = false) (hdot : scope.names.lookup (".0" : Str) = some NameKind.local) (nocell : ∀ y ∈ scope.names, y.2 ≠ .cell) (ok : BlkOk X.N X.env.scope scope own) (hi : PI X tg iter wi)
    (hg : ∀ (A' : Around) (s : Shared) (H : Hp) (C : Addr) (cl : List (Str × Addr)) (code : Value) (fp : List Addr), Room k A' → A'.guards = X.A.guards → PG (gblk X A' s H (genEnv scope cl C code builtinsNs X.env) fp) tg g)
    (ht : ∀ (A' : Around) (s : Shared) (H : Hp) (C : Addr) (cl : List (Str × Addr)) (code : Value) (fp : List Addr), Room k A' → A'.guards = X.A.guards → PTs (gblk X A' s H (genEnv scope cl C code builtinsNs X.env) fp) ifs tt)
    (he : ∀ (A' : Around) (s : Shared) (H : Hp) (C : Addr) (cl : List (Str × Addr)) (code : Value) (fp : List Addr), Room k A' → A'.guards = X.A.guards → PE (gblk X A' s H (genEnv scope cl C code builtinsNs X.env) fp) elt te)
    (hs : ∀ v, genFold iter X.env v = pure v)
    (hst : starEach [.GeneratorExp elt [⟨tg, iter, ifs, 0⟩] scope gpos] X.env = (false, eval (.GeneratorExp elt [⟨tg, iter, ifs, 0⟩] scope gpos) X.env) :: starEach [] X.env := by rfl) :
    PE X (.Call (.Name "all" p) [.GeneratorExp elt [⟨tg, iter, ifs, 0⟩] scope gpos] [] pos) (tAllX P wi g tt te (own.map (·.2))) := by
  refine ⟨fun pins s σ H Q I h => ?_⟩
  refine wpAny_Call_Name_kw (ld_blt I hgl hm hb ?_)
  refine PyProof.Rows.callWith_builtin1 ?_ hst (by rfl)
  rw [hst]
  show wpAny _ _ (spliced ((false, eval (.GeneratorExp elt [⟨tg, iter, ifs, 0⟩] scope gpos) X.env) :: backTo pos (starEach [] X.env))) _ _ s
  refine Calls.spliced_cons (gx_make (A := X.A.in1.in1) hr ⟨rfl, rfl, rfl, rfl, (by show X.A.units + 1 + 1 ≤ _; omega)⟩ hc hN TB hcode hco hdot nocell ok hi hg ht he hs I h fun J H1 H2 u s5 hR hT hG => ?_)
  obtain ⟨A', s_0, H_0, cenv, fp, ga, gn, go, tn, gs, rfl, hGO, hgs, hbare, I5, st5, nf, hlt, keep, back, goes⟩ := hG
  obtain ⟨W, ⟨m, w0⟩, turn⟩ := hR H2 hT
  refine Calls.spliced_nil ?_
  have pin5 := (I5.pin (ga, go) (List.mem_append_right _ List.mem_cons_self)).1
  refine call_function_tree F.kind_all F.plain_all F.entry_all (F.args_all1 _) ?_
  unfold Builtin.«all»
  refine wpAny_bind (m := oneArg "all" _) (wpAny_pure ?_)
  refine wpAny_bind (wpAny_pyIter_gen (hGO.isGen pin5) ?_)
  refine wpAny_pure ⟨plainId_quiet F.plain_all_loop _, all_gx (A' := A') (s_0 := s_0) (H_0 := H_0) (cenv := cenv) (fp := fp) (tn := tn) (go := go) (gn := gn) (Stop := fun H => Q (.bl false) H) (End := fun _ H => Q (.bl true) H) hr.hd hr.depth hGO
    (fun σ' H' cp s1 I1 q => ⟨.bl true, H', back _ _ _ _ I1, rfl, q⟩) (fun σ' H' cp s1 I1 q => ⟨.bl false, H', back _ _ _ _ I1, rfl, q⟩) (m + 1) s5 I5.nolimit pin5 ⟨gs, hgs, ?_⟩⟩
  refine goes Unit _ _ _ W m (m + 1) () [(ga, go)] _ turn w0 (Nat.lt_succ_self _) (fun a cp hac p hp b hb z => ?_) rfl (inv_moved I5 rfl (allBare_setGen I5.bare rfl) fun _ _ q => q) st5
  subst hac
  have e : p = (ga, go) := by simpa using hp
  subst e
  exact absurd (hlt b hb) (by rw [← z]; exact Nat.lt_irrefl _)
end
/-! ### tuple(..) -/
section
variable {X : Cx} {A A' : Around} {s_0 : Shared} {H_0 : Hp} {cenv : Env} {fp : List Addr} {tn : Nat → Heap → Prop} {ga S : Addr} {gn n : Nat} {go : Obj}
/-- the asker's list S holds what is out -/
def ACl (ga : Addr) (go : Obj) (S : Addr) (ys : List V) (cp : List (Addr × Obj)) : Prop := ∃ (acc : Array Value) (c : Nat), cp = [(ga, go), (S, lstObj acc c)] ∧ Vals ys acc.toList
def YdL (ys : List V) (y : V) (H : Hp) (Nx : List V → Hp → Prop) : Prop := ys.length < sizeLine ∧ Nx (ys ++ [y]) H
theorem ext_gx {R : Result → Shared → Prop} {End : List V → Hp → Prop} {res : Value} (hh : A.handled = none) (hroom : A.depth < recursionLimit) (hG : GenObj go gn) (hSa : S ≠ ga) (far : (gblk X A' s_0 H_0 cenv fp).s_0.heap.objs.size ≤ S) (hSc : ∀ x c, cenv.cells.lookup x = some c → c ≠ S)
    (keep : ∀ i h h', tn i h → (∀ b ∈ fp, ∀ o, h.get? b = some o → h'.get? b = some o) → tn i h') (hSf : ∀ b ∈ fp, b ≠ S)
    (yes : ∀ (σ : L2.St) (H : Hp) (ys : List V) (acc : Array Value) (c : Nat) (s1 : Shared), Inv (gblk X A' s_0 H_0 cenv fp) [(ga, go), (S, lstObj acc c)] σ H s1 → Vals ys acc.toList → End ys H → R (.ok (.ret res)) s1) :
    ∀ (n : Nat) (s : Shared), s.heap.NoLimit → s.heap.get? ga = some go → (∃ gs, s.gens[gn]? = some gs ∧ gs.Goes (model X.prog X.w) A.in1.in1 (RG (gblk X A' s_0 H_0 cenv fp) (ACl ga go S) End)
      (YG (gblk X A' s_0 H_0 cenv fp) fp tn (ACl ga go S) YdL) n (.send .none) (s.setGen gn .running)) →
      codeAny (model X.prog X.w) A (.builtin "list.extend.loop" ⟨[.ref S, .ref ga, res], []⟩) R s := by
  intro n
  induction n with
  | zero =>
    rintro s hl e ⟨gs, hgs, hgo⟩
    refine codeAny_builtin F.entry_extend_loop ?_
    rw [Around.under_plainId F.plain_extend_loop _]
    show wpAny _ A.in1 (pyNext (.ref ga) >>= _) _ _ s
    refine wpAny_bind (next_gx (A := A.in1) hh hroom hl hG e hgs hgo (fun ys x σ H i cp Nx v s1 gs' r hac I st hy at_ kap => ?_) fun ys σ H cp s1 hac I q => ?_)
    · obtain ⟨acc, c, rfl, rv⟩ := hac
      have pS := I.pin (S, lstObj acc c) (List.mem_append_right _ (List.mem_cons_of_mem _ List.mem_cons_self))
      have I0 : Inv (gblk X A' s_0 H_0 cenv fp) [(ga, go)] σ H s1 := I.pins_of fun p hp => I.pin p (List.mem_append_right _ (by rw [List.mem_singleton.mp hp]; exact List.mem_cons_self))
      have I1 := I0.turned (t' := s1.toks) (h' := s1.heap.update S (Obj.mapSeq (·.push v))) (it := S) (fun b o hb q => (Heap.get?_update_other _ _ (Ne.symm hb)).trans q) pS.2.1 pS.2.2.1 (.inr far) hSc (fun p hp => by rw [List.mem_singleton.mp (show p ∈ [(ga, go)] by simpa using hp)]; exact Ne.symm hSa)
      have e2 := Heap.get?_update_self (Obj.mapSeq (·.push v)) pS.1 rfl
      obtain ⟨m, hm, _⟩ := kap (ys ++ [x]) [(ga, go), (S, _)] _ hy.2 ⟨acc.push v, _, rfl, by rw [Array.toList_push]; exact rv.append (.cons r .nil)⟩ (I1.pins_of fun p hp => by
        rcases List.mem_cons.mp hp with z | z
        · rw [z]; exact I1.pin (ga, go) (List.mem_append_right _ List.mem_cons_self)
        · rw [List.mem_singleton.mp z]; exact ⟨e2, pS.2.1, pS.2.2.1, pS.2.2.2.1, fun v q => by cases q⟩) (keep _ _ _ st fun b hb o q => (Heap.get?_update_other _ _ (Ne.symm (hSf b hb))).trans q)
      cases hm
    · obtain ⟨acc, c, rfl, rv⟩ := hac
      exact wpAny_pure (yes σ H ys acc c s1 I rv q)
  | succ n ih =>
    rintro s hl e ⟨gs, hgs, hgo⟩
    refine codeAny_builtin F.entry_extend_loop ?_
    rw [Around.under_plainId F.plain_extend_loop _]
    show wpAny _ A.in1 (pyNext (.ref ga) >>= _) _ _ s
    refine wpAny_bind (next_gx (A := A.in1) hh hroom hl hG e hgs hgo (fun ys x σ H i cp Nx v s1 gs' r hac I st hy at_ kap => ?_) fun ys σ H cp s1 hac I q => ?_)
    · obtain ⟨acc, c, rfl, rv⟩ := hac
      have pS := I.pin (S, lstObj acc c) (List.mem_append_right _ (List.mem_cons_of_mem _ List.mem_cons_self))
      have I0 : Inv (gblk X A' s_0 H_0 cenv fp) [(ga, go)] σ H s1 := I.pins_of fun p hp => I.pin p (List.mem_append_right _ (by rw [List.mem_singleton.mp hp]; exact List.mem_cons_self))
      have I1 := I0.turned (t' := s1.toks) (h' := s1.heap.update S (Obj.mapSeq (·.push v))) (it := S) (fun b o hb q => (Heap.get?_update_other _ _ (Ne.symm hb)).trans q) pS.2.1 pS.2.2.1 (.inr far) hSc (fun p hp => by rw [List.mem_singleton.mp (show p ∈ [(ga, go)] by simpa using hp)]; exact Ne.symm hSa)
      have e2 := Heap.get?_update_self (Obj.mapSeq (·.push v)) pS.1 rfl
      have hln := rv.length
      have hlt : acc.size < sizeLine := by
        have := hy.1
        rw [hln] at this
        simpa using this
      have pG := I1.pin (ga, go) (List.mem_append_right _ List.mem_cons_self)
      show wpAny _ A.in1 (updateSeq S (·.push v) >>= _) _ _ _
      refine wpAny_bind ?_
      refine wpAny_updateSeq pS.1 rfl (wpAny_pure ⟨plainId_quiet F.plain_extend_loop _, ih _ I1.nolimit pG.1 ⟨gs', at_, ?_⟩⟩) (Nat.le_of_lt hlt) (by show (acc.push v).size ≤ sizeLine + 1; rw [Array.size_push]; omega)
      obtain ⟨m, hm, z⟩ := kap (ys ++ [x]) [(ga, go), (S, _)] (({ s1 with heap := s1.heap.update S (Obj.mapSeq (·.push v)) } : Shared).setGen gn .running) hy.2 ⟨acc.push v, _, rfl, by rw [Array.toList_push]; exact rv.append (.cons r .nil)⟩ (inv_moved (I1.pins_of fun p hp => by
        rcases List.mem_cons.mp hp with z | z
        · rw [z]; exact pG
        · rw [List.mem_singleton.mp z]; exact ⟨e2, pS.2.1, pS.2.2.1, pS.2.2.2.1, fun v q => by cases q⟩) rfl (allBare_setGen (s := { s1 with heap := s1.heap.update S (Obj.mapSeq (·.push v)) }) I1.bare rfl) fun _ _ q => q) (keep _ _ _ st fun b hb o q => (Heap.get?_update_other _ _ (Ne.symm (hSf b hb))).trans q)
      cases hm
      exact z
    · obtain ⟨acc, c, rfl, rv⟩ := hac
      exact wpAny_pure (yes σ H ys acc c s1 I rv q)
end
section
variable {X : Cx} {pins : List (Addr × Obj)} {σ : L2.St} {s5 : Shared} {J : It} {g : TG} {tt : TT} {te : TE} {vs : List Nat} {H4 : Hp} {u : Value}
/-- all that a generator hands out, in a list of the asker's own -/
theorem collect_gx {A : Around} {E : Value → Shared → Prop} {Q : List Value → Shared → Prop} {End : List V → Hp → Prop} {W : Nat → Nat → List V → Hp → Prop} {m : Nat} (hh : A.handled = none) (hroom : A.depth < recursionLimit) (G : Gx X pins σ A.in1.in1 J g tt te vs H4 u s5)
    (w0 : W 0 m [] H4) (turn : tGx J g tt te (wipe σ vs) vs End YdL W)
    (hQ : ∀ (s' : Shared) (acc : Array Value) (ys : List V) (H' : Hp), Inv X pins σ H' s' → Vals ys acc.toList → End ys H' → Q acc.toList s') : wpAny (model X.prog X.w) A (collect u) Q E s5 := by
  obtain ⟨A', s_0, H_0, cenv, fp, ga, gn, go, tn, gs, rfl, hGO, hgs, hbare, I5, st5, nf, hlt, keep, back, goes⟩ := G
  have pin5 := I5.pin (ga, go) (List.mem_append_right _ List.mem_cons_self)
  have glt : ga < s5.heap.objs.size := Heap.lt_size pin5.1
  have hSI : s5.heap.objs.size ≠ ga := Nat.ne_of_gt glt
  unfold collect
  refine wpAny_bind (wpAny_runValue (codeAny_builtin F.entry_proto_collect ?_))
  rw [Around.under_plainId F.plain_proto_collect _]
  show wpAny _ A.in1 (newList [] >>= fun l => again (.builtin "list.__iadd__" ⟨[l, .ref ga], []⟩)) _ _ s5
  refine wpAny_bind (wpAny_newObj_type ?_)
  refine wpAny_pure ⟨plainId_quiet F.plain_list_iadd _, codeAny_builtin F.entry_list_iadd ?_⟩
  rw [Around.under_plainId F.plain_list_iadd _]
  show wpAny _ A.in1 (Builtin.List.listExtendWith (.ref s5.heap.objs.size) (.ref ga) (.ref s5.heap.objs.size)) _ _ _
  unfold Builtin.List.listExtendWith
  have k1 : ∀ b o, s5.heap.get? b = some o → (s5.heap.push { cls := .type "list", data := .seq ([] : List Value).toArray }).get? b = some o := fun b o e => Heap.get?_push_of_some _ e
  have hT : Shared.TypeIs { s5 with heap := s5.heap.push { cls := .type "list", data := .seq ([] : List Value).toArray } } (.ref ga) "generator" := Heap.IsGen.typeIs (s := { s5 with heap := _ }) (hGO.isGen (k1 _ _ pin5.1))
  refine wpAny_bind (wpAny_typeOf hT ?_)
  have h1 : Builtin.List.listSameRef (.ref s5.heap.objs.size) (.ref ga) = false := by simp [Builtin.List.listSameRef, hSI]
  have h2 : (Value.type "generator" == Value.type "list") = false := by decide
  have h3 : (Value.type "generator" == Value.type "tuple") = false := by decide
  simp only [h1, h2, h3, Bool.or_false, Bool.false_eq_true, if_false]
  refine wpAny_bind (wpAny_pyIter_gen (s := { s5 with heap := _ }) (hGO.isGen (k1 _ _ pin5.1)) ?_)
  refine wpAny_bind (wpAny_holding ?_)
  unfold Builtin.List.listLengthHint
  refine wpAny_bind (wpAny_specialOf hT F.gen_no_len ?_)
  show wpAny _ A.in1 (specialOf (Value.ref ga) (Str.ofString "__length_hint__") >>= _) _ _ _
  refine wpAny_bind (wpAny_specialOf hT F.gen_no_hint ?_)
  refine wpAny_pure ?_
  show wpAny _ A.in1 (rule "list.extend.makes-room" >>= fun _ => Builtin.List.listTouch (.ref s5.heap.objs.size) >>= fun _ =>
    again (.builtin "list.extend.loop" ⟨[.ref s5.heap.objs.size, .ref ga, .ref s5.heap.objs.size], []⟩)) _ _ _
  refine wpAny_bind (wpAny_rule ?_)
  have hS₁ : (s5.heap.push { cls := .type "list", data := .seq ([] : List Value).toArray }).get? s5.heap.objs.size = some { cls := .type "list", data := .seq ([] : List Value).toArray } := Heap.get?_push_size _ rfl
  refine wpAny_bind ?_
  show wpAny _ A.in1 (updateSeq s5.heap.objs.size (·.push .none) >>= fun _ => updateSeq s5.heap.objs.size (·.pop)) _ _ _
  refine wpAny_bind (wpAny_updateSeq hS₁ rfl ?_)
  have hS₂ := Heap.get?_update_self (Obj.mapSeq (·.push Value.none)) hS₁ rfl
  refine wpAny_updateSeq hS₂ rfl ?_
  have hS₃ := Heap.get?_update_self (Obj.mapSeq (·.pop)) hS₂ rfl
  obtain ⟨c3, hS₄⟩ : ∃ c, (((s5.heap.push { cls := .type "list", data := .seq ([] : List Value).toArray }).update s5.heap.objs.size (Obj.mapSeq (·.push Value.none))).update s5.heap.objs.size (Obj.mapSeq (·.pop))).get? s5.heap.objs.size = some (lstObj #[] c) := ⟨_, hS₃⟩
  have k3 : ∀ b o, s5.heap.get? b = some o → (((s5.heap.push { cls := .type "list", data := .seq ([] : List Value).toArray }).update s5.heap.objs.size (Obj.mapSeq (·.push Value.none))).update s5.heap.objs.size (Obj.mapSeq (·.pop))).get? b = some o :=
    fun b o e => (Heap.get?_update_other _ _ (Ne.symm (Nat.ne_of_lt (Heap.lt_size e)))).trans ((Heap.get?_update_other _ _ (Ne.symm (Nat.ne_of_lt (Heap.lt_size e)))).trans (k1 b o e))
  have fS : FpOk (gblk X A' s_0 H_0 cenv fp) [(ga, go)] H4 s5.heap.objs.size := I5.fpOk (Nat.le_refl _) (I5.hok.fresh (Nat.le_refl _))
  have hfS : ∀ b ∈ fp, b ≠ s5.heap.objs.size := fun b hb => Nat.ne_of_lt (Nat.lt_trans (hlt b hb) glt)
  have I6 := inv_moved (s' := { s5 with heap := ((s5.heap.push { cls := .type "list", data := .seq ([] : List Value).toArray }).update s5.heap.objs.size (Obj.mapSeq (·.push Value.none))).update s5.heap.objs.size (Obj.mapSeq (·.pop)) }) I5 rfl I5.bare k3
  refine wpAny_pure ⟨plainId_quiet F.plain_extend_loop _, ext_gx (A := A) (A' := A') (s_0 := s_0) (H_0 := H_0) (cenv := cenv) (fp := fp) (tn := tn) (go := go) (gn := gn) (End := End) hh hroom hGO hSI ?_ fS.2.2.2.2.1 keep hfS
    (fun σ' H' ys acc c s1 I1 rv q => ?_) (m + 1) _ I6.nolimit (k3 _ _ pin5.1) ⟨gs, hgs, ?_⟩⟩
  · exact Nat.le_trans I5.sz (Nat.le_refl _)
  · show wpAny _ A (load s5.heap.objs.size >>= _) _ _ s1
    have pS := (I1.pin (s5.heap.objs.size, lstObj acc c) (List.mem_append_right _ (List.mem_cons_of_mem _ List.mem_cons_self))).1
    refine wpAny_bind (wpAny_load pS ?_)
    exact wpAny_pure (hQ s1 acc ys H' (back _ _ _ _ I1) rv q)
  · refine goes (List V) (ACl ga go s5.heap.objs.size) End YdL W m (m + 1) [] [(ga, go), (s5.heap.objs.size, lstObj #[] c3)] _ turn w0 (Nat.lt_succ_self _) (fun ys cp hac p hp b hb z => ?_) ⟨#[], c3, rfl, .nil⟩
      (inv_moved (I6.pins_of fun p hp => ?_) rfl (allBare_setGen (s := { s5 with heap := _ }) I5.bare rfl) fun _ _ q => q) (keep _ _ _ st5 fun b hb o q => k3 b o q)
    · obtain ⟨acc, c, rfl, _⟩ := hac
      rcases List.mem_cons.mp hp with e | e
      · rw [e] at z
        exact absurd (hlt b hb) (by rw [← z]; exact Nat.lt_irrefl _)
      · rw [List.mem_singleton.mp e] at z
        exact hfS b hb z.symm
    · rcases List.mem_cons.mp hp with e | e
      · rw [e]
        exact I6.pin (ga, go) (List.mem_append_right _ List.mem_cons_self)
      · rw [List.mem_singleton.mp e]
        exact ⟨hS₄, fS.1, fS.2.1, fS.2.2.1, fun v q => by cases q⟩
end
section
variable {X : Cx}
/-- tuple(elt for tg in iter ..) -/
def tTupX (P : Addr) (wi : TI) (g : TG) (tt : TT) (te : TE) (vs : List Nat) : TE := fun σ H Q => wi σ H fun J H1 => GxR.TabG H1 P ∧ ∀ H2, GxR.Tabbed P H1 H2 → ∃ W : Nat → Nat → List V → Hp → Prop, (∃ m, W 0 m [] H2) ∧
  tGx J g tt te (wipe σ vs) vs (fun ys H => ys.length ≤ sizeLine ∧ ∀ p, H p = none → Q (.ref p) (upd H p (.tup ys))) YdL W
theorem pe_tupX {c P : Addr} {elt tg iter : Expr} {ifs : List Expr} {p pos gpos : Pos} {scope : Scope} {own : List (Str × Nat)} {wi : TI} {g : TG} {tt : TT} {te : TE} {k : Nat}
    (hr : Room (k + 1) X.A) (hc : X.calm = true) (hN : X.N.Nodup) (hgl : Gl X "tuple") (hm : X.mg "tuple" = none) (hb : bootBuiltins "tuple" = some (.type "tuple")) (TB : GxR.TabB X.base X.mg c P) (hcode : X.env.code = .ref c)
    (hco : scope.isCoroutine = false) (hdot : scope.names.lookup (".0" : Str) = some NameKind.local) (nocell : ∀ y ∈ scope.names, y.2 ≠ .cell) (ok : BlkOk X.N X.env.scope scope own) (hi : PI X tg iter wi)
    (hg : ∀ (A' : Around) (s : Shared) (H : Hp) (C : Addr) (cl : List (Str × Addr)) (code : Value) (fp : List Addr), Room k A' → A'.guards = X.A.guards → PG (gblk X A' s H (genEnv scope cl C code builtinsNs X.env) fp) tg g)
    (ht : ∀ (A' : Around) (s : Shared) (H : Hp) (C : Addr) (cl : List (Str × Addr)) (code : Value) (fp : List Addr), Room k A' → A'.guards = X.A.guards → PTs (gblk X A' s H (genEnv scope cl C code builtinsNs X.env) fp) ifs tt)
    (he : ∀ (A' : Around) (s : Shared) (H : Hp) (C : Addr) (cl : List (Str × Addr)) (code : Value) (fp : List Addr), Room k A' → A'.guards = X.A.guards → PE (gblk X A' s H (genEnv scope cl C code builtinsNs X.env) fp) elt te)
    (hs : ∀ v, genFold iter X.env v = pure v)
    (hst : starEach [.GeneratorExp elt [⟨tg, iter, ifs, 0⟩] scope gpos] X.env = (false, eval (.GeneratorExp elt [⟨tg, iter, ifs, 0⟩] scope gpos) X.env) :: starEach [] X.env := by rfl) :
    PE X (.Call (.Name "tuple" p) [.GeneratorExp elt [⟨tg, iter, ifs, 0⟩] scope gpos] [] pos) (tTupX P wi g tt te (own.map (·.2))) := by
  refine ⟨fun pins s σ H Q I h => ?_⟩
  refine wpAny_Call_Name_kw (ld_blt I hgl hm hb ?_)
  refine PyProof.Rows.callWith_type1 ?_ hst (by rfl)
  rw [hst]
  show wpAny _ _ (spliced ((false, eval (.GeneratorExp elt [⟨tg, iter, ifs, 0⟩] scope gpos) X.env) :: backTo pos (starEach [] X.env))) _ _ s
  refine Calls.spliced_cons (gx_make (A := X.A.in1.in1.in1.in1) hr ⟨rfl, rfl, rfl, rfl, (by show X.A.units + 1 + 1 + 1 + 1 ≤ _; omega)⟩ hc hN TB hcode hco hdot nocell ok hi hg ht he hs I h fun J H1 H2 u s5 hR hT hG => ?_)
  obtain ⟨W, ⟨m, w0⟩, turn⟩ := hR H2 hT
  refine Calls.spliced_nil ?_
  have ⟨A', s_0, H_0, cenv, fp, ga, gn, go, tn, gs, eu, hGO, hgs, hbare, I5, st5, nf, hlt, keep, back, goes⟩ := hG
  have pin5 := (I5.pin (ga, go) (List.mem_append_right _ List.mem_cons_self)).1
  rw [eu] at hG ⊢
  refine callType_codes (Q₁ := fun obj s₁ => s₁.TypeIs obj "tuple" ∧ EP X pins σ Q obj s₁) F.called_tuple (F.typeCall_tuple_1 _) F.entry_object_init ?_ fun obj s₁ h₁ =>
    ⟨h₁.1, F.args_object_init_2 obj _, object_init_meets F.called_tuple.init.lookup F.called_tuple.made (by decide) X.prog X.w X.A.in1 _ s₁ ⟨h₁.1, rfl, h₁.2⟩⟩
  refine codeAny_of_tree ?_
  show wpAny _ X.A.in1.in1 (do checkBuiltinCall "tuple.__new__" ⟨[.type "tuple", .ref ga], []⟩; again (.builtin "tuple.__new__" ⟨[.type "tuple", .ref ga], []⟩)) _ _ s5
  refine wpAny_bind (wpAny_of_eq (F.newCall_tuple_1 _) (wpAny_pure ⟨plainId_quiet F.plain_tuple_new _, codeAny_builtin F.entry_tuple_new ?_⟩))
  rw [Around.under_plainId F.plain_tuple_new _]
  have hsub := sub_tuple_self
  have hinit := init_tuple_lookup
  have hmh := madeHere_tuple
  have hTI : s5.TypeIs (.ref ga) "generator" := (hGO.isGen pin5).typeIs
  have col : ∀ {Q0 : List Value → Shared → Prop} {E0 : Value → Shared → Prop}, (∀ (s' : Shared) (acc : Array Value), (∃ (ys : List V) (H' : Hp), Inv X pins σ H' s' ∧ Vals ys acc.toList ∧ ys.length ≤ sizeLine ∧ ∀ p, H' p = none → Q (.ref p) (upd H' p (.tup ys))) → Q0 acc.toList s') →
      wpAny (model X.prog X.w) X.A.in1.in1 (collect (.ref ga)) Q0 E0 s5 := fun hq => collect_gx hr.hd hr.depth hG w0 turn (fun s' acc ys H' I' rv q => hq s' acc ⟨ys, H', I', rv, q.1, q.2⟩)
  wp_walk using wpAny_typeOf hTI, col
  rintro s' acc ⟨ys, H', I', rv, small, q⟩
  show wpAny _ _ (Builtin.Tuple.tupleExact acc.toList.toArray >>= fun v => ret v) _ _ _
  unfold Builtin.Tuple.tupleExact
  refine wpAny_bind (wpAny_newObj_type ?_ (by show acc.toList.toArray.size ≤ sizeLine; rw [List.size_toArray, ← rv.length]; exact small))
  refine wpAny_pure ?_
  have free : H' s'.heap.objs.size = none := I'.hok.fresh (Nat.le_refl _)
  refine ⟨⟨_, Heap.get?_push_size _ rfl, rfl⟩, .ref s'.heap.objs.size, upd H' s'.heap.objs.size (.tup ys), I'.laid (t' := s'.toks) (fun b u z => Heap.get?_push_of_some _ z) (Nat.le_refl _) ⟨small, acc.toList, rv, ?_⟩, rfl, q _ free⟩
  exact ⟨_, Heap.get?_push_size _ rfl, rfl, 0, rfl⟩
end
/-! ### a def by its body, its code object known -/
theorem okC {P : Program} {w : World} {K : PySem.W.Frag} {mg : Str → Option Value} {base : Heap} {x qual : Str} {st : Stmt} {f : Addr} {fd : FuncData} {N ps : List Str} {k : Nat} {sp : Sp} (F : Fun K x qual st f fd) (S : FnScope N ps (defScope st)) (len : ∀ vs H Q E, sp vs H Q E → vs.length = ps.length)
    (body : ∀ (A : Around) (outer : List Env) (s : Shared) (H : Hp) (vs : List V) (Q : VK) (E : XK), Room k (A.deeper (envOfC qual (defScope st) s.heap.objs.size f fd.code)) → sp vs H Q E →
      ∃ t, PSs (cxOf CX0 P w K mg base N qual (defScope st) f fd.code A outer s H E).nox (defBody st) t ∧ t { nx := fun _ H' => Q .non H', rt := Q } (start N vs) H) : FnOk P w K mg base CX0 (k + 1) f fd ps sp := by
  obtain ⟨oc, od, kV, doc, pm, an, cdv, ct, osl, rfl, lk, hcd⟩ := F.ex
  refine fn_of lk hcd S len fun A outer s H vs Q E hr hsp => ?_
  obtain ⟨t, h, q⟩ := body A outer s H vs Q E hr hsp
  exact ⟨t, h.nox, q⟩
/-! ### from the head's facts -/
theorem fun_of {K : PySem.W.Frag} {x qual : Str} {st : Stmt} {f : Addr} {fd : FuncData} (F : FunD K x qual (defArgs st) (defBody st) (defScope st) [] [] f fd) : Fun K x qual st f fd := by
  obtain ⟨oc, od, dV, kV, doc, pm, an, cdv, ct, osl, rfl, lk, hcd, hd, _⟩ := F.ex
  rcases hd with ⟨_, rfl⟩ | ⟨z, _⟩
  · exact ⟨⟨oc, od, kV, doc, pm, an, cdv, ct, osl, rfl, lk, hcd⟩, F.kp⟩
  · exact absurd rfl z
theorem code_of {K : PySem.W.Frag} {x qual : Str} {st : Stmt} {p : He.Defn} {fd : FuncData} (F : Fun K x qual st (He.fAd K p) fd) : fd.code = .ref (He.cT K p).1 := by
  obtain ⟨oc, od, kV, doc, pm, an, cdv, ct, osl, rfl, lk, hcd⟩ := F.ex
  obtain ⟨c, rfl⟩ := He.codeIn_ref hcd
  show Value.ref c = Value.ref (He.codeOf K p)
  rw [He.codeOf_eq lk rfl]
theorem tab_of {base : Heap} {mg : Str → Option Value} {c P : Addr} (h : LamX.TabB base mg c P) : GxR.TabB base mg c P := ⟨h.code, h.bm, h.gP⟩
/-! ### heaps whose tables grow -/
def Tabs (H : Hp) (Ps : List Addr) : Prop := ∀ P ∈ Ps, GxR.TabG H P
/-- what is no table stays; tables stay tables -/
def Gr (H H' : Hp) : Prop := (∀ b o, (∀ ps, o ≠ HO.tbl ps) → H b = some o → H' b = some o) ∧ ∀ b, GxR.TabG H b → GxR.TabG H' b
theorem Gr.refl {H : Hp} : Gr H H := ⟨fun _ _ _ e => e, fun _ e => e⟩
theorem Gr.trans {H H1 H2 : Hp} (a : Gr H H1) (b : Gr H1 H2) : Gr H H2 := ⟨fun c o n e => b.1 c o n (a.1 c o n e), fun c e => b.2 c (a.2 c e)⟩
theorem Gr.of {H H' : Hp} (h : ∀ b o, H b = some o → H' b = some o) : Gr H H' := ⟨fun b o _ e => h b o e, fun b ⟨ps, e, t⟩ => ⟨ps, h _ _ e, t⟩⟩
theorem Gr.tab {P : Addr} {H H' : Hp} (t : GxR.TabG H P) (h : GxR.Tabbed P H H') : Gr H H' := by
  obtain ⟨ps, e, _⟩ := t
  refine ⟨fun b o n q => ?_, fun b q => ?_⟩
  · by_cases hb : b = P
    · rw [hb, e] at q
      exact absurd (Option.some.inj q).symm (n ps)
    · rw [h.2 b hb]; exact q
  · by_cases hb : b = P
    · rw [hb]; exact h.1
    · obtain ⟨ps', e', t'⟩ := q
      exact ⟨ps', by rw [h.2 b hb]; exact e', t'⟩
theorem Gr.tup {H H' : Hp} (g : Gr H H') {a : Addr} {xs : List V} (h : H a = some (.tup xs)) : H' a = some (.tup xs) := g.1 a _ (fun _ z => by cases z) h
theorem Gr.lst {H H' : Hp} (g : Gr H H') {a : Addr} {xs : List V} (h : H a = some (.lst xs)) : H' a = some (.lst xs) := g.1 a _ (fun _ z => by cases z) h
theorem Gr.tabs {H H' : Hp} (g : Gr H H') {Ps : List Addr} (h : Tabs H Ps) : Tabs H' Ps := fun P hP => g.2 P (h P hP)
theorem Gr.none {H : Hp} {a : Addr} {o : HO} (n : H a = Option.none) : Gr H (upd H a o) := Gr.of fun b u e => by
  rw [upd_ne (ne_of_none e n)]
  exact e
namespace CwR
/-- behind it a token is out -/
def PEp (X : Cx) (e : Expr) (t : TE) : Prop := ∀ (pins : List (Addr × Obj)) (s : Shared) (σ : L2.St) (H : Hp) (Q : VK), Inv X pins σ H s → t σ H Q → wpAny (model X.prog X.w) X.A (eval e X.env) (fun u s' => 1 ≤ s'.toks ∧ EP X pins σ Q u s') X.xe s
theorem pep_ix {X : Cx} {a : Expr} {i : Int} {j : Nat} {p pos : Pos} {ta : TE} {r : R2} (hr : IxR X r) (ha : PE X a ta) (hs : PlainIx (.Constant (.int i) j p)) : PEp X (.Subscript a (.Constant (.int i) j p) pos) (tOp r ta (tC (.int i))) := by
  intro pins s σ H Q I h
  refine Subscript_ (thn (ha.run pins s σ H _ I h) fun v s1 ⟨x, H1, I1, r1, q1⟩ => wpAny_Constant_int ?_)
  refine wpAny_mono (PySem.wpAny_toks (hr a _ pins { s1 with toks := s1.toks + 1 } σ H1 x (.int i) v (.int i s1.toks) Q (I1.tok _) r1 ⟨_, rfl⟩ q1 (hs _ _))) (fun u s2 q => ⟨?_, q.2⟩) fun _ _ z => z.2
  have h1 : s1.toks + 1 ≤ s2.toks := q.1
  omega
theorem pep_repl {X : Cx} {o : Expr} {to : TE} {y z : Str} {j k : Nat} {c0 c1 apos pos : Pos} (ho : PEp X o to) (hyz : (y == z) = false := by decide)
    (hst : starEach [.Constant (.str y) j c0, .Constant (.str z) k c1] X.env = [(false, eval (.Constant (.str y) j c0) X.env), (false, eval (.Constant (.str z) k c1) X.env)] := by rfl)
    (hbase : attributeBase o "replace" X.env (eval o X.env) = eval o X.env := by rfl) (hline : (apos.endLine == pos.line) = true := by rfl) :
    PEp X (.Call (.Attribute o "replace" apos) [.Constant (.str y) j c0, .Constant (.str z) k c1] [] pos) (CwR.tReplC to y z) := by
  intro pins s σ H Q I h
  refine PySem.Call_method2 hbase hst hline (wpAny_mono (ho pins s σ H _ I h) (fun v s1 q => ?_) fun _ _ z => z)
  obtain ⟨hk, v', H1, I1, r1, x, e1, hb, q⟩ := q
  subst e1
  obtain ⟨tx, e2⟩ := r1
  subst e2
  refine ⟨"str", _, PySem.F.plainAttrs_str, PySem.F.slot_str_replace, PySem.F.type_str_replace, typeIs_str _ _ _, (fun _ e => nomatch e), Calls.callWith_builtin rfl (Calls.evalArgs_plain (Calls.spliced_cons ?_))⟩
  refine Calls.Constant_str (Calls.spliced_cons (Calls.Constant_str (Calls.spliced_nil ?_)))
  refine wpAny_mono (PySem.wpAny_toks (PySem.SC.replace (Q := fun u s' => EP X pins σ Q u s') (by show s1.toks ≠ 0; omega) (by show s1.toks + 1 ≠ 0; omega) (by show s1.toks ≠ s1.toks + 1; omega) hyz hb fun t' k => ⟨.str (Txt.replace x y z), H1, I1.tok k, ⟨t', rfl⟩, q⟩)) (fun u s2 q => ⟨?_, q.2⟩) fun _ _ z => z.2
  have h1 : s1.toks + 1 + 1 ≤ s2.toks := q.1
  omega
theorem pe_replP {X : Cx} {e : Expr} {t : TE} (h : PEp X e t) : PE X e t := ⟨fun pins s σ H Q I q => wpAny_mono (h pins s σ H Q I q) (fun _ _ z => z.2) fun _ _ z => z⟩
end CwR

/-! ### any(..) -/
section
variable {α : Type} {X : Cx} {A A' : Around} {s_0 : Shared} {H_0 : Hp} {cenv : Env} {fp : List Addr} {tn : Nat → Heap → Prop} {AC : α → List (Addr × Obj) → Prop} {End : α → Hp → Prop} {Yd : α → V → Hp → (α → Hp → Prop) → Prop} {ga : Addr} {gn n : Nat} {go : Obj}
/-- any(..) asks on -/
theorem any_gx {R : Result → Shared → Prop} {Stop : Hp → Prop} {End : Unit → Hp → Prop} (hh : A.handled = none) (hroom : A.depth < recursionLimit) (hG : GenObj go gn)
    (yes : ∀ (σ : L2.St) (H : Hp) (cp : List (Addr × Obj)) (s1 : Shared), Inv (gblk X A' s_0 H_0 cenv fp) cp σ H s1 → End () H → R (.ok (.ret (.bool false))) s1)
    (no : ∀ (σ : L2.St) (H : Hp) (cp : List (Addr × Obj)) (s1 : Shared), Inv (gblk X A' s_0 H_0 cenv fp) cp σ H s1 → Stop H → R (.ok (.ret (.bool true))) s1) :
    ∀ (n : Nat) (s : Shared), s.heap.NoLimit → s.heap.get? ga = some go → (∃ gs, s.gens[gn]? = some gs ∧ gs.Goes (model X.prog X.w) A.in1.in1 (RG (gblk X A' s_0 H_0 cenv fp) (fun _ cp => cp = [(ga, go)]) End)
      (YG (gblk X A' s_0 H_0 cenv fp) fp tn (fun _ cp => cp = [(ga, go)]) (fun _ y H Nx => ∃ b : Bool, y = .bl b ∧ if b = true then Stop H else Nx () H)) n (.send .none) (s.setGen gn .running)) →
      codeAny (model X.prog X.w) A (.builtin "any.loop" ⟨[.ref ga], []⟩) R s := by
  intro n
  induction n with
  | zero =>
    rintro s hl e ⟨gs, hgs, hgo⟩
    refine codeAny_builtin F.entry_any_loop ?_
    rw [Around.under_plainId F.plain_any_loop _]
    show wpAny _ A.in1 (pyNext (.ref ga) >>= _) _ _ s
    refine wpAny_bind (next_gx (A := A.in1) hh hroom hl hG e hgs hgo (fun a x σ H i cp Nx v s1 gs' r hac I st hy at_ kap => ?_) fun a σ H cp s1 hac I q => ?_)
    · obtain ⟨b, rfl, hb⟩ := hy
      cases (show v = Value.bool b from r)
      refine wpAny_bind (wpAny_holding (wpAny_truthy_bool ?_))
      refine wpAny_bind (wpAny_letGo ?_)
      cases b with
      | false =>
        obtain ⟨m, hm, _⟩ := kap () cp s1 (by simpa using hb) hac I st
        cases hm
      | true =>
        simp only [if_true] at hb ⊢
        exact wpAny_bind (wpAny_rule (wpAny_pure (no σ H cp s1 I hb)))
    · exact wpAny_bind (wpAny_rule (wpAny_pure (yes σ H cp s1 I q)))
  | succ n ih =>
    rintro s hl e ⟨gs, hgs, hgo⟩
    refine codeAny_builtin F.entry_any_loop ?_
    rw [Around.under_plainId F.plain_any_loop _]
    show wpAny _ A.in1 (pyNext (.ref ga) >>= _) _ _ s
    refine wpAny_bind (next_gx (A := A.in1) hh hroom hl hG e hgs hgo (fun a x σ H i cp Nx v s1 gs' r hac I st hy at_ kap => ?_) fun a σ H cp s1 hac I q => ?_)
    · obtain ⟨b, rfl, hb⟩ := hy
      cases (show v = Value.bool b from r)
      refine wpAny_bind (wpAny_holding (wpAny_truthy_bool ?_))
      refine wpAny_bind (wpAny_letGo ?_)
      cases b with
      | false =>
        simp only [Bool.false_eq_true, if_false] at hb ⊢
        subst hac
        refine wpAny_pure ⟨plainId_quiet F.plain_any_loop _, ih s1 I.nolimit (I.pin (ga, go) (List.mem_append_right _ List.mem_cons_self)).1 ⟨gs', at_, ?_⟩⟩
        obtain ⟨m, hm, z⟩ := kap () [(ga, go)] (s1.setGen gn .running) hb rfl (inv_moved I rfl (allBare_setGen I.bare rfl) fun _ _ q => q) st
        cases hm
        exact z
      | true =>
        simp only [if_true] at hb ⊢
        exact wpAny_bind (wpAny_rule (wpAny_pure (no σ H cp s1 I hb)))
    · exact wpAny_bind (wpAny_rule (wpAny_pure (yes σ H cp s1 I q)))
end
section
variable {X : Cx}
/-- any(elt for tg in iter ..) -/
def tAnyX (P : Addr) (wi : TI) (g : TG) (tt : TT) (te : TE) (vs : List Nat) : TE := fun σ H Q => wi σ H fun J H1 => GxR.TabG H1 P ∧ ∀ H2, GxR.Tabbed P H1 H2 → ∃ W : Nat → Nat → Unit → Hp → Prop, (∃ m, W 0 m () H2) ∧
  tGx J g tt te (wipe σ vs) vs (fun _ H => Q (.bl false) H) (fun _ y H Nx => ∃ b : Bool, y = .bl b ∧ if b = true then Q (.bl true) H else Nx () H) W
theorem pe_anyX {c P : Addr} {elt tg iter : Expr} {ifs : List Expr} {p pos gpos : Pos} {scope : Scope} {own : List (Str × Nat)} {wi : TI} {g : TG} {tt : TT} {te : TE} {k : Nat}
    (hr : Room (k + 1) X.A) (hc : X.calm = true) (hN : X.N.Nodup) (hgl : Gl X "any") (hm : X.mg "any" = none) (hb : bootBuiltins "any" = some (.builtin "any")) (TB : GxR.TabB X.base X.mg c P) (hcode : X.env.code = .ref c)
    (hco : scope.isCoroutine = false) (hdot : scope.names.lookup (".0" : Str) = some NameKind.local) (nocell : ∀ y ∈ scope.names, y.2 ≠ .cell) (ok : BlkOk X.N X.env.scope scope own) (hi : PI X tg iter wi)
    (hg : ∀ (A' : Around) (s : Shared) (H : Hp) (C : Addr) (cl : List (Str × Addr)) (code : Value) (fp : List Addr), Room k A' → A'.guards = X.A.guards → PG (gblk X A' s H (genEnv scope cl C code builtinsNs X.env) fp) tg g)
    (ht : ∀ (A' : Around) (s : Shared) (H : Hp) (C : Addr) (cl : List (Str × Addr)) (code : Value) (fp : List Addr), Room k A' → A'.guards = X.A.guards → PTs (gblk X A' s H (genEnv scope cl C code builtinsNs X.env) fp) ifs tt)
    (he : ∀ (A' : Around) (s : Shared) (H : Hp) (C : Addr) (cl : List (Str × Addr)) (code : Value) (fp : List Addr), Room k A' → A'.guards = X.A.guards → PE (gblk X A' s H (genEnv scope cl C code builtinsNs X.env) fp) elt te)
    (hs : ∀ v, genFold iter X.env v = pure v)
    (hst : starEach [.GeneratorExp elt [⟨tg, iter, ifs, 0⟩] scope gpos] X.env = (false, eval (.GeneratorExp elt [⟨tg, iter, ifs, 0⟩] scope gpos) X.env) :: starEach [] X.env := by rfl) :
    PE X (.Call (.Name "any" p) [.GeneratorExp elt [⟨tg, iter, ifs, 0⟩] scope gpos] [] pos) (tAnyX P wi g tt te (own.map (·.2))) := by
  refine ⟨fun pins s σ H Q I h => ?_⟩
  refine wpAny_Call_Name_kw (ld_blt I hgl hm hb ?_)
  refine PyProof.Rows.callWith_builtin1 ?_ hst (by rfl)
  rw [hst]
  show wpAny _ _ (spliced ((false, eval (.GeneratorExp elt [⟨tg, iter, ifs, 0⟩] scope gpos) X.env) :: backTo pos (starEach [] X.env))) _ _ s
  refine Calls.spliced_cons (gx_make (A := X.A.in1.in1) hr ⟨rfl, rfl, rfl, rfl, (by show X.A.units + 1 + 1 ≤ _; omega)⟩ hc hN TB hcode hco hdot nocell ok hi hg ht he hs I h fun J H1 H2 u s5 hR hT hG => ?_)
  obtain ⟨A', s_0, H_0, cenv, fp, ga, gn, go, tn, gs, rfl, hGO, hgs, hbare, I5, st5, nf, hlt, keep, back, goes⟩ := hG
  obtain ⟨W, ⟨m, w0⟩, turn⟩ := hR H2 hT
  refine Calls.spliced_nil ?_
  have pin5 := (I5.pin (ga, go) (List.mem_append_right _ List.mem_cons_self)).1
  refine call_function_tree F.kind_any F.plain_any F.entry_any (F.args_any1 _) ?_
  unfold Builtin.«any»
  refine wpAny_bind (m := oneArg "any" _) (wpAny_pure ?_)
  refine wpAny_bind (wpAny_pyIter_gen (hGO.isGen pin5) ?_)
  refine wpAny_pure ⟨plainId_quiet F.plain_any_loop _, any_gx (A' := A') (s_0 := s_0) (H_0 := H_0) (cenv := cenv) (fp := fp) (tn := tn) (go := go) (gn := gn) (Stop := fun H => Q (.bl true) H) (End := fun _ H => Q (.bl false) H) hr.hd hr.depth hGO
    (fun σ' H' cp s1 I1 q => ⟨.bl false, H', back _ _ _ _ I1, rfl, q⟩) (fun σ' H' cp s1 I1 q => ⟨.bl true, H', back _ _ _ _ I1, rfl, q⟩) (m + 1) s5 I5.nolimit pin5 ⟨gs, hgs, ?_⟩⟩
  refine goes Unit _ _ _ W m (m + 1) () [(ga, go)] _ turn w0 (Nat.lt_succ_self _) (fun a cp hac p hp b hb z => ?_) rfl (inv_moved I5 rfl (allBare_setGen I5.bare rfl) fun _ _ q => q) st5
  subst hac
  have e : p = (ga, go) := by simpa using hp
  subst e
  exact absurd (hlt b hb) (by rw [← z]; exact Nat.lt_irrefl _)
end

/-! ### sep.join(elt for tg in iter ..) -/
namespace GxJ
open PySem PySem.Spec PyProof.Rows L2 Builtin Builtin.Str
section
variable {X : Cx}
def tJoinX (P : Addr) (to : TE) (wi : TI) (g : TG) (tt : TT) (te : TE) (vs : List Nat) : TE := fun σ H Q => to σ H fun v H0 => ∃ sep : PySem.Str, v = .str sep ∧ wi σ H0 fun J H1 => GxR.TabG H1 P ∧ ∀ H2, GxR.Tabbed P H1 H2 → ∃ W : Nat → Nat → List V → Hp → Prop, (∃ m, W 0 m [] H2) ∧
  tGx J g tt te (wipe σ vs) vs (fun ys H => ∃ ws : List PySem.Str, ys = ws.map V.str ∧ JoinOk sep ws = true ∧ Q (.str (Txt.join sep ws)) H) YdL W
theorem l_strs : ∀ {ws : List PySem.Str} {us : List Value}, Vals (ws.map V.str) us → ∃ l : List (PySem.Str × Tok), strValues l = us ∧ l.map (·.1) = ws
  | [], _, .nil => ⟨[], rfl, rfl⟩
  | y :: ys, _, .cons r t => by
    obtain ⟨k, rfl⟩ := r
    obtain ⟨l, rfl, e⟩ := l_strs t
    exact ⟨(y, k) :: l, rfl, by rw [List.map_cons, e]⟩
theorem pe_joinX {c P : Addr} {o elt tg iter : Expr} {ifs : List Expr} {apos cpos gpos : Pos} {scope : Scope} {own : List (PySem.Str × Nat)} {to : TE} {wi : TI} {g : TG} {tt : TT} {te : TE} {k : Nat}
    (hr : Room (k + 1) X.A) (hc : X.calm = true) (hN : X.N.Nodup) (ho : PE X o to) (TB : GxR.TabB X.base X.mg c P) (hcode : X.env.code = .ref c)
    (hco : scope.isCoroutine = false) (hdot : scope.names.lookup (".0" : PySem.Str) = some NameKind.local) (nocell : ∀ y ∈ scope.names, y.2 ≠ .cell) (ok : BlkOk X.N X.env.scope scope own) (hi : PI X tg iter wi)
    (hg : ∀ (A' : Around) (s : Shared) (H : Hp) (C : Addr) (cl : List (PySem.Str × Addr)) (code : Value) (fp : List Addr), Room k A' → A'.guards = X.A.guards → PG (gblk X A' s H (genEnv scope cl C code builtinsNs X.env) fp) tg g)
    (ht : ∀ (A' : Around) (s : Shared) (H : Hp) (C : Addr) (cl : List (PySem.Str × Addr)) (code : Value) (fp : List Addr), Room k A' → A'.guards = X.A.guards → PTs (gblk X A' s H (genEnv scope cl C code builtinsNs X.env) fp) ifs tt)
    (he : ∀ (A' : Around) (s : Shared) (H : Hp) (C : Addr) (cl : List (PySem.Str × Addr)) (code : Value) (fp : List Addr), Room k A' → A'.guards = X.A.guards → PE (gblk X A' s H (genEnv scope cl C code builtinsNs X.env) fp) elt te)
    (hs : ∀ v, genFold iter X.env v = pure v) (hbase : attributeBase o "join" X.env (eval o X.env) = eval o X.env := by rfl)
    (hfew : ((backTo cpos (starEach [.GeneratorExp elt [⟨tg, iter, ifs, 0⟩] scope gpos] X.env)).all (fun x => !x.1) && (backToKw cpos (keywordEach [] X.env)).all (fun x => x.1.isSome)
      && decide (([.GeneratorExp elt [⟨tg, iter, ifs, 0⟩] scope gpos] : List Expr).length + ([] : List Keyword).length + (if ([] : List Keyword).isEmpty then 0 else 1) < 30)) = true := by rfl)
    (hline : (apos.endLine == cpos.line) = true := by rfl)
    (hst : starEach [.GeneratorExp elt [⟨tg, iter, ifs, 0⟩] scope gpos] X.env = (false, eval (.GeneratorExp elt [⟨tg, iter, ifs, 0⟩] scope gpos) X.env) :: starEach [] X.env := by rfl)
    (hplain : (backTo cpos (starEach [] X.env)).any (·.1) = false := by rfl) :
    PE X (.Call (.Attribute o "join" apos) [.GeneratorExp elt [⟨tg, iter, ifs, 0⟩] scope gpos] [] cpos) (tJoinX P to wi g tt te (own.map (·.2))) := by
  refine ⟨fun pins s σ H Q I h => ?_⟩
  refine wpAny_Call_method_late hbase hfew hline rfl (thn (ho.run pins s σ H _ I h) fun v s1 ⟨x', H1, I1, r1, sep, ex, q1⟩ => ?_)
  subst ex
  obtain ⟨tk, rfl⟩ := (show ∃ t, v = Value.str sep t from r1)
  refine ⟨"str", _, PySem.F.plainAttrs_str, PySem.F.slot_str_join, PySem.F.type_str_join, typeIs_str _ _ _, (fun _ e => nomatch e), ?_⟩
  rw [hst]
  refine Calls.callWith_builtin (by show (false || (backTo cpos (starEach [] X.env)).any (·.1)) = false; rw [hplain] <;> rfl) (Calls.evalArgs_plain ?_)
  show wpAny _ _ (spliced ((false, eval (.GeneratorExp elt [⟨tg, iter, ifs, 0⟩] scope gpos) X.env) :: backTo cpos (starEach [] X.env))) _ _ s1
  refine Calls.spliced_cons (gx_make (A := X.A.in1.in1.in1) hr ⟨rfl, rfl, rfl, rfl, (by show X.A.units + 1 + 1 + 1 ≤ _; omega)⟩ hc hN TB hcode hco hdot nocell ok hi hg ht he hs I1 q1 fun J H2 H3 u s5 hR hT hG => ?_)
  obtain ⟨W, ⟨m, w0⟩, turn⟩ := hR H3 hT
  refine Calls.spliced_nil ?_
  have ⟨A', s_0, H_0, cenv, fp, ga, gn, go, tn, gs, eu, hGO, hgs, hbare, I5, st5, nf, hlt, keep, back, goes⟩ := hG
  have pin5 := (I5.pin (ga, go) (List.mem_append_right _ List.mem_cons_self)).1
  rw [eu] at hG ⊢
  have hTI : s5.TypeIs (.ref ga) "generator" := (hGO.isGen pin5).typeIs
  refine wpAny_call (codeAny_call_builtin F.slot_str_join.plain F.entry_str_join (F.slot_str_join.check _ _ _ _ _ _ _ _ (typeIs_str _ _ _) (F.args_str_join_2 _ _) ?_))
  show wpAny _ X.A.in1 («str.join» ⟨[.str sep tk, .ref ga], []⟩) _ _ s5
  rw [join_tree_other]
  refine wpAny_bind (wpAny_typeOf hTI ?_)
  show wpAny _ X.A.in1 ((pyIter (.ref ga)).tryCatch _ >>= fun it => collect it >>= fun items => joinTail sep items) _ _ s5
  refine wpAny_bind (wpAny_tryCatch (wpAny_pyIter_gen (hGO.isGen pin5) ?_))
  refine wpAny_bind (collect_gx (A := X.A.in1) hr.hd hr.depth hG w0 turn (fun s' acc ys H' I' rv q => ?_))
  obtain ⟨ws, rfl, hok, hq⟩ := q
  obtain ⟨l, hl, el⟩ := l_strs rv
  rw [← hl]
  subst el
  unfold JoinOk at hok
  rw [Bool.not_eq_true'] at hok
  have gj : Gives (joinTail sep (strValues l)) (joinMade sep l) := by
    have g0 := gives_joinTail sep l hok
    cases l with
    | nil => exact g0
    | cons p r => cases r with
      | nil => exact g0
      | cons q r' => exact g0
  exact gj X.prog X.w X.A (wants _ _) s' (post_join l ⟨joinFit_length hok, fun t' k' => ⟨.str _, H', I'.tok k', ⟨t', rfl⟩, hq⟩⟩)
end
end GxJ

/-! ### heaps -/
theorem same_upd {H : Hp} {p : Addr} {o : HO} (h : H p = none) : Same H (upd H p o) := fun b x e => by
  rw [upd_ne (ne_of_none e h)]
  exact e
def Fr (d l : Addr) (H H' : Hp) : Prop := ∀ b o, b ≠ d → b ≠ l → H b = some o → H' b = some o
theorem Fr.trans {d l : Addr} {H H1 H2 : Hp} (a : Fr d l H H1) (b : Fr d l H1 H2) : Fr d l H H2 := fun c o h1 h2 h => b c o h1 h2 (a c o h1 h2 h)
theorem Fr.refl {d l : Addr} {H : Hp} : Fr d l H H := fun _ _ _ _ h => h
theorem Fr.new {d l p : Addr} {H : Hp} {o : HO} (h : H p = none) : Fr d l H (upd H p o) := fun b x _ _ e => same_upd h b x e
theorem Fr.of {d l : Addr} {H H' : Hp} (h : Same H H') : Fr d l H H' := fun b x _ _ e => h b x e
theorem Fr.d {d l : Addr} {H : Hp} {o : HO} : Fr d l H (upd H d o) := fun b x h1 _ e => by rw [upd_ne h1]; exact e
theorem Fr.l {d l : Addr} {H : Hp} {o : HO} : Fr d l H (upd H l o) := fun b x _ h2 e => by rw [upd_ne h2]; exact e
def Deck (H : Hp) (d l : Addr) : Prop := d ≠ l ∧ ∃ (cs : List Int) (z : Int), H d = some (.lst [.ref l, .int z]) ∧ H l = some (.lst (cs.map V.int)) ∧ cs.length ≤ 63 ∧ 0 ≤ z ∧ z < 4294967296
theorem Deck.same {H H' : Hp} {d l : Addr} (D : Deck H d l) (s : Same H H') : Deck H' d l := by
  obtain ⟨ne, cs, z, hd, hl, r⟩ := D
  exact ⟨ne, cs, z, s _ _ hd, s _ _ hl, r⟩
theorem Deck.new {H : Hp} {d l p : Addr} {o : HO} (D : Deck H d l) (h : H p = none) : Deck (upd H p o) d l := D.same (same_upd h)
theorem Deck.ne_new {H : Hp} {d l p : Addr} (D : Deck H d l) (h : H p = none) : p ≠ d ∧ p ≠ l := by
  obtain ⟨ne, cs, z, hd, hl, r⟩ := D
  exact ⟨(ne_of_none hd h).symm, (ne_of_none hl h).symm⟩
theorem p29 : (0 : Int) < 2147483629 := by decide
theorem p47 : (0 : Int) < 2147483647 := by decide
theorem p87 : (0 : Int) < 2147483587 := by decide
theorem sl1 : 1 ≤ sizeLine := by decide
theorem sl2 : 2 ≤ sizeLine := by decide
theorem sl3 : 3 ≤ sizeLine := by decide
theorem sl4 : 4 ≤ sizeLine := by decide
theorem seqIx0 {α : Type} (x : α) (xs : List α) : seqIndex? 0 (x :: xs).length = some 0 := by
  refine (ixN_seq (n := (x :: xs).length) (i := 0) (j := 0) ?_).1
  unfold ixN
  rw [if_pos (by decide), if_pos (by rw [List.length_cons]; omega)]
  rfl
theorem dpInts {K : PySem.W.Frag} {H : Hp} : ∀ cs : List Int, DpAll K H (cs.map V.int) (cs.map PyData.int)
  | [] => .nil
  | c :: r => .cons (.int c) (dpInts r)
theorem shInts (ns : List Int) : SeqAt.shaped (.list (ns.map PyData.int)) = true := by
  unfold SeqAt.shaped
  rw [Bool.and_eq_true]
  refine ⟨?_, ?_⟩
  · simp only [PyData.canLay0, canLayAll_ints]
  · simp only [PyData.depth, depthAll_ints]
    decide
theorem at_pick {xs : List V} {j : Int} (h0 : 0 ≤ j) (h1 : j < xs.length) : ∃ x, atI xs j = some x ∧ x ∈ xs := by
  obtain ⟨k, rfl⟩ : ∃ k : Nat, j = (k : Int) := ⟨j.toNat, (Int.toNat_of_nonneg h0).symm⟩
  have hk : k < xs.length := by omega
  exact ⟨xs[k], atI_nat (List.getElem?_eq_getElem hk), List.getElem_mem hk⟩
theorem units65 {k : Nat} {A : Around} (r : Room k A) : A.units + 65 < cLine := by have := r.un; omega
def rLenK (K : PySem.W.Frag) : List V → Hp → VK → Prop := fun xs H Q => ∃ p ys, xs = [.ref p] ∧ (SqL K H p ys ∨ SqT K H p ys) ∧ Q (.int ys.length) H
def rTupK (K : PySem.W.Frag) : List V → Hp → VK → Prop := fun xs H Q => ∃ p ys, xs = [.ref p] ∧ ((SqL K H p ys ∧ ∀ l, H l = none → Q (.ref l) (upd H l (.tup ys))) ∨ (SqT K H p ys ∧ Q (.ref p) H))
def rLstK (K : PySem.W.Frag) : List V → Hp → VK → Prop := fun xs H Q => ∃ p ys, xs = [.ref p] ∧ (SqL K H p ys ∨ SqT K H p ys) ∧ ∀ l, H l = none → Q (.ref l) (upd H l (.lst ys))
/-- joining ways behind a test, behind an expression -/
def tCutT (t : TT) : TT := fun σ H Q => ∃ Mid : Bool → Hp → Prop, t σ H Mid ∧ ∀ b H1, Mid b H1 → Q b H1
theorem pt_cut {X : Cx} {e : Expr} {t : TT} (h : PT X e t) : PT X e (tCutT t) := ⟨fun pins s σ H Q I hw => by
  obtain ⟨Mid, h1, q⟩ := hw
  exact thn (h.run pins s σ H _ I h1) fun c s1 ⟨H1, I1, m⟩ => ⟨H1, I1, q _ _ m⟩⟩
def tCutE (t : TE) : TE := fun σ H Q => ∃ Mid : VK, t σ H Mid ∧ ∀ v H1, Mid v H1 → Q v H1
theorem pe_cut {X : Cx} {e : Expr} {t : TE} (h : PE X e t) : PE X e (tCutE t) := ⟨fun pins s σ H Q I hw => by
  obtain ⟨Mid, h1, q⟩ := hw
  exact thn (h.run pins s σ H _ I h1) fun u s1 ⟨v, H1, I1, r, m⟩ => ⟨v, H1, I1, r, q _ _ m⟩⟩

/-! ### defs called where nothing is being shown (so that repr tells what stands there) -/
structure FnG (P : Program) (w : World) (K : PySem.W.Frag) (mg : Str → Option Value) (bs : Heap) (CX : CXT) (k : Nat) (f : Addr) (fd : FuncData) (ps : List Str) (sp : Sp) : Prop where
  many : ∀ vs H Q E, sp vs H Q E → vs.length = ps.length
  go : ∀ A : Around, A.guards = some [] → Room k A → ∀ (fr : List Env) (s : Shared) (H : Hp) (ar : Args) (us : List Value) (vs : List V) (Q : VK) (E : XK), Env0 P w K mg bs A fr s H → BindsTo s fd ar (ps.zip us) → Vals vs us → sp vs H Q E → codeAny (model P w) A (.call (.ref f) ar) (CR CX fr P w H s Q E) s
theorem FnG.of {P : Program} {w : World} {K : PySem.W.Frag} {mg : Str → Option Value} {bs : Heap} {CX : CXT} {k : Nat} {f : Addr} {fd : FuncData} {ps : List Str} {sp : Sp} (F : FnOk P w K mg bs CX k f fd ps sp) : FnG P w K mg bs CX k f fd ps sp :=
  ⟨F.len, fun A _ room fr s H ar us vs Q E e0 b r h => F.run A fr s H ar us vs Q E room e0 b r h⟩
theorem okG {CX : CXT} {P : Program} {w : World} {K : PySem.W.Frag} {mg : Str → Option Value} {bs : Heap} {x qual : Str} {st : Stmt} {f : Addr} {fd : FuncData} {N ps : List Str} {k : Nat} {sp : Sp} (F : Fun K x qual st f fd) (S : FnScope N ps (defScope st))
    (many : ∀ vs H Q E, sp vs H Q E → vs.length = ps.length)
    (body : ∀ (cdv : Value) (A : Around) (fr : List Env) (s : Shared) (H : Hp) (vs : List V) (Q : VK) (E : XK), A.guards = some [] → Room k (A.deeper (envOfC qual (defScope st) s.heap.objs.size f cdv)) → sp vs H Q E →
      ∃ t, PSs (cxOf CX P w K mg bs N qual (defScope st) f cdv A fr s H E) (defBody st) t ∧ t ⟨fun _ H' => Q .non H', Q, fun _ _ => False, fun _ _ => False⟩ (start N vs) H) : FnG P w K mg bs CX (k + 1) f fd ps sp := by
  obtain ⟨oc, od, kV, doc, pm, an, cdv, ct, osl, rfl, lk, code⟩ := F.ex
  refine ⟨many, fun A nothing room fr s H ar us vs Q E e0 bound rel told => ?_⟩
  have stays : ∀ b o, bs.get? b = some o → s.heap.get? b = some o := fun b o z => (e0.bs b o z).1
  have inK : K.In s.heap := e0.mod.kin.keeps stays
  have places : ∀ y ∈ ps.zip us, (defScope st).names.lookup y.1 = some .local ∨ ((defScope st).names.lookup y.1 = some .cell ∧ ((cellsFrom (s.heap.objs.size + 1) (defScope st).names []).lookup y.1).isSome = true) := by
    rintro ⟨n, v⟩ hy
    exact (S.par n (List.of_mem_zip hy).1).imp id fun c => ⟨c, PySem.W.cellsFrom_some _ _ _ (Or.inl c)⟩
  refine codeAny_call_function room.depth (inK _ _ lk) rfl S.co S.gen rfl (PySem.W.codeRec_of inK code) (bound _ _ _ _
    (wpAny_newFunctionEnv_cells S.kind places fun env he s1 made => ?_))
  subst he
  obtain ⟨t, runs, holds⟩ := body cdv A fr s H vs Q E nothing (room.deeper _) told
  refine ⟨(e0.mod.nolimit.keeps stays).keeps made.toInCall.keep, codeAny_func (wpAny_mono (runs.run [] s1 (start N vs) H _ (inv_start S room.hd e0 (many _ _ _ _ told) rel made) holds) (fun fl s2 z => ?_) fun _ _ z => z)⟩
  match fl, z with
  | .ret _, ⟨v, _, H', J, rv, q⟩ => exact ⟨v, H', J.os, J.bare, J.base, J.hok, rv, q⟩
  | .next, ⟨_, H', J, q⟩ => exact ⟨V.non, H', J.os, J.bare, J.base, J.hok, rfl, q⟩
  | .brk, ⟨_, _, _, q⟩ => exact q.elim
  | .cont, ⟨_, _, _, q⟩ => exact q.elim
theorem okG0 {P : Program} {w : World} {K : PySem.W.Frag} {mg : Str → Option Value} {bs : Heap} {x qual : Str} {st : Stmt} {f : Addr} {fd : FuncData} {N ps : List Str} {k : Nat} {sp : Sp} (F : Fun K x qual st f fd) (S : FnScope N ps (defScope st))
    (many : ∀ vs H Q E, sp vs H Q E → vs.length = ps.length)
    (body : ∀ (cdv : Value) (A : Around) (fr : List Env) (s : Shared) (H : Hp) (vs : List V) (Q : VK) (E : XK), A.guards = some [] → Room k (A.deeper (envOfC qual (defScope st) s.heap.objs.size f cdv)) → sp vs H Q E →
      ∃ t, PSs (cxOf CX0 P w K mg bs N qual (defScope st) f cdv A fr s H E).nox (defBody st) t ∧ t ⟨fun _ H' => Q .non H', Q, fun _ _ => False, fun _ _ => False⟩ (start N vs) H) : FnG P w K mg bs CX0 (k + 1) f fd ps sp :=
  okG F S many fun cdv A fr s H vs Q E g r h => by
    obtain ⟨t, p, q⟩ := body cdv A fr s H vs Q E g r h
    exact ⟨t, p.nox, q⟩
section
variable {X : Cx} {CX : CXT} {k : Nat} {f : Addr} {fd : FuncData} {ps : List Str} {sp : Sp} {ds : List Value} {dvs : List V} {E : XK}
theorem runG {pins : List (Addr × Obj)} {σ : L2.St} {H : Hp} {s : Shared} {Q : VK} {us : List Value} {vs : List V} (F : FnG X.prog X.w X.K X.mg X.base CX k f fd ps sp) (nothing : X.A.guards = some []) (room : Room k X.A) (hb : Binds X.K fd ps ds)
    (hd : Vals dvs ds) (out : Passes CX X E) (I : Inv X pins σ H s) (r : Vals vs us) (told : sp (vs ++ dvs) H Q E) : wpAny (model X.prog X.w) X.A (call (.ref f) us) (EP X pins σ Q) X.xe s := by
  have rel : Vals (vs ++ dvs) (us ++ ds) := r.append hd
  have size : (us ++ ds).length = ps.length := rel.length ▸ F.many _ _ _ _ told
  refine wpAny_call (codeAny_mono (F.go X.A nothing room X.stack s H _ _ _ Q E I.env0 (hb s us I.kIn size) rel told) fun res s2 z => ?_)
  match res, z with
  | .error e, z => exact out pins σ H s e s2 I z
  | .ok (.ret u), z => exact I.after z
  | .ok .next, z => exact z.elim
  | .ok .brk, z => exact z.elim
  | .ok .cont, z => exact z.elim
theorem pe_callG {x : Str} {p pos : Pos} {e : Expr} {es : List Expr} {t : TA} (F : FnG X.prog X.w X.K X.mg X.base CX k f fd ps sp) (nothing : X.A.guards = some []) (room : Room k X.A) (hg : Gl X x) (hm : X.mg x = some (.ref f)) (kp : PySem.W.keepIn X.K (.ref f) = true)
    (hb : Binds X.K fd ps ds) (hd : Vals dvs ds) (out : Passes CX X E) (ha : PA X (e :: es) t) (nd : (x == ("__debug__" : Str)) = false := by decide) (he : starEach (e :: es) X.env = (false, eval e X.env) :: starEach es X.env := by rfl)
    (hpl : (backTo pos (starEach es X.env)).any (·.1) = false := by rfl) : PE X (.Call (.Name x p) (e :: es) [] pos) (tCall sp dvs E t) := by
  refine ⟨fun pins s σ H Q I told => wpAny_Call_Name_kw (ld_glob I hg hm ?_ nd)⟩
  refine PySem.W.callWith_K (h₀ := X.base) I.ok.mod.kin kp (thn (ha.run pos pins s σ H _ I told) ?_) he hpl
  rintro us s1 ⟨vs, H1, J, r, q⟩
  exact ⟨J.kIn, runG F nothing room hb hd out J r q⟩
end
/-! ### what is shown by repr: plain data, whose lists and dicts were made by the law -/
def kD : Key → PyData
  | .inl i => .int i
  | .inr x => .str x
mutual
inductive Sh (H : Hp) : V → PyData → Prop
  | non : Sh H .non .none
  | bl (b : Bool) : Sh H (.bl b) (.bool b)
  | int (i : Int) : Sh H (.int i) (.int i)
  | str (x : Str) : Sh H (.str x) (.str x)
  | lst {a : Addr} {xs : List V} {ds : List PyData} : H a = some (.lst xs) → a ≠ sysModules → ShAll H xs ds → Sh H (.ref a) (.list ds)
  | tup {a : Addr} {xs : List V} {ds : List PyData} : H a = some (.tup xs) → ShAll H xs ds → Sh H (.ref a) (.tuple ds)
  | dic {a : Addr} {kvs : List (Key × V)} {ds : List PyData} : H a = some (.dK kvs) → ShAll H (kvs.map (·.2)) ds → Sh H (.ref a) (.dict ((kvs.map fun kv => kD kv.1).zip ds))
inductive ShAll (H : Hp) : List V → List PyData → Prop
  | nil : ShAll H [] []
  | cons {v : V} {vs : List V} {d : PyData} {ds : List PyData} : Sh H v d → ShAll H vs ds → ShAll H (v :: vs) (d :: ds)
end
theorem ShAll.length {H : Hp} : ∀ {vs : List V} {ds : List PyData}, ShAll H vs ds → vs.length = ds.length
  | _, _, .nil => rfl
  | _, _, .cons _ t => by rw [List.length_cons, List.length_cons, t.length]
mutual
theorem Sh.same {H H' : Hp} (s : Same H H') : ∀ {v : V} {d : PyData}, Sh H v d → Sh H' v d
  | _, _, .non => .non
  | _, _, .bl b => .bl b
  | _, _, .int i => .int i
  | _, _, .str x => .str x
  | _, _, .lst h n t => .lst (s _ _ h) n (t.same s)
  | _, _, .tup h t => .tup (s _ _ h) (t.same s)
  | _, _, .dic h t => .dic (s _ _ h) (t.same s)
theorem ShAll.same {H H' : Hp} (s : Same H H') : ∀ {vs : List V} {ds : List PyData}, ShAll H vs ds → ShAll H' vs ds
  | _, _, .nil => .nil
  | _, _, .cons h t => .cons (h.same s) (t.same s)
end
/-- the name of the class of such data -/
def tyD : PyData → String
  | .none => "NoneType"
  | .bool _ => "bool"
  | .int _ => "int"
  | .str _ => "str"
  | .list _ => "list"
  | .tuple _ => "tuple"
  | .dict _ => "dict"
theorem Sh.ty {K : PySem.W.Frag} {H : Hp} {v : V} {d : PyData} (h : Sh H v d) : TyX K H v (.type (tyD d)) := by
  cases h with
  | non => exact .base .non
  | bl b => exact .base (.bl b)
  | int i => exact .base (.int i)
  | str x => exact .base (.str x)
  | lst h _ _ => exact .base (.lst h)
  | tup h _ => exact .base (.tup h)
  | dic h _ => exact .base (.dK h)
section
variable {X : Cx} {pins : List (Addr × Obj)} {σ : L2.St} {H : Hp} {s : Shared}
theorem pairs_keys {P : Program} {w : World} {h : Heap} : ∀ {es : List DictEntry} {kvs : List (Key × Value)}, Pairs (mixKind P w) es kvs → ReadsAll h (es.map (·.key)) (kvs.map fun kv => kD kv.1) []
  | _, _, .nil => .nil
  | _, _, .cons (kv := kv) hk _ t => by
    have r := pairs_keys (h := h) t
    rcases keyIs_shape (k := kv.1) hk with ⟨i, u, e1, e2⟩ | ⟨x, u, e1, e2⟩
    · rw [List.map_cons, List.map_cons, e1, e2]
      exact ReadsAll.cons (as := []) (.int i u) r
    · rw [List.map_cons, List.map_cons, e1, e2]
      exact ReadsAll.cons (as := []) (.str x u) r
theorem pairs_vals {P : Program} {w : World} : ∀ {es : List DictEntry} {kvs : List (Key × Value)}, Pairs (mixKind P w) es kvs → es.map (·.val) = kvs.map (·.2)
  | _, _, .nil => rfl
  | _, _, .cons _ hv t => by rw [List.map_cons, List.map_cons, hv, pairs_vals t]
theorem kv_rel : ∀ {kvs : List (Key × V)} {vs : List (Key × Value)}, KV kvs vs → kvs.map (·.1) = vs.map (·.1) ∧ Vals (kvs.map (·.2)) (vs.map (·.2))
  | _, _, .nil => ⟨rfl, .nil⟩
  | _, _, .cons h t => by
    obtain ⟨a, b⟩ := kv_rel t
    exact ⟨by rw [List.map_cons, List.map_cons, a, h.1], .cons h.2 b⟩
mutual
theorem Sh.reads (I : Inv X pins σ H s) : ∀ (v : V) (d : PyData) (u : Value), Sh H v d → RelV v u → ∃ as, Reads s.heap u d as ∧ sysModules ∉ as
  | _, _, _, .non, r => by cases r; exact ⟨_, .none, List.not_mem_nil⟩
  | _, _, _, .bl b, r => by cases r; exact ⟨_, .bool b, List.not_mem_nil⟩
  | _, _, _, .int i, r => by obtain ⟨t, rfl⟩ := r; exact ⟨_, .int i t, List.not_mem_nil⟩
  | _, _, _, .str x, r => by obtain ⟨t, rfl⟩ := r; exact ⟨_, .str x t, List.not_mem_nil⟩
  | _, _, _, .lst (a := a) (xs := xs) h n t, r => by
    cases r
    obtain ⟨_, its, c, rv, ho⟩ := (show ObjOk X.prog X.w H s.heap a (.lst xs) from I.hok a _ h)
    obtain ⟨as, q, m⟩ := ShAll.reads I _ _ its t rv
    exact ⟨_, .list ho rfl rfl (by simpa using q), fun z => (List.mem_cons.mp z).elim (fun e => n e.symm) m⟩
  | _, _, _, .tup (a := a) (xs := xs) h t, r => by
    cases r
    obtain ⟨_, its, rv, o, ho, hc, c, hd⟩ := (show ObjOk X.prog X.w H s.heap a (.tup xs) from I.hok a _ h)
    obtain ⟨as, q, m⟩ := ShAll.reads I _ _ its t rv
    exact ⟨_, .tuple ho hc hd (by simpa using q), m⟩
  | _, _, _, .dic (a := a) (kvs := kvs) (ds := ds) h t, r => by
    cases r
    obtain ⟨_, low, vs, rel, o, es, ep, ho, hx, hd, _, hp, _⟩ := (show ObjOk X.prog X.w H s.heap a (.dK kvs) from I.hok a _ h)
    obtain ⟨rk, rv⟩ := kv_rel rel
    obtain ⟨as, q, m⟩ := ShAll.reads I _ _ (vs.map (·.2)) t rv
    have k1 : (kvs.map fun kv => kD kv.1) = vs.map fun kv => kD kv.1 := by
      have := congrArg (List.map kD) rk
      rw [List.map_map, List.map_map] at this
      exact this
    have ln : (kvs.map fun kv => kD kv.1).length = ds.length := by
      have := t.length
      rw [List.length_map] at this
      rw [List.length_map, this]
    refine ⟨_, .dict (as := []) (bs := as) ho hx.1 hd ?_ ?_, ?_⟩
    · rw [List.map_fst_zip (Nat.le_of_eq ln), k1]
      exact pairs_keys hp
    · rw [List.map_snd_zip (Nat.le_of_eq ln.symm), pairs_vals hp]
      exact q
    · intro z
      rcases List.mem_cons.mp z with e | e
      · exact absurd low (by rw [← e]; simp)
      · exact m e
theorem ShAll.reads (I : Inv X pins σ H s) : ∀ (vs : List V) (ds : List PyData) (us : List Value), ShAll H vs ds → Vals vs us → ∃ as, ReadsAll s.heap us ds as ∧ sysModules ∉ as
  | _, _, _, .nil, r => by cases r; exact ⟨_, .nil, List.not_mem_nil⟩
  | _, _, _, .cons h t, r => by
    cases r with
    | cons r1 r2 =>
      obtain ⟨as, q1, m1⟩ := Sh.reads I _ _ _ h r1
      obtain ⟨bs, q2, m2⟩ := ShAll.reads I _ _ _ t r2
      exact ⟨_, .cons q1 q2, fun z => (List.mem_append.mp z).elim m1 m2⟩
end
end
def rRepr : List V → Hp → VK → Prop := fun xs H Q => ∃ x d, xs = [x] ∧ Sh H x d ∧ d.showable = true ∧ d.shown.length ≤ sizeLine ∧ d.depth ≤ 50 ∧ Q (.str d.shown) H
theorem call_repr {X : Cx} (nothing : X.A.guards = some []) (hu : X.A.units + 64 < cLine) : CallR X (.builtin "repr") rRepr := by
  intro pins s σ H xs us Q I r h
  obtain ⟨x, d, rfl, sh, able, fits, deep, q⟩ := h
  cases r with
  | @cons _ u _ _ r1 r2 =>
    cases r2
    obtain ⟨as, rd, low⟩ := Sh.reads I _ _ _ sh r1
    have fin : ∀ h' t tk, (∀ b o, s.heap.get? b = some o → h'.get? b = some o) → EP X pins σ Q (.str d.shown t) { s with heap := h', toks := tk } := fun h' t tk kept => ⟨.str d.shown, H, I.kept kept, ⟨t, rfl⟩, q⟩
    cases sh with
    | non => cases r1; exact PySem.P.repr_of_none (fin _ _ _ fun _ _ z => z)
    | bl b => cases r1; exact PySem.P.repr_of_bool (fin _ _ _ fun _ _ z => z)
    | int i => obtain ⟨t, rfl⟩ := r1; exact PySem.P.repr_of_int (of_decide_eq_true able) (fin _ _ _ fun _ _ z => z)
    | str x => obtain ⟨t, rfl⟩ := r1; exact PySem.P.repr_of_str (fin _ _ _ fun _ _ z => z) fits
    | lst _ _ _ => cases r1; exact repr_of_reads' rd able (fun _ => low) nothing (by omega) (fun _ _ z => z) fin fits
    | tup _ _ => cases r1; exact repr_of_reads' rd able (fun _ => low) nothing (by omega) (fun _ _ z => z) fin fits
    | dic _ _ => cases r1; exact repr_of_reads' rd able (fun _ => low) nothing (by omega) (fun _ _ z => z) fin fits
/-- a display's list is none of the interpreter's own -/
def tLstN (t : TA) : TE := fun σ H Q => t σ H fun xs H1 => xs.length ≤ sizeLine ∧ ∀ p, H1 p = none → p ≠ sysModules → Q (.ref p) (upd H1 p (.lst xs))
theorem pe_lstN {X : Cx} {es : List Expr} {t : TA} {pos : Pos} (h : PA X es t) : PE X (.List es pos) (tLstN t) := by
  refine ⟨fun pins s σ H Q I told => wpAny_List_spliced (thn (h.run pos pins s σ H _ I told) ?_)⟩
  rintro us s1 ⟨xs, H1, J, r, small, q⟩
  have free : H1 s1.heap.objs.size = none := J.hok.fresh (Nat.le_refl _)
  refine ⟨by rw [← r.length]; exact small, .ref s1.heap.objs.size, upd H1 s1.heap.objs.size (.lst xs), J.laid (t' := s1.toks) (fun b u z => Heap.get?_push_of_some _ z) (Nat.le_refl _) ⟨small, us, 0, r, Heap.get?_push_size _ rfl⟩, rfl, q _ free (Nat.ne_of_gt J.big)⟩
/-! ### the end of a law whose defs are called where nothing is being shown -/
theorem law_G {P : Program} {w : World} {K : PySem.W.Frag} {mg mb : Str → Option Value} {CX : CXT} {k : Nat} {fa a : Addr} {fd : FuncData} {x : Str} {sp : Sp} {s : Shared} {vs : List Value} {ns : List Int}
    (inK : K.In s.heap) (gl : s.heap.Ns mainGlobals mg) (bl : s.heap.Ns builtinsNs mb) (boot : ∀ y : Str, y ≠ "__name__" → mb y = bootBuiltins y) (lim : s.heap.NoLimit) (ng : s.gens = #[])
    (at_ : s.heap.get? a = some { cls := .type "list", data := .seq vs.toArray }) (are : IntsAre vs ns) (small : ns.length ≤ sizeLine) (room : Room k callerA)
    (F : ∀ bs : Heap, K.In bs → bs.Ns mainGlobals mg → FnG P w K mg bs CX k fa fd [x] sp) (bound : ∀ (s : Shared) (u : Value), BindsTo s fd ⟨[u], []⟩ [(x, u)])
    (told : ∀ H : Hp, Only H → SqL K H a (ns.map V.int) → sp [.ref a] H (fun v _ => v = .bl true) fun _ _ _ => False)
    (noX : ∀ H e s', CX [] H s (fun _ _ _ => False) e s' → False) :
    codeAny (model P w) callerA (.call (.ref fa) ⟨[.ref a], []⟩) (fun r s' => r = .ok (.ret (.bool true)) ∧ OldK s.heap s'.heap ∧ s'.os = s.os ∧ AllBare s'.gens) s := by
  have main : ∀ H : Hp, Only H → SqL K H a (ns.map V.int) → HOk P w H s.heap → (∀ b, H b ≠ none → b = a) → (H a ≠ none → K.lookup a = none) →
      codeAny (model P w) callerA (.call (.ref fa) ⟨[.ref a], []⟩) (fun r s' => r = .ok (.ret (.bool true)) ∧ OldK s.heap s'.heap ∧ s'.os = s.os ∧ AllBare s'.gens) s := by
    intro H only list ok alone out
    have seen : ∀ {b : Addr} {o : Obj}, s.heap.get? b = some o → H b = none → (hidT s.heap H).get? b = some o := fun z n => hidT_get z n
    have dict : ∀ {b : Addr} {o : Obj} {es : Array DictEntry} {ep : Nat}, s.heap.get? b = some o → o.data = .dict es ep → H b = none := by
      intro b o es ep z dz
      refine Classical.byContradiction fun some_ => ?_
      have eb := alone b some_
      rw [eb, at_] at z
      cases z
      cases (show Data.seq vs.toArray _ = Data.dict es ep from dz)
    have names : ∀ {b : Addr} {m : Str → Option Value}, s.heap.Ns b m → (hidT s.heap H).Ns b m := by
      rintro b m ⟨o, es, ep, z, dz, rest⟩
      exact ⟨o, es, ep, seen z (dict z dz), dz, rest⟩
    have inB : K.In (hidT s.heap H) := by
      intro b o z
      refine seen (inK b o z) (Classical.byContradiction fun some_ => ?_)
      have eb := alone b some_
      subst eb
      rw [out some_] at z
      cases z
    obtain ⟨ml, l1, l2⟩ := lim
    have mod : Mod K mg (hidT s.heap H) := ⟨inB, names gl, ⟨mb, names bl, boot⟩, ⟨ml, names l1, l2⟩⟩
    have env : Env0 P w K mg (hidT s.heap H) callerA [] s H := { frames := rfl, mod := mod, bs := fun b o z => of_hidT z, bsz := Nat.le_of_eq (hidT_size _ _), funs := trivial, frf := (fun b hb => by cases (show b ∈ ([] : List Addr) from hb)), hok := ok, bare := .of_eq ng }
    refine codeAny_mono ((F _ inB (names gl)).go callerA rfl room [] s H _ [.ref a] [.ref a] _ _ env (bound s (.ref a)) (.cons rfl .nil) (told H only list)) fun r s2 z => ?_
    match r, z with
    | .error e, z => exact (noX H e s2 z).elim
    | .ok .next, z => exact z.elim
    | .ok .brk, z => exact z.elim
    | .ok .cont, z => exact z.elim
    | .ok (.ret u), ⟨v, H2, os, bare, un, ok2, rel, q⟩ =>
      cases (show v = V.bl true from q)
      cases (show u = Value.bool true from rel)
      refine ⟨rfl, OldK.of_keep fun b o z => ?_, os, bare⟩
      by_cases hb : H b = none
      · exact un.keep b o z hb (fun m => by cases (show b ∈ ([] : List Addr) from m)) (fun m => by cases m)
      · rcases only b with n | ⟨ob, xs, f⟩
        · exact absurd n hb
        · have o1 := (ok b _ f).1
          have o2 := (ok2 b _ (un.frzs b ob _ f)).1
          rw [z] at o1
          rw [Option.some.inj o1]
          exact o2
  have rel := vals_ints are
  cases hk : K.lookup a with
  | some o =>
    have z := inK a o hk
    rw [at_] at z
    cases z
    exact main (fun _ => none) (fun _ => .inl rfl) (.inr ⟨_, vs.toArray, _, hk, rfl, rfl, rfl, by rw [List.size_toArray, are.length]; exact small, by simpa using rel⟩) (fun b u z => by cases z) (fun b z => absurd rfl z) fun z => absurd rfl z
  | none =>
    have on : ∀ b : Addr, b = a → (if b = a then some (HO.frz { cls := .type "list", data := .seq vs.toArray } (.lst (ns.map V.int))) else none) = some (HO.frz { cls := .type "list", data := .seq vs.toArray } (.lst (ns.map V.int))) := fun b e => if_pos e
    refine main (fun b => if b = a then some (.frz { cls := .type "list", data := .seq vs.toArray } (.lst (ns.map V.int))) else none) (fun b => ?_) (.inl (.inr ⟨_, on a rfl⟩)) (fun b u z => ?_) (fun b z => ?_) fun _ => hk
    · rcases Classical.em (b = a) with e | e
      · exact .inr ⟨_, _, on b e⟩
      · exact .inl (if_neg e)
    · rcases Classical.em (b = a) with e | e
      · have := (on b e).symm.trans z
        cases this
        subst e
        exact ⟨at_, by rw [List.length_map]; exact small, vs, _, rel, at_⟩
      · have := (if_neg e).symm.trans z
        cases this
    · exact Classical.byContradiction fun e => z (if_neg e)
theorem walk_G {l : PySem.W.OpenLaw} {n k : Nat} {q : Program} {loose : List Str} {XP : (Str → Option Value) → Heap → Prop} {YP : World → Heap → Prop} {d : DefRec} {K : Params → PySem.W.Frag} {CX : World → CXT} {sp : World → Sp} {x : Str}
    (most : l.most = some n) (small : n ≤ sizeLine) (nodef : d.params.defaults = []) (room : Room k callerA) (inK : ∀ (w : World) (h : Heap), YP w h → (K w.params).In h)
    (F : ∀ (w : World) (mg : Str → Option Value) (fa : Addr) (h : Heap), (K w.params).In h → h.Ns mainGlobals mg → mg d.name = some (.ref fa) →
      ∃ fd : FuncData, (∀ (s : Shared) (u : Value), BindsTo s fd ⟨[u], []⟩ [(x, u)]) ∧ ∀ bs : Heap, (K w.params).In bs → bs.Ns mainGlobals mg → FnG l.prog w (K w.params) mg bs (CX w) k fa fd [x] (sp w))
    (told : ∀ (w : World) (H : Hp) (a : Addr) (ns : List Int), ns.length ≤ n → Only H → SqL (K w.params) H a (ns.map V.int) → sp w [.ref a] H (fun v _ => v = .bl true) fun _ _ _ => False)
    (noX : ∀ (w : World) (H : Hp) (s : Shared) (e : Value) (s' : Shared), CX w [] H s (fun _ _ _ => False) e s' → False) :
    PySem.W.WalkO q loose XP YP l.row.toRowW d [] (fun f vs => PySem.call f vs) := by
  refine Att.attach_call most nodef fun w s₀ s₁ mg mb fa o pm cd doc a vs ns G Y ho hd hcd hmg hobj hints hlen hg => ?_
  obtain ⟨fd, bound, FG⟩ := F w mg fa _ (inK w _ Y) G.T.g hmg
  exact law_G (inK w _ Y) G.T.g G.T.b G.T.builtins G.T.nolimit hg hobj hints (Nat.le_trans hlen small) room FG bound (fun H only list => told w H a ns hlen only list) fun H e s2 => noX w H s₁ e s2

/-! ### data made by the law or the program: numbers, truths, texts, lists and tuples of these -/
mutual
inductive Tk (H : Hp) : V → PyData → Prop
  | bl (b : Bool) : Tk H (.bl b) (.bool b)
  | int (i : Int) : Tk H (.int i) (.int i)
  | str (x : Str) : Tk H (.str x) (.str x)
  | lst {a : Addr} {xs : List V} {ds : List PyData} : H a = some (.lst xs) → TkAll H xs ds → Tk H (.ref a) (.list ds)
  | tup {a : Addr} {xs : List V} {ds : List PyData} : H a = some (.tup xs) → TkAll H xs ds → Tk H (.ref a) (.tuple ds)
inductive TkAll (H : Hp) : List V → List PyData → Prop
  | nil : TkAll H [] []
  | cons {v : V} {vs : List V} {d : PyData} {ds : List PyData} : Tk H v d → TkAll H vs ds → TkAll H (v :: vs) (d :: ds)
end
theorem TkAll.length {H : Hp} : ∀ {vs : List V} {ds : List PyData}, TkAll H vs ds → vs.length = ds.length
  | _, _, .nil => rfl
  | _, _, .cons _ t => by rw [List.length_cons, List.length_cons, t.length]
mutual
theorem Tk.same {H H' : Hp} (s : Same H H') : ∀ {v : V} {d : PyData}, Tk H v d → Tk H' v d
  | _, _, .bl b => .bl b
  | _, _, .int i => .int i
  | _, _, .str x => .str x
  | _, _, .lst h t => .lst (s _ _ h) (t.same s)
  | _, _, .tup h t => .tup (s _ _ h) (t.same s)
theorem TkAll.same {H H' : Hp} (s : Same H H') : ∀ {vs : List V} {ds : List PyData}, TkAll H vs ds → TkAll H' vs ds
  | _, _, .nil => .nil
  | _, _, .cons h t => .cons (h.same s) (t.same s)
end
theorem TkAll.get {H : Hp} : ∀ {xs : List V} {ds : List PyData} {j : Nat} {x : V}, TkAll H xs ds → xs[j]? = some x → ∃ d, ds[j]? = some d ∧ Tk H x d
  | _, _, _, _, .nil, h => by simp at h
  | _, _, 0, _, .cons (d := d) a _, h => by
    cases (Option.some.inj h)
    exact ⟨d, rfl, a⟩
  | _, _, j + 1, _, .cons _ t, h => t.get h
theorem TkAll.append {H : Hp} : ∀ {xs ys : List V} {ds es : List PyData}, TkAll H xs ds → TkAll H ys es → TkAll H (xs ++ ys) (ds ++ es)
  | _, _, _, _, .nil, t => t
  | _, _, _, _, .cons a r, t => .cons a (r.append t)
theorem TkAll.ints {H : Hp} : ∀ ns : List Int, TkAll H (ns.map V.int) (ns.map PyData.int)
  | [] => .nil
  | n :: r => .cons (.int n) (TkAll.ints r)
theorem Tk.int_inv {H : Hp} {v : V} {i : Int} (h : Tk H v (.int i)) : v = .int i := by cases h; rfl
theorem Tk.tup_inv {H : Hp} {v : V} {ds : List PyData} (h : Tk H v (.tuple ds)) : ∃ a xs, v = .ref a ∧ H a = some (.tup xs) ∧ TkAll H xs ds := by
  cases h with
  | tup h t => exact ⟨_, _, rfl, h, t⟩
theorem Tk.lst_inv {H : Hp} {v : V} {ds : List PyData} (h : Tk H v (.list ds)) : ∃ a xs, v = .ref a ∧ H a = some (.lst xs) ∧ TkAll H xs ds := by
  cases h with
  | lst h t => exact ⟨_, _, rfl, h, t⟩
theorem TkAll.int_inv {H : Hp} : ∀ {vs : List V} {ns : List Int}, TkAll H vs (ns.map PyData.int) → vs = ns.map V.int
  | _, [], .nil => rfl
  | _, n :: r, .cons h t => by rw [List.map_cons, h.int_inv, t.int_inv]
/-- heaps without one place -/
def hd1 (p : Addr) (H : Hp) : Hp := fun b => if b = p then none else H b
theorem hd1_le {p : Addr} {H : Hp} : Same (hd1 p H) H := fun b o e => by
  unfold hd1 at e
  by_cases h : b = p
  · rw [if_pos h] at e; cases e
  · rw [if_neg h] at e; exact e
theorem hd1_same {p : Addr} {H H' : Hp} (s : Same H H') : Same (hd1 p H) (hd1 p H') := fun b o e => by
  unfold hd1 at e ⊢
  by_cases h : b = p
  · rw [if_pos h] at e; cases e
  · rw [if_neg h] at e ⊢; exact s _ _ e
theorem hd1_upd {p : Addr} {H : Hp} {o : HO} : Same (hd1 p H) (hd1 p (upd H p o)) := fun b x e => by
  unfold hd1 at e ⊢
  by_cases h : b = p
  · rw [if_pos h] at e; cases e
  · rw [if_neg h] at e ⊢; rw [upd_ne h]; exact e
theorem hd1_at {p b : Addr} {H : Hp} (h : b ≠ p) : hd1 p H b = H b := if_neg h
theorem hd1_of {p : Addr} {H H' : Hp} (s : Same H H') (n : H p = none) : Same H (hd1 p H') := fun b o e => by
  rw [hd1_at (ne_of_none e n)]
  exact s _ _ e
theorem same_of_hd1 {p : Addr} {H H' : Hp} {o : HO} (s : Same H (hd1 p H')) : Same H (upd H' p o) := fun b x e => by
  have z := s b x e
  unfold hd1 at z
  by_cases h : b = p
  · rw [if_pos h] at z; cases z
  · rw [if_neg h] at z; rw [upd_ne h]; exact z

/-! ### tables and gates -/
def tabOf (bs : List Bool) : Str := ⟨(bs.map fun b => if b = true then 49 else 48).toArray⟩
def plc (ws : List Int) : Int := ws.foldl (fun p w => 2 * p + w) 0
def gateM (bs : List Bool) (ws : List Int) : Int := if bs.getD (plc ws).toNat false = true then 1 else 0
theorem plc_snoc (ws : List Int) (w : Int) : plc (ws ++ [w]) = 2 * plc ws + w := by
  unfold plc
  rw [List.foldl_append]
  rfl
theorem plc_take {ws : List Int} {i : Nat} {u : Int} (h : ws[i]? = some u) : plc (ws.take (i + 1)) = 2 * plc (ws.take i) + u := by
  rw [List.take_add_one, h]
  exact plc_snoc _ _
theorem plc_bd : ∀ (n : Nat) (ws : List Int), ws.length = n → (∀ w ∈ ws, w = 0 ∨ w = 1) → 0 ≤ plc ws ∧ plc ws < 2 ^ n := by
  intro n
  induction n with
  | zero =>
    intro ws h _
    cases List.eq_nil_of_length_eq_zero h
    decide
  | succ n ih =>
    intro ws h hw
    have hne : ws ≠ [] := fun z => by rw [z] at h; cases h
    obtain ⟨r, x, rfl⟩ : ∃ r x, ws = r ++ [x] := ⟨ws.dropLast, ws.getLast hne, (List.dropLast_concat_getLast hne).symm⟩
    have hr := ih r (by rw [List.length_append] at h; simpa using h) fun w h' => hw w (List.mem_append_left _ h')
    have hx := hw x (by simp)
    rw [plc_snoc, Int.pow_succ]
    omega
theorem gate01 (bs : List Bool) (ws : List Int) : gateM bs ws = 0 ∨ gateM bs ws = 1 := by
  unfold gateM
  split
  · exact .inr rfl
  · exact .inl rfl
theorem int_sign (b : Bool) : PySem.intText? ⟨#[if b = true then 49 else 48]⟩ = some (if b = true then 1 else 0) := by
  cases b <;> decide +kernel
def spGate (K : PySem.W.Frag) : Sp := fun vs H Q _ => ∃ (bs : List Bool) (la : Addr) (ws : List Int), vs = [.str (tabOf bs), .ref la] ∧ SqL K H la (ws.map V.int) ∧ (∀ w ∈ ws, w = 0 ∨ w = 1) ∧ bs.length = 2 ^ ws.length ∧ ws.length ≤ 3 ∧ Q (.int (gateM bs ws)) H
theorem gate_read {bs : List Bool} {ws : List Int} (hw : ∀ w ∈ ws, w = 0 ∨ w = 1) (hb : bs.length = 2 ^ ws.length) (h3 : ws.length ≤ 3) : ∃ b : Bool, 0 ≤ plc ws ∧ plc ws < 2 ^ 63 ∧ plc ws < (tabOf bs).length ∧ (tabOf bs).cps[(plc ws).toNat]? = some (if b = true then 49 else 48) ∧ gateM bs ws = if b = true then 1 else 0 := by
  obtain ⟨p0, p1⟩ := plc_bd _ ws rfl hw
  have p8 : plc ws < 8 := by
    have : (2 : Int) ^ ws.length ≤ 8 := by
      have : ws.length = 0 ∨ ws.length = 1 ∨ ws.length = 2 ∨ ws.length = 3 := by omega
      rcases this with h | h | h | h <;> rw [h] <;> decide
    omega
  have hlt : (plc ws).toNat < bs.length := by
    have : ((2 ^ ws.length : Nat) : Int) = (2 : Int) ^ ws.length := by simp
    omega
  refine ⟨bs[(plc ws).toNat], p0, by omega, ?_, ?_, ?_⟩
  · have : (tabOf bs).length = bs.length := by simp [tabOf, Str.length]
    rw [this]
    omega
  · simp [tabOf, List.getElem?_eq_getElem hlt]
  · unfold gateM
    rw [List.getD_eq_getElem?_getD, List.getElem?_eq_getElem hlt]
    rfl

/-! ### walks -/
theorem gx_tup {α : Type} {K : PySem.W.Frag} {a : Addr} {xs : List V} {g : TG} {tt : TT} {te : TE} {vs : List Nat} {σ0 : L2.St} {End : α → Hp → Prop} {Yd : α → V → Hp → (α → Hp → Prop) → Prop} {a0 : α} {H0 : Hp} (Pv : Nat → α → Hp → Prop) (h0 : Pv 0 a0 H0)
    (hl : ∀ i c H, i ≤ xs.length → Pv i c H → SqT K H a xs)
    (hs : ∀ i x c H, xs[i]? = some x → Pv i c H → g x σ0 H fun σ2 H2 => wipe σ2 vs = σ0 ∧ tt σ2 H2 fun b H3 => if b = true then te σ2 H3 fun y H4 => Yd c y H4 (Pv (i + 1)) else Pv (i + 1) c H3) (hd : ∀ c H, Pv xs.length c H → End c H) :
    ∃ W : Nat → Nat → α → Hp → Prop, (∃ m, W 0 m a0 H0) ∧ tGx (Itt K a) g tt te σ0 vs End Yd W := by
  refine ⟨fun i m c H => m = xs.length - i ∧ i ≤ xs.length ∧ Pv i c H, ⟨xs.length, rfl, Nat.zero_le _, h0⟩, ?_⟩
  rintro i m c H ⟨rfl, hi, p⟩
  by_cases hlt : i < xs.length
  · have hx : xs[i]? = some xs[i] := List.getElem?_eq_getElem hlt
    refine .inr ⟨⟨xs, xs[i], hl i c H hi p, hx⟩, Pv (i + 1), fun c' H' p' => ⟨xs.length - (i + 1), by omega, rfl, hlt, p'⟩, fun x H' y => ?_⟩
    obtain ⟨rfl, y⟩ := y
    exact hs i x c _ (y xs (hl i c _ hi p)) p
  · have e : i = xs.length := by omega
    subst e
    exact .inl ⟨⟨xs, hl _ c H hi p, Nat.le_refl _⟩, hd c H p⟩
theorem lc_zipT {K : PySem.W.Frag} {a b : Addr} {xs ys : List V} {g : TG} {tt : TT} {te : TE} {vs : List Nat} {σ : L2.St} {H1 : Hp} {D : Addr} {Qd : Hp → Prop} (el : xs.length = ys.length) (Pv : Nat → Hp → Prop) (h0 : Pv 0 (upd H1 D (.lst []))) (hl : ∀ i H, i ≤ xs.length → Pv i H → SqT K H a xs ∧ SqT K H b ys)
    (hs : ∀ i x y T H, xs[i]? = some x → ys[i]? = some y → H T = none → Pv i H → g (.ref T) (wipe σ vs) (upd H T (.tup [x, y])) fun σ2 H2 => wipe σ2 vs = wipe σ vs ∧ tt σ2 H2 fun b H3 =>
      if b = true then te σ2 H3 fun y H4 => ∃ acc, H4 D = some (.lst acc) ∧ acc.length < sizeLine ∧ Pv (i + 1) (upd H4 D (.lst (acc ++ [y]))) else Pv (i + 1) H3) (hd : ∀ H, Pv xs.length H → Qd H) :
    ∃ W : Nat → Nat → Hp → Prop, (∃ m, W 0 m (upd H1 D (.lst []))) ∧ ∀ i m H, W i m H →
      ((RZ.ItzT K a b).stop i H ∧ Qd H) ∨ ((RZ.ItzT K a b).go i H ∧ ∃ Nx : Hp → Prop, (∀ H', Nx H' → ∃ m', m' < m ∧ W (i + 1) m' H') ∧ ∀ x H', (RZ.ItzT K a b).yld i H x H' → g x (wipe σ vs) H' fun σ2 H2 => wipe σ2 vs = wipe σ vs ∧ tt σ2 H2 fun b H3 =>
        if b = true then te σ2 H3 fun y H4 => ∃ acc, H4 D = some (.lst acc) ∧ acc.length < sizeLine ∧ Nx (upd H4 D (.lst (acc ++ [y]))) else Nx H3) := by
  refine ⟨fun i m H => m = xs.length - i ∧ i ≤ xs.length ∧ Pv i H, ⟨xs.length, by simp, Nat.zero_le _, h0⟩, ?_⟩
  rintro i m H ⟨rfl, hi, p⟩
  obtain ⟨qx, qy⟩ := hl i H hi p
  by_cases hlt : i < xs.length
  · have hx : xs[i]? = some xs[i] := List.getElem?_eq_getElem hlt
    have hy : ys[i]? = some (ys[i]'(by omega)) := List.getElem?_eq_getElem _
    refine .inr ⟨⟨xs, ys, _, _, qx, qy, hx, hy⟩, Pv (i + 1), fun H' p' => ⟨xs.length - (i + 1), by omega, rfl, hlt, p'⟩, fun x H' y => ?_⟩
    obtain ⟨T, x1, y1, rfl, nT, rfl, e1, e2⟩ := y
    exact hs i x1 y1 T H (e1 xs qx) (e2 ys qy) nT p
  · have e : i = xs.length := by omega
    subst e
    exact .inl ⟨⟨xs, ys, qx, qy, .inl (Nat.le_refl _)⟩, hd H p⟩

/-! ### nets, and the words of nets -/
abbrev Gt := List Bool × List Nat
def gD (g : Gt) : PyData := .tuple [.str (tabOf g.1), .tuple ((g.2.map Int.ofNat).map PyData.int)]
def netD (many : Int) (gs : List Gt) : PyData := .tuple [.int many, .tuple (gs.map gD)]
def rowD (r : List Int) : PyData := .tuple (r.map PyData.int)
def chD (a b : List Int) : PyData := .tuple [rowD a, rowD b]
def GtOk (n : Nat) (g : Gt) : Prop := g.1.length = 2 ^ g.2.length ∧ 1 ≤ g.2.length ∧ g.2.length ≤ 3 ∧ ∀ i ∈ g.2, i < n
def NetOk (n : Nat) (gs : List Gt) : Prop := ∀ k g, gs[k]? = some g → GtOk (n + k) g
def Row01 (r : List Int) : Prop := ∀ x ∈ r, x = 0 ∨ x = 1
mutual
theorem Tk.gr {H H' : Hp} (s : Gr H H') : ∀ {v : V} {d : PyData}, Tk H v d → Tk H' v d
  | _, _, .bl b => .bl b
  | _, _, .int i => .int i
  | _, _, .str x => .str x
  | _, _, .lst h t => .lst (s.lst h) (t.gr s)
  | _, _, .tup h t => .tup (s.tup h) (t.gr s)
theorem TkAll.gr {H H' : Hp} (s : Gr H H') : ∀ {vs : List V} {ds : List PyData}, TkAll H vs ds → TkAll H' vs ds
  | _, _, .nil => .nil
  | _, _, .cons h t => .cons (h.gr s) (t.gr s)
end
theorem Tk.row_inv {H : Hp} {v : V} {r : List Int} (h : Tk H v (rowD r)) : ∃ a, v = .ref a ∧ H a = some (.tup (r.map V.int)) := by
  obtain ⟨a, xs, rfl, ha, t⟩ := h.tup_inv
  rw [t.int_inv] at ha
  exact ⟨a, rfl, ha⟩
theorem Tk.ch_inv {H : Hp} {v : V} {a b : List Int} (h : Tk H v (chD a b)) : ∃ c ra rb, v = .ref c ∧ H c = some (.tup [.ref ra, .ref rb]) ∧ H ra = some (.tup (a.map V.int)) ∧ H rb = some (.tup (b.map V.int)) := by
  obtain ⟨c, xs, rfl, hc, t⟩ := h.tup_inv
  cases t with
  | cons h1 t => cases t with
    | cons h2 t =>
      cases t
      obtain ⟨ra, rfl, ha⟩ := h1.row_inv
      obtain ⟨rb, rfl, hb⟩ := h2.row_inv
      exact ⟨c, ra, rb, rfl, hc, ha, hb⟩
theorem Tk.net_inv {H : Hp} {v : V} {m : Int} {gs : List Gt} (h : Tk H v (netD m gs)) : ∃ n g xs, v = .ref n ∧ H n = some (.tup [.int m, .ref g]) ∧ H g = some (.tup xs) ∧ TkAll H xs (gs.map gD) := by
  obtain ⟨n, xs, rfl, hn, t⟩ := h.tup_inv
  cases t with
  | cons h1 t => cases t with
    | cons h2 t =>
      cases t
      cases h1
      obtain ⟨g, ys, rfl, hg, t2⟩ := h2.tup_inv
      exact ⟨n, g, ys, rfl, hn, hg, t2⟩
theorem Tk.gt_inv {H : Hp} {v : V} {g : Gt} (h : Tk H v (gD g)) : ∃ a i, v = .ref a ∧ H a = some (.tup [.str (tabOf g.1), .ref i]) ∧ H i = some (.tup ((g.2.map Int.ofNat).map V.int)) := by
  obtain ⟨a, xs, rfl, ha, t⟩ := h.tup_inv
  cases t with
  | cons h1 t => cases t with
    | cons h2 t =>
      cases t
      cases h1
      obtain ⟨i, rfl, hi⟩ := (show Tk H _ (rowD (g.2.map Int.ofNat)) from h2).row_inv
      exact ⟨a, i, rfl, ha, hi⟩
theorem TkAll.at {H : Hp} {α : Type} {f : α → PyData} {xs : List V} {ds : List α} (t : TkAll H xs (ds.map f)) {j : Nat} {v : V} (h : xs[j]? = some v) : ∃ x, ds[j]? = some x ∧ Tk H v (f x) := by
  obtain ⟨dx, hdx, tx⟩ := t.get h
  rw [List.getElem?_map] at hdx
  cases hz : ds[j]? with
  | none => rw [hz] at hdx; cases hdx
  | some x =>
    rw [hz] at hdx
    cases Option.some.inj hdx
    exact ⟨x, rfl, tx⟩
theorem TkAll.at' {H : Hp} {α : Type} {f : α → PyData} {xs : List V} {ds : List α} (t : TkAll H xs (ds.map f)) {j : Nat} {x : α} (h : ds[j]? = some x) : ∃ v, xs[j]? = some v ∧ Tk H v (f x) := by
  have hl := t.length
  rw [List.length_map] at hl
  have hj := (List.getElem?_eq_some_iff.mp h).1
  obtain ⟨y, hy, ty⟩ := t.at (List.getElem?_eq_getElem (l := xs) (i := j) (by omega))
  cases Option.some.inj (h.symm.trans hy)
  exact ⟨_, List.getElem?_eq_getElem _, ty⟩
theorem grow_upd {H H' : Hp} {p : Addr} {o : HO} (g : Gr H H') (n : H' p = none) : Gr H (upd H' p o) := g.trans (Gr.none n)
/-- no table, no older list: only the list at D is written -/
def GrD (D : Addr) (H H' : Hp) : Prop := Gr H (hd1 D H')
theorem GrD.gr {D : Addr} {H H' : Hp} (g : GrD D H H') : Gr H H' := g.trans (Gr.of hd1_le)
theorem TabG_hd1 {D P : Addr} {H : Hp} (h : GxR.TabG H P) (n : D ≠ P) : GxR.TabG (hd1 D H) P := by
  obtain ⟨ps, e, t⟩ := h
  exact ⟨ps, by rw [hd1_at (Ne.symm n)]; exact e, t⟩
theorem GrD.new {D : Addr} {H : Hp} {o : HO} (n : H D = none) : GrD D H (upd H D o) := Gr.of (hd1_of (same_upd n) n)
theorem hd1_gr {D : Addr} {H H' : Hp} (g : Gr H H') (hD : ∀ P, GxR.TabG H P → D ≠ P) : Gr (hd1 D H) (hd1 D H') := by
  refine ⟨fun b o n e => ?_, fun b t => ?_⟩
  · have hb : b ≠ D := fun z => by
      unfold hd1 at e
      rw [if_pos z] at e; cases e
    rw [hd1_at hb] at e ⊢
    exact g.1 b o n e
  · obtain ⟨ps, e, t⟩ := t
    have e' := hd1_le _ _ e
    exact TabG_hd1 (g.2 b ⟨ps, e', t⟩) (hD b ⟨ps, e', t⟩)
theorem GrD.then {D : Addr} {H H1 H2 : Hp} {xs : List V} (a : GrD D H H1) (hD : H1 D = some (.lst xs)) (b : Gr H1 H2) : GrD D H H2 := a.trans (hd1_gr b fun P ⟨ps, e, _⟩ z => by
  rw [← z, hD] at e
  cases e)
theorem GrD.set {D : Addr} {H H1 : Hp} {o : HO} (a : GrD D H H1) : GrD D H (upd H1 D o) := a.trans (Gr.of hd1_upd)

end Gk

set_option Elab.async false
set_option linter.all false
set_option maxRecDepth 100000
set_option maxHeartbeats 1000000
set_option pp.maxSteps 1500
set_option pp.deepTerms false
namespace Gk
open PySem PySem.Spec PyProof.Rows L2
/-! ### data of tuples alone: no list that is written can harm it -/
mutual
def noL : PyData → Bool
  | .list _ => false
  | .tuple ds => noLs ds
  | _ => true
def noLs : List PyData → Bool
  | [] => true
  | d :: r => noL d && noLs r
end
def Ts (H H' : Hp) : Prop := ∀ b xs, H b = some (HO.tup xs) → H' b = some (.tup xs)
theorem Ts.refl {H : Hp} : Ts H H := fun _ _ e => e
theorem Ts.trans {H H1 H2 : Hp} (a : Ts H H1) (b : Ts H1 H2) : Ts H H2 := fun c xs e => b c xs (a c xs e)
theorem Ts.same {H H' : Hp} (s : Same H H') : Ts H H' := fun b xs e => s _ _ e
theorem Ts.gr {H H' : Hp} (s : Gr H H') : Ts H H' := fun b xs e => s.tup e
theorem Ts.new {H : Hp} {p : Addr} {o : HO} (h : H p = none) : Ts H (upd H p o) := Ts.same (same_upd h)
theorem Ts.set {H : Hp} {p : Addr} {xs ys : List V} (h : H p = some (.lst xs)) : Ts H (upd H p (.lst ys)) := fun b zs e => by
  rw [upd_ne (ne_of e h (by intro z; cases z))]
  exact e
mutual
theorem Tk.ts {H H' : Hp} (s : Ts H H') : ∀ {v : V} {d : PyData}, Tk H v d → noL d = true → Tk H' v d
  | _, _, .bl b, _ => .bl b
  | _, _, .int i, _ => .int i
  | _, _, .str x, _ => .str x
  | _, _, .lst h t, n => by cases n
  | _, _, .tup h t, n => .tup (s _ _ h) (t.ts s n)
theorem TkAll.ts {H H' : Hp} (s : Ts H H') : ∀ {vs : List V} {ds : List PyData}, TkAll H vs ds → noLs ds = true → TkAll H' vs ds
  | _, _, .nil, _ => .nil
  | _, _, .cons (d := d) (ds := ds) h t, n => by
    have n' : noL d = true ∧ noLs ds = true := Bool.and_eq_true_iff.mp n
    exact .cons (h.ts s n'.1) (t.ts s n'.2)
end
theorem noLs_map {α : Type} {f : α → PyData} (h : ∀ x, noL (f x) = true) : ∀ l : List α, noLs (l.map f) = true
  | [] => rfl
  | x :: r => by
    show (noL (f x) && noLs (r.map f)) = true
    rw [h x, noLs_map h r]
    rfl
theorem noL_row (r : List Int) : noL (rowD r) = true := noLs_map (fun _ => rfl) r
theorem noL_gate (g : Gt) : noL (gD g) = true := by
  show (true && (noLs ((g.2.map Int.ofNat).map PyData.int) && true)) = true
  rw [noLs_map (fun _ => rfl)]
  rfl
theorem noL_gates (gs : List Gt) : noLs (gs.map gD) = true := noLs_map noL_gate gs
theorem noL_net (m : Int) (gs : List Gt) : noL (netD m gs) = true := by
  show (true && (noLs (gs.map gD) && true)) = true
  rw [noL_gates]
  rfl
theorem noL_ch (a b : List Int) : noL (chD a b) = true := by
  show (noL (rowD a) && (noL (rowD b) && true)) = true
  rw [noL_row, noL_row]
  rfl

/-! ### slices and sums of tuples: what is told stands in a heap that has grown -/
theorem cut_all {xs : List V} {lo hi : Option Int} (h : HT.sIx xs.length 0 lo = 0 ∧ HT.sIx xs.length xs.length hi = xs.length) : cutV xs lo hi = xs := by
  unfold cutV
  rw [h.1, h.2, List.drop_zero, Nat.sub_zero, List.take_length]
theorem same_refl {H : Hp} : Same H H := fun _ _ e => e
theorem slA {K : PySem.W.Frag} {a : Addr} {xs : List V} {lo hi : Option Int} {H : Hp} {Q : VK} (h : H a = some (.tup xs)) (q : ∀ p H', Same H H' → H' p = some (.tup (cutV xs lo hi)) → Q (.ref p) H') : rSlA K (.ref a) lo hi H Q :=
  ⟨a, xs, rfl, SqT.of h, fun w => q a H same_refl (by rw [cut_all w]; exact h), fun _ p np => q p _ (same_upd np) upd_same⟩
theorem slAn {K : PySem.W.Frag} {a : Addr} {xs : List V} {lo : Option Int} {H : Hp} {Q : VK} {σ : L2.St} (h : H a = some (.tup xs)) (q : ∀ p H', Same H H' → H' p = some (.tup (cutV xs lo none)) → Q (.ref p) H') : tNoPart σ H (fun u H3 => rSlA K (.ref a) lo u H3 Q) := slA h q
theorem catA {K : PySem.W.Frag} {a b : Addr} {xs ys : List V} {H : Hp} {Q : VK} (ha : H a = some (.tup xs)) (hb : H b = some (.tup ys)) (hl : xs.length + ys.length ≤ sizeLine) (q : ∀ p H', Same H H' → H' p = some (.tup (xs ++ ys)) → Q (.ref p) H') : rCatA K (.ref a) (.ref b) H Q :=
  ⟨a, b, xs, ys, rfl, rfl, SqT.of ha, SqT.of hb, hl, fun e => q b H same_refl (by rw [e]; exact hb), fun _ e => q a H same_refl (by rw [e, List.append_nil]; exact ha), fun _ _ p np => q p _ (same_upd np) upd_same⟩
theorem cut_to {xs : List V} {k : Nat} : cutV xs none (some (k : Int)) = xs.take k := by
  unfold cutV
  rw [HT.sIx_none, HT.sIx_nat, List.drop_zero, Nat.sub_zero]
  apply List.ext_getElem?
  intro i
  rw [List.getElem?_take, List.getElem?_take]
  by_cases h : i < k
  · rw [if_pos h]
    by_cases h2 : i < xs.length
    · rw [if_pos (by omega)]
    · rw [List.getElem?_eq_none (by omega)]
      split <;> rfl
  · rw [if_neg h, if_neg (by omega)]
theorem cut_from {xs : List V} {k : Nat} : cutV xs (some (k : Int)) none = xs.drop k := by
  unfold cutV
  rw [HT.sIx_none, HT.sIx_nat]
  by_cases h : k ≤ xs.length
  · rw [Nat.min_eq_left h]
    exact List.take_of_length_le (by rw [List.length_drop]; exact Nat.le_refl _)
  · rw [Nat.min_eq_right (by omega), Nat.sub_self, List.take_zero, List.drop_eq_nil_of_le (by omega)]
theorem TkAll.take {H : Hp} : ∀ {xs : List V} {ds : List PyData} (k : Nat), TkAll H xs ds → TkAll H (xs.take k) (ds.take k)
  | _, _, 0, _ => by rw [List.take_zero, List.take_zero]; exact .nil
  | _, _, _ + 1, .nil => .nil
  | _, _, k + 1, .cons a t => .cons a (t.take k)
theorem TkAll.drop {H : Hp} : ∀ {xs : List V} {ds : List PyData} (k : Nat), TkAll H xs ds → TkAll H (xs.drop k) (ds.drop k)
  | _, _, 0, t => t
  | _, _, _ + 1, .nil => .nil
  | _, _, k + 1, .cons _ t => t.drop k
theorem set_put {α : Type} {l : List α} {i : Nat} {x : α} (h : i < l.length) : (l.take i ++ [x]) ++ l.drop (i + 1) = l.set i x := by
  rw [List.set_eq_take_append_cons_drop, if_pos h, List.append_assoc]
  rfl
def rJoinK (K : PySem.W.Frag) : V → List V → Hp → VK → Prop := fun x xs H Q => ∃ a p, ∃ ys : List Str, x = .str a ∧ xs = [.ref p] ∧ (SqL K H p (ys.map V.str) ∨ SqT K H p (ys.map V.str)) ∧ (ys.map (·.length)).sum + ys.length * a.length ≤ 16777216 ∧ Q (.str (Txt.join a ys)) H

/-! ### walks over texts -/
theorem lc_str {z : Str} {g : TG} {tt : TT} {te : TE} {vs : List Nat} {σ : L2.St} {H1 : Hp} {D : Addr} {Qd : Hp → Prop} (Pv : Nat → Hp → Prop) (h0 : Pv 0 (upd H1 D (.lst [])))
    (hs : ∀ i x H, z.cps[i]? = some x → Pv i H → g (.str ⟨#[x]⟩) (wipe σ vs) H fun σ2 H2 => wipe σ2 vs = wipe σ vs ∧ tt σ2 H2 fun b H3 =>
      if b = true then te σ2 H3 fun y H4 => ∃ acc, H4 D = some (.lst acc) ∧ acc.length < sizeLine ∧ Pv (i + 1) (upd H4 D (.lst (acc ++ [y]))) else Pv (i + 1) H3) (hd : ∀ H, Pv z.cps.size H → Qd H) :
    ∃ W : Nat → Nat → Hp → Prop, (∃ m, W 0 m (upd H1 D (.lst []))) ∧ ∀ i m H, W i m H →
      ((Its z).stop i H ∧ Qd H) ∨ ((Its z).go i H ∧ ∃ Nx : Hp → Prop, (∀ H', Nx H' → ∃ m', m' < m ∧ W (i + 1) m' H') ∧ ∀ x H', (Its z).yld i H x H' → g x (wipe σ vs) H' fun σ2 H2 => wipe σ2 vs = wipe σ vs ∧ tt σ2 H2 fun b H3 =>
        if b = true then te σ2 H3 fun y H4 => ∃ acc, H4 D = some (.lst acc) ∧ acc.length < sizeLine ∧ Nx (upd H4 D (.lst (acc ++ [y]))) else Nx H3) := by
  refine ⟨fun i m H => m = z.cps.size - i ∧ i ≤ z.cps.size ∧ Pv i H, ⟨z.cps.size, by simp, Nat.zero_le _, h0⟩, ?_⟩
  rintro i m H ⟨rfl, hi, p⟩
  by_cases hlt : i < z.cps.size
  · refine .inr ⟨hlt, Pv (i + 1), fun H' p' => ⟨z.cps.size - (i + 1), by omega, rfl, hlt, p'⟩, fun x H' y => ?_⟩
    obtain ⟨rfl, ch, hc, rfl⟩ := y
    exact hs i ch _ hc p
  · have e : i = z.cps.size := by omega
    subst e
    exact .inl ⟨Nat.le_refl _, hd H p⟩
theorem for_str {z : Str} {g : TG} {tb : TS} {D : Ends} {σ : L2.St} {H : Hp} (Pv : Nat → L2.St → Hp → Prop) (h0 : Pv 0 σ H)
    (hs : ∀ i x σ H, z.cps[i]? = some x → Pv i σ H → g (.str ⟨#[x]⟩) σ H fun σ2 H2 => tb { D with nx := Pv (i + 1), ct := Pv (i + 1), bk := D.nx } σ2 H2) (hd : ∀ σ H, Pv z.cps.size σ H → D.nx σ H) :
    ∃ W : Nat → Nat → L2.St → Hp → Prop, (∃ m, W 0 m σ H) ∧ ∀ i m σ H, W i m σ H →
      ((Its z).stop i H ∧ D.nx σ H) ∨ ((Its z).go i H ∧ ∃ N : L2.St → Hp → Prop, (∀ σ' H', N σ' H' → ∃ m', m' < m ∧ W (i + 1) m' σ' H') ∧ ∀ x H', (Its z).yld i H x H' → g x σ H' fun σ2 H2 => tb { D with nx := N, ct := N, bk := D.nx } σ2 H2) := by
  refine ⟨fun i m σ H => m = z.cps.size - i ∧ i ≤ z.cps.size ∧ Pv i σ H, ⟨z.cps.size, by simp, Nat.zero_le _, h0⟩, ?_⟩
  rintro i m σ H ⟨rfl, hi, p⟩
  by_cases hlt : i < z.cps.size
  · refine .inr ⟨hlt, Pv (i + 1), fun σ' H' p' => ⟨z.cps.size - (i + 1), by omega, rfl, hlt, p'⟩, fun x H' y => ?_⟩
    obtain ⟨rfl, ch, hc, rfl⟩ := y
    exact hs i ch σ _ hc p
  · have e : i = z.cps.size := by omega
    subst e
    exact .inl ⟨Nat.le_refl _, hd σ H p⟩
theorem S_at {p : List Nat} {i x : Nat} (h : (SX.S p).cps[i]? = some x) : p[i]? = some x := by
  have : (SX.S p).cps = p.toArray := rfl
  rw [this, List.getElem?_toArray] at h
  exact h
theorem S_size (p : List Nat) : (SX.S p).cps.size = p.length := by
  show p.toArray.size = _
  simp

section
variable {P : Program} {w : World} {K : PySem.W.Frag} {mg : Str → Option Value} {base : Heap}
/-! ### the deck of k42 to k49: a dict with cells, a seed, a count -/
def kC : Key := .inr (Str.ofString "cells")
def kS : Key := .inr (Str.ofString "seed")
def kN : Key := .inr (Str.ofString "count")
def GO (l : Addr) (y z : Int) : HO := .dK [(kC, .ref l), (kS, .int y), (kN, .int z)]
def DeckG (H : Hp) (d l : Addr) (n : Int) : Prop := d ≠ l ∧ ∃ (cs : List Int) (y z : Int), H d = some (GO l y z) ∧ H l = some (.lst (cs.map V.int)) ∧ cs.length ≤ 63 ∧ 0 ≤ z ∧ z ≤ n
theorem DeckG.mono {H : Hp} {d l : Addr} {n m : Int} (D : DeckG H d l n) (h : n ≤ m) : DeckG H d l m := by
  obtain ⟨ne, cs, y, z, h1, h2, h3, h4, h5⟩ := D
  exact ⟨ne, cs, y, z, h1, h2, h3, h4, Int.le_trans h5 h⟩
theorem DeckG.same {H H' : Hp} {d l : Addr} {n : Int} (D : DeckG H d l n) (s : Same H H') : DeckG H' d l n := by
  obtain ⟨ne, cs, y, z, hd, hl, r⟩ := D
  exact ⟨ne, cs, y, z, s _ _ hd, s _ _ hl, r⟩
theorem DeckG.gr {H H' : Hp} {d l : Addr} {n : Int} (D : DeckG H d l n) (s : Gr H H') : DeckG H' d l n := by
  obtain ⟨ne, cs, y, z, hd, hl, r⟩ := D
  exact ⟨ne, cs, y, z, s.1 d _ (fun _ z => by cases z) hd, s.lst hl, r⟩
theorem DeckG.upd {H : Hp} {d l p : Addr} {n : Int} {o : HO} (D : DeckG H d l n) (h1 : p ≠ d) (h2 : p ≠ l) : DeckG (upd H p o) d l n := by
  obtain ⟨ne, cs, y, z, hd, hl, r⟩ := D
  exact ⟨ne, cs, y, z, by rw [upd_ne h1.symm]; exact hd, by rw [upd_ne h2.symm]; exact hl, r⟩
theorem DeckG.off {H : Hp} {d l p : Addr} {n : Int} (D : DeckG H d l n) (h : H p = none) : p ≠ d ∧ p ≠ l := by
  obtain ⟨ne, cs, y, z, hd, hl, r⟩ := D
  exact ⟨(ne_of_none hd h).symm, (ne_of_none hl h).symm⟩
theorem dgC {H : Hp} {d l : Addr} {y z : Int} (h : H d = some (GO l y z)) : DGet H d (.str (Str.ofString "cells")) (some (.ref l)) := DGet.k (k := kC) h
theorem dgS {H : Hp} {d l : Addr} {y z : Int} (h : H d = some (GO l y z)) : DGet H d (.str (Str.ofString "seed")) (some (.int y)) := DGet.k (k := kS) h
theorem dgN {H : Hp} {d l : Addr} {y z : Int} (h : H d = some (GO l y z)) : DGet H d (.str (Str.ofString "count")) (some (.int z)) := DGet.k (k := kN) h
theorem dpS {H : Hp} {d l : Addr} {y z : Int} (v : Int) (h : H d = some (GO l y z)) : DPut H d (.str (Str.ofString "seed")) (.int v) (upd H d (GO l v z)) := DPut.k (k := kS) h (by show 3 < sizeLine; decide)
theorem dpN {H : Hp} {d l : Addr} {y z : Int} (v : Int) (h : H d = some (GO l y z)) : DPut H d (.str (Str.ofString "count")) (.int v) (upd H d (GO l y v)) := DPut.k (k := kN) h (by show 3 < sizeLine; decide)
theorem cut63 {ns : List Int} (h : ns.length ≤ 63) : cutV (ns.map V.int) none (some 63) = ns.map V.int := by
  unfold cutV
  have e : HT.sIx (ns.map V.int).length (ns.map V.int).length (some 63) = min 63 (ns.map V.int).length := HT.sIx_nat _ _ 63
  rw [HT.sIx_none, e, List.length_map, List.drop_zero]
  apply List.take_of_length_le
  rw [List.length_map]
  omega
theorem sq_same {K : PySem.W.Frag} {H H' : Hp} {a : Addr} {xs : List V} (s : Same H H') (h : SqL K H a xs) : SqL K H' a xs := h.imp (fun r => r.imp (fun e => s _ _ e) (fun ⟨ob, e⟩ => ⟨ob, s _ _ e⟩)) id
theorem at_hd {c : Int} {r : List Int} : atI ((c :: r).map V.int) 0 = some (.int c) := by
  show atI _ ((0 : Nat) : Int) = _
  exact atI_nat rfl
def sp_deck (K : PySem.W.Frag) : Sp := fun vs H Q _ => ∃ (a : Addr) (ns : List Int), vs = [.ref a] ∧ SqL K H a (ns.map V.int) ∧ ns.length ≤ 63 ∧ ∀ H' d l, Same H H' → DeckG H' d l 0 → Q (.ref d) H'
theorem ok_deck (T : Tx K mg) : FnOk P w K mg base CX0 1 T.f_deck T.fd_deck ["_law_script"] (sp_deck K) := by
  refine T.F_deck.ok sc_deck (fun vs H Q E h => ?_) (fun cdv A outer s H vs Q E hr h => ?_)
  · obtain ⟨a, ns, rfl, _⟩ := h
    rfl
  · obtain ⟨a, ns, rfl, hS, hlen, q⟩ := h
    refine ⟨_, (pss_one (ps_ret (pe_disp (pps_cons pe_str (pe_callTy call_list_of (by rfl) T.m_list (by decide +kernel) (pa_cons (pe_slice sl_list (pv 0) po_none (po_some pe_int)) pa_nil)) (pps_cons pe_str (pe_op op_add (pe_op op_mod (pe_callB (cr_sum rfl) (by rfl) T.m_sum (by decide +kernel) (pa_cons (pv 0) pa_nil)) pe_int) pe_int) (pps_cons pe_str pe_int pps_nil))) (by rfl) (by rfl) (fun z => by cases z) (by decide)))), ?_⟩
    refine fun d nd => ?_
    have s1 := same_upd (o := (HO.dK [])) nd
    have h1 : upd H d (HO.dK []) d = some (HO.dK []) := upd_same
    generalize upd H d (HO.dK []) = H1 at s1 h1 ⊢
    refine ⟨.ref a, rfl, 63, rfl, a, _, rfl, sq_same s1 hS, fun c1 n1 => ?_⟩
    rw [cut63 hlen]
    have s2 := same_upd (o := (HO.lst (ns.map V.int))) n1
    have h2 : upd H1 c1 (HO.lst (ns.map V.int)) c1 = some (HO.lst (ns.map V.int)) := upd_same
    generalize upd H1 c1 (HO.lst (ns.map V.int)) = H2 at s2 h2 ⊢
    refine ⟨c1, _, rfl, .inl (SqL.of h2), fun l nl => ?_⟩
    have s3 := same_upd (o := (HO.lst (ns.map V.int))) nl
    have h3 : upd H2 l (HO.lst (ns.map V.int)) l = some (HO.lst (ns.map V.int)) := upd_same
    generalize upd H2 l (HO.lst (ns.map V.int)) = H3 at s3 h3 ⊢
    have s13 := s2.trans s3
    refine ⟨.ref a, rfl, a, ns, rfl, sq_same (s1.trans s13) hS, _, _, rfl, rfl, (show (0 : Int) < 2147483629 by decide), _, _, rfl, rfl, ?_⟩
    have hd3 := s13 _ _ h1
    refine ⟨hd3, [(kC, .ref l), (kS, _), (kN, .int 0)], rfl, (show 3 ≤ 15 by decide), ?_⟩
    have em : ∀ v1 v2 v3 : V, mergeK [] [(kC, v1), (kS, v2), (kN, v3)] = [(kC, v1), (kS, v2), (kN, v3)] := fun v1 v2 v3 => rfl
    rw [em]
    have ndl : l ≠ d := (ne_of_none (s2 _ _ h1) nl).symm
    refine q _ d l (fun b o e => ?_) ⟨ndl.symm, ns, _, 0, upd_same, by rw [upd_ne ndl]; exact h3, hlen, Int.le_refl _, Int.le_refl _⟩
    rw [upd_ne (ne_of_none e nd)]
    exact s13 _ _ (s1 _ _ e)
/-! ### the next number -/
def sp_next (K : PySem.W.Frag) : Sp := fun vs H Q _ => ∃ (d l : Addr) (m n : Int), vs = [.ref d, .int m] ∧ DeckG H d l n ∧ n < 1000000000 ∧ 0 < m ∧ m < 1073741824 ∧ ∀ H' v, DeckG H' d l (n + 1) → Fr d l H H' → 0 ≤ v → v < m → Q (.int v) H'
theorem ok_next (T : Tx K mg) : FnOk P w K mg base CX0 1 T.f_next T.fd_next ["_law_deck_here", "_law_most"] (sp_next K) := by
  refine T.F_next.ok sc_next (fun vs H Q E h => ?_) (fun cdv A outer s H vs Q E hr h => ?_)
  · obtain ⟨d, l, m, n, rfl, _⟩ := h
    rfl
  · obtain ⟨d, l, m, n, rfl, D, hn, hm0, hm1, q⟩ := h
    obtain ⟨ne, cs, y, z, hd, hl, hcs, hz0, hz1⟩ := D
    refine ⟨_, (pss_cons (ps_dput (hu_of hr) (pv 0) pe_str (pe_op op_add (pe_dget (hu_of hr) (pv 0) pe_str (fun _ _ => rfl)) pe_int) rfl) (pss_cons (ps_set (i := 2) sc_next.nd rfl (by first | exact .inl rfl | exact .inr rfl) (pe_dget (hu_of hr) (pv 0) pe_str (fun _ _ => rfl))) (pss_cons (ps_set (i := 3) sc_next.nd rfl (by first | exact .inl rfl | exact .inr rfl) pe_int) (pss_cons (ps_if (pt_cut (pw_and (pt_cmpR (op_neD hr.units) (pv 2) (pe_lst pa_nil) (nomark _)) (pw_and1 (pt_cmpR op_ge (pe_ix ix_list (pv 2) pe_int (fun _ _ => rfl)) (pe_op op_pow pe_int pe_int) (nomark _)))).pt) (pss_cons (ps_set (i := 3) sc_next.nd rfl (by first | exact .inl rfl | exact .inr rfl) (pe_op op_mod (pe_ix ix_list (pv 2) pe_int (fun _ _ => rfl)) (pv 1))) (pss_cons (ps_asg (pe_op op_fdiv (pe_ix ix_list (pv 2) pe_int (fun _ _ => rfl)) (pv 1)) (pg_sub (pv 2) pe_int set_list)) (pss_one (ps_ret (pv 3))))) pss_nil) (C8.pss_cut (ps_if (pt_cmpR (op_neD hr.units) (pv 2) (pe_lst pa_nil) (nomark _)) (pss_one (ps_set (i := 3) sc_next.nd rfl (by first | exact .inl rfl | exact .inr rfl) (pe_bm PySem.F.plainAttrs_list PySem.F.slot_list_pop PySem.F.type_list_pop mt_popAt (pv 2) (pa_cons pe_int pa_nil)))) pss_nil) (pss_cons (ps_set (i := 4) sc_next.nd rfl (by first | exact .inl rfl | exact .inr rfl) (pe_op op_mod (pe_op op_add (pe_op op_add (pe_op op_mul (pe_dget (hu_of hr) (pv 0) pe_str (fun _ _ => rfl)) pe_int) (pe_op op_mul pe_int (pe_dget (hu_of hr) (pv 0) pe_str (fun _ _ => rfl)))) (pv 3)) pe_int)) (pss_cons (ps_dput (hu_of hr) (pv 0) pe_str (pv 4) rfl) (pss_one (ps_ret (pe_op op_mod (pe_op op_fdiv (pe_op op_mod (pe_op op_mul (pv 4) (pe_op op_add (pe_op op_fdiv (pv 4) pe_int) pe_int)) pe_int) pe_int) (pv 1))))))))))), ?_⟩
    refine ⟨.ref d, rfl, d, .int z, rfl, dgN hd, _, _, rfl, rfl, .ref d, rfl, d, _, rfl, dpN (z + 1) hd, ?_⟩
    have hd1 : upd H d (GO l y (z + 1)) d = some (GO l y (z + 1)) := upd_same
    have hl1 : upd H d (GO l y (z + 1)) l = some (.lst (cs.map V.int)) := by rw [upd_ne ne.symm]; exact hl
    have fr1 : Fr d l H (upd H d (GO l y (z + 1))) := Fr.d
    generalize upd H d (GO l y (z + 1)) = H1 at hd1 hl1 fr1 ⊢
    have hz2 : 0 ≤ z + 1 := by omega
    have hz3 : z + 1 ≤ n + 1 := by omega
    have hz4 : z + 1 < 2000000000 := by omega
    revert hz2 hz3 hz4 hd1
    generalize z + 1 = z'
    intro hd1 hz2 hz3 hz4
    refine ⟨.ref d, rfl, d, .ref l, rfl, dgC hd1, ?_⟩
    refine ⟨fun b H' => Same H1 H' ∧ (b = true → cs ≠ []), ?_, ?_⟩
    · refine ⟨.ref l, rfl, Nat.zero_le _, fun p np => ?_⟩
      have s2 := same_upd (o := (HO.lst [])) np
      have h2 : upd H1 p (HO.lst []) p = some (HO.lst []) := upd_same
      generalize upd H1 p (HO.lst []) = H2 at s2 h2 ⊢
      have hl2 := s2 _ _ hl1
      refine ⟨.list (cs.map .int), .list [], .lst (SqL.of hl2) (dpInts cs), .lst (SqL.of h2) .nil, shInts cs, rfl, _, rfl, ?_⟩
      cases cs with
      | nil => exact iteF ⟨s2, fun z => by cases z⟩
      | cons c r =>
        refine iteT ?_
        exact ⟨.ref l, rfl, l, _, 0, .int c, rfl, rfl, SqL.of hl2, at_hd, _, _, rfl, rfl, ⟨by decide, by decide, by decide⟩, _, _, rfl, rfl, _, rfl, s2, fun _ => List.cons_ne_nil _ _⟩
    rintro b H2 ⟨s2, hb⟩
    have hd2 := s2 _ _ hd1
    have hl2 := s2 _ _ hl1
    have fr2 : Fr d l H H2 := fr1.trans (Fr.of s2)
    refine ite2 (fun e => ?_) (fun e => ?_)
    · have hne := hb e
      cases cs with
      | nil => exact absurd rfl hne
      | cons c r =>
        refine ⟨.ref l, rfl, l, _, 0, .int c, rfl, rfl, SqL.of hl2, at_hd, .int m, rfl, _, _, rfl, rfl, hm0, ?_⟩
        refine ⟨.ref l, rfl, l, _, 0, .int c, rfl, rfl, SqL.of hl2, at_hd, .int m, rfl, _, _, rfl, rfl, (⟨hm0, hm1⟩ : 0 < m ∧ m < 1073741824), .ref l, rfl, l, _, 0, 0, rfl, rfl, hl2, by unfold ixN; rw [if_pos (by decide), List.length_map, if_pos (by rw [List.length_cons]; omega)]; rfl, ?_⟩
        refine ⟨.int (c % m), rfl, ?_⟩
        exact q _ _ ⟨ne, (c / m) :: r, y, z', by rw [upd_ne ne]; exact hd2, upd_same, hcs, hz2, hz3⟩ (fr2.trans Fr.l) (Int.emod_nonneg _ (by omega)) (Int.emod_lt_of_pos _ hm0)
    · refine ⟨fun σ H' => ∃ (c : Int) (cs' : List Int), σ = [some (.ref d), some (.int m), some (.ref l), some (.int c), none] ∧ H' d = some (GO l y z') ∧ H' l = some (.lst (cs'.map V.int)) ∧ cs'.length ≤ 63 ∧ Fr d l H H', ?_, ?_⟩
      · refine ⟨.ref l, rfl, Nat.zero_le _, fun p np => ?_⟩
        have s3 := same_upd (o := (HO.lst [])) np
        have h3 : upd H2 p (HO.lst []) p = some (HO.lst []) := upd_same
        generalize upd H2 p (HO.lst []) = H3 at s3 h3 ⊢
        have hl3 := s3 _ _ hl2
        have hd3 := s3 _ _ hd2
        refine ⟨.list (cs.map .int), .list [], .lst (SqL.of hl3) (dpInts cs), .lst (SqL.of h3) .nil, shInts cs, rfl, _, rfl, ?_⟩
        have fr3 := fr2.trans (Fr.of (d := d) (l := l) s3)
        cases cs with
        | nil => exact iteF ⟨0, [], rfl, hd3, hl3, hcs, fr3⟩
        | cons c r =>
          refine iteT ?_
          refine ⟨.ref l, rfl, .inl ⟨rfl, _, SqL.of hl3⟩, l, _, 0, 0, .int c, rfl, rfl, hl3, by decide, by decide, seqIx0 _ _, rfl, ?_⟩
          exact ⟨c, r, rfl, by rw [upd_ne ne]; exact hd3, upd_same, by simp at hcs; omega, fr3.trans Fr.l⟩
      · rintro σ H3 ⟨c, cs', rfl, hd3, hl3, hc3, fr3⟩
        have p87 : (0 : Int) < 2147483587 := by decide
        have p63 : (0 : Int) < 2147483563 := by decide
        refine ⟨.ref d, rfl, d, .int y, rfl, dgS hd3, _, _, rfl, rfl, .inr ⟨by decide, by decide⟩, .ref d, rfl, d, .int z', rfl, dgN hd3, _, _, rfl, rfl, .inl ⟨by decide, by decide⟩, _, _, rfl, rfl, .int c, rfl, _, _, rfl, rfl, _, _, rfl, rfl, p87, ?_⟩
        dsimp only
        have v0 := Int.emod_nonneg (y * 48271 + 69621 * z' + c) (show (2147483587 : Int) ≠ 0 by decide)
        have v1 := Int.emod_lt_of_pos (y * 48271 + 69621 * z' + c) (show (0 : Int) < 2147483587 by decide)
        revert v0 v1
        generalize (y * 48271 + 69621 * z' + c) % 2147483587 = v
        intro v0 v1
        refine ⟨.int v, rfl, .ref d, rfl, d, _, rfl, dpS v hd3, ?_⟩
        refine ⟨.int v, rfl, .int v, rfl, _, _, rfl, rfl, (⟨by decide, by decide⟩ : (0 : Int) < 7 ∧ (7 : Int) < 1073741824), _, _, rfl, rfl, _, _, rfl, rfl, .inl ⟨by omega, by omega⟩, _, _, rfl, rfl, p63, _, _, rfl, rfl, (⟨by decide, by decide⟩ : (0 : Int) < 64 ∧ (64 : Int) < 1073741824), .int m, rfl, _, _, rfl, rfl, hm0, ?_⟩
        exact q _ _ ⟨ne, cs', v, z', upd_same, by rw [upd_ne ne.symm]; exact hl3, hc3, hz2, hz3⟩ (fr3.trans Fr.d) (Int.emod_nonneg _ (by omega)) (Int.emod_lt_of_pos _ hm0)

end
end Gk

set_option Elab.async false
set_option linter.all false
set_option maxRecDepth 100000
set_option maxHeartbeats 1000000
set_option pp.maxSteps 1500
set_option pp.deepTerms false
namespace Gk
open PySem PySem.Spec PyProof.Rows L2
section
variable {P : Program} {w : World} {K : PySem.W.Frag} {mg : Str → Option Value} {base : Heap}
/-! ### products -/
def one (c : Nat) : Str := SX.S [c]
theorem one_len (c : Nat) : (one c).length = 1 := rfl
theorem joinL_nil : ∀ l : List (List Nat), TL.joinL [] l = l.flatten
  | [] => rfl
  | [p] => by simp [TL.joinL]
  | p :: q :: r => by
    show p ++ ([] ++ TL.joinL [] (q :: r)) = _
    rw [joinL_nil (q :: r)]
    rfl
theorem join_one (cs : List Nat) : Txt.join (Str.ofString "") (cs.map one) = SX.S cs := by
  have e : cs.map one = (cs.map fun c => [c]).map SX.S := by rw [List.map_map]; rfl
  have z : Str.ofString "" = SX.S [] := by decide +kernel
  rw [e, z, SX.join_S, joinL_nil]
  have : (cs.map fun c => [c]).flatten = cs := by
    clear e z
    induction cs with
    | nil => rfl
    | cons b r ih => rw [List.map_cons, List.flatten_cons, ih]; rfl
  rw [this]
theorem ones_sum (cs : List Nat) : ((cs.map one).map (·.length)).sum = cs.length := by
  induction cs with
  | nil => rfl
  | cons b r ih =>
    rw [List.map_cons, List.map_cons, List.sum_cons, ih, List.length_cons, one_len]
    omega
theorem join_fit {cs : List Nat} (h : cs.length ≤ 64) : ((cs.map one).map (·.length)).sum + (cs.map one).length * (Str.ofString "").length ≤ 16777216 := by
  rw [ones_sum]
  show cs.length + (cs.map one).length * 0 ≤ _
  omega
def SgOk (c : Nat) : Prop := c = 45 ∨ c = 48 ∨ c = 49
def ProdOk (m : Nat) (p : List Nat) : Prop := p.length = m ∧ ∀ c ∈ p, SgOk c
theorem dash_S : Str.ofString "-" = one 45 := by decide +kernel
theorem s8_S : Str.ofString "01-01---" = SX.S [48, 49, 45, 48, 49, 45, 45, 45] := by decide +kernel
theorem it8 : ∀ k : Nat, k < 8 → ∃ c, (SX.S [48, 49, 45, 48, 49, 45, 45, 45]).cps[k]? = some c ∧ SgOk c := by
  intro k h
  rcases k with _ | _ | _ | _ | _ | _ | _ | _ | k
  · exact ⟨48, rfl, .inr (.inl rfl)⟩
  · exact ⟨49, rfl, .inr (.inr rfl)⟩
  · exact ⟨45, rfl, .inl rfl⟩
  · exact ⟨48, rfl, .inr (.inl rfl)⟩
  · exact ⟨49, rfl, .inr (.inr rfl)⟩
  · exact ⟨45, rfl, .inl rfl⟩
  · exact ⟨45, rfl, .inl rfl⟩
  · exact ⟨45, rfl, .inl rfl⟩
  · omega
theorem at6 {x : Int} (h0 : 0 ≤ x) (h1 : x < 6) : ∃ v : Int, atI [V.int 6, .int 4, .int 3, .int 8, .int 8, .int 5] x = some (.int v) ∧ 0 < v ∧ v ≤ 8 := by
  obtain ⟨k, rfl⟩ := Int.eq_ofNat_of_zero_le h0
  have hk : k < 6 := by omega
  rcases k with _ | _ | _ | _ | _ | _ | k
  · exact ⟨6, rfl, by decide, by decide⟩
  · exact ⟨4, rfl, by decide, by decide⟩
  · exact ⟨3, rfl, by decide, by decide⟩
  · exact ⟨8, rfl, by decide, by decide⟩
  · exact ⟨8, rfl, by decide, by decide⟩
  · exact ⟨5, rfl, by decide, by decide⟩
  · omega
theorem mul_dash {m : Nat} (h1 : 1 ≤ m) (h6 : m ≤ 6) : Txt.mul (one 45) (m : Int) = SX.S (List.replicate m 45) := by
  rcases m with _ | _ | _ | _ | _ | _ | _ | m
  · omega
  all_goals first | decide +kernel | omega
def wS (b : Int) : Nat := if b = 1 then 49 else 48
theorem str01 {b : Int} (h : b = 0 ∨ b = 1) : (toString b : Str) = one (wS b) := by
  rcases h with rfl | rfl <;> decide +kernel
def rRepS : V → V → Hp → VK → Prop := fun x y H Q => ∃ (z : Str) (n : Int), x = .str z ∧ y = .int n ∧ z.length ≤ 16 ∧ 0 ≤ n ∧ n ≤ 1048576 ∧ Q (.str (Txt.mul z n)) H
theorem op_repS {X : Cx} : OpR X (binaryOp .Mult) rRepS := by
  intro pins s σ H x y v u Q I rx ry h
  obtain ⟨i, j, rfl, rfl, h1, h2, h3, q⟩ := h
  obtain ⟨t, rfl⟩ := rx
  obtain ⟨t', rfl⟩ := ry
  exact SB.mul (mulOk_of 16 1048576 h1 h3 (by omega) (by decide) (by decide)) fun t' tk => ⟨.str _, H, I.tok _, ⟨_, rfl⟩, q⟩

def Row01' (r : List Int) : Prop := ∀ x ∈ r, x = 0 ∨ x = 1
def hall (p q : List Nat) : Bool := (p.zip q).all fun z => decide (z.1 = 45) || decide (z.1 = z.2)
def meetM (p q : List Nat) : Bool := (p.zip q).all fun z => decide (z.1 = 45) || decide (z.2 = 45) || decide (z.1 = z.2)
def rowS (r : List Int) : List Nat := r.map wS
def hrow (p : List Nat) (r : List Int) : Bool := hall p (rowS r)
def cubeM (a b : List Int) : List Nat := (a.zip b).map fun z => if z.1 = z.2 then wS z.1 else 45
theorem S_list (p : List Nat) : (SX.S p).cps.toList.map (fun c => V.str ⟨#[c]⟩) = p.map fun c => V.str (one c) := by
  show (p.toArray.toList).map _ = _
  rw [List.toList_toArray]
  rfl
theorem one_at {p : List Nat} {i : Nat} {x : V} (h : (p.map fun c => V.str (one c))[i]? = some x) : ∃ c, p[i]? = some c ∧ x = V.str (one c) := by
  rw [List.getElem?_map] at h
  cases hz : p[i]? with
  | none => rw [hz] at h; cases h
  | some u => rw [hz] at h; exact ⟨u, rfl, (Option.some.inj h).symm⟩
theorem eqV_one (a b : Nat) : eqV (.str (one a)) (.str (one b)) = decide (a = b) := by
  show (one a == one b) = _
  by_cases z : a = b
  · subst z
    simp
  · rw [decide_eq_false z]
    refine beq_eq_false_iff_ne.mpr fun k => z ?_
    have := SX.S_inj k
    simpa using this
theorem zip_take_succ {α β : Type} {p : List α} {q : List β} {i : Nat} {a : α} {b : β} (h1 : p[i]? = some a) (h2 : q[i]? = some b) : (p.zip q).take (i + 1) = (p.zip q).take i ++ [(a, b)] := by
  rw [List.take_add_one]
  have : (p.zip q)[i]? = some (a, b) := by
    rw [List.getElem?_zip_eq_some]
    exact ⟨h1, h2⟩
  rw [this]
  rfl
theorem all_stop {α : Type} {l : List α} {f : α → Bool} {i : Nat} {a : α} (h : l.take (i + 1) = l.take i ++ [a]) (e : f a = false) : l.all f = false := by
  rw [← List.take_append_drop (i + 1) l, List.all_append, h, List.all_append]
  simp [e]

/-! ### a product drawn -/
theorem s01_S : Str.ofString "01" = SX.S [48, 49] := by decide +kernel
theorem it2 : ∀ k : Nat, k < 2 → ∃ c, (SX.S [48, 49]).cps[k]? = some c ∧ SgOk c := by
  intro k h
  rcases k with _ | _ | k
  · exact ⟨48, rfl, .inr (.inl rfl)⟩
  · exact ⟨49, rfl, .inr (.inr rfl)⟩
  · omega
theorem S_app (a b : List Nat) : SX.S a ++ SX.S b = SX.S (a ++ b) := by
  show (⟨a.toArray ++ b.toArray⟩ : Str) = ⟨(a ++ b).toArray⟩
  congr 1
  simp
def sp_product (K : PySem.W.Frag) : Sp := fun vs H Q _ => ∃ (d l : Addr) (n : Int) (m : Nat), vs = [.ref d, .int m] ∧ DeckG H d l n ∧ n < 900000000 ∧ m ≤ 6 ∧ ∀ (p : List Nat) (H' : Hp), DeckG H' d l (n + 13) → Fr d l H H' → ProdOk m p → Q (.str (SX.S p)) H'
theorem ok_product (T : Tx K mg) : FnOk P w K mg base CX0 2 T.f_product T.fd_product ["_law_deck_here", "_law_many"] (sp_product K) := by
  refine T.F_product.ok sc_product (fun vs H Q E h => ?_) (fun cdv A outer s H vs Q E hr h => ?_)
  · obtain ⟨d, l, n, m, rfl, _⟩ := h
    rfl
  · obtain ⟨d, l, n, m, rfl, D, hn, m6, q⟩ := h
    refine ⟨_, (pss_cons (ps_set (i := 2) sc_product.nd rfl (by first | exact .inl rfl | exact .inr rfl) (pe_call (ok_next T) (hr.mono (by decide)) (by rfl) T.g_next T.F_next.kp T.b_next .nil pass0 (pa_cons (pv 0) (pa_cons pe_int pa_nil)))) (pss_cons (ps_set (i := 3) sc_product.nd rfl (by first | exact .inl rfl | exact .inr rfl) pe_str) (pss_cons (ps_for PassesOwn.never rfl (pi_range1 (by rfl) T.m_range (pa_cons (pv 1) pa_nil)) (pg_name (i := 4) sc_product.nd rfl (by first | exact .inl rfl | exact .inr rfl)) (pss_cons (ps_set (i := 5) sc_product.nd rfl (by first | exact .inl rfl | exact .inr rfl) (pe_item_str pe_str (pe_call (ok_next T) (hr.mono (by decide)) (by rfl) T.g_next T.F_next.kp T.b_next .nil pass0 (pa_cons (pv 0) (pa_cons pe_int pa_nil))) (fun _ _ => rfl))) (pss_one (ps_set (i := 3) sc_product.nd rfl (by first | exact .inl rfl | exact .inr rfl) (pe_op op_add_str (pv 3) (pe_ix ix_list (pe_lst (pa_cons (pv 5) (pa_cons pe_str pa_nil))) (pe_callTy call_int1 (by rfl) T.m_int (by decide +kernel) (pa_cons (pe_cmpR op_lt (pe_call (ok_next T) (hr.mono (by decide)) (by rfl) T.g_next T.F_next.kp T.b_next .nil pass0 (pa_cons (pv 0) (pa_cons pe_int pa_nil))) (pv 2) (nomark _)) pa_nil)) (fun _ _ => rfl))))))) (pss_one (ps_ret (pv 3)))))), ?_⟩
    refine ⟨.ref d, rfl, d, l, 4, _, rfl, D, by omega, by decide, by decide, fun H1 ba D1 fr1 b0 b1 => ?_⟩
    refine ⟨.int m, rfl, (m : Int), rfl, by omega, by omega, ?_⟩
    refine for_range (lo := 0) (n := (m : Int).toNat) (fun i σ H' => ∃ (acc : List Nat) (y4 y5 : Option V), σ = [some (.ref d), some (.int m), some (.int ba), some (.str (SX.S acc)), y4, y5] ∧ DeckG H' d l (n + 1 + 2 * i) ∧ Fr d l H H' ∧ acc.length = i ∧ ∀ c ∈ acc, SgOk c)
      ⟨[], _, _, by rw [show Str.ofString "" = SX.S [] from by decide +kernel]; rfl, D1.mono (by omega), fr1, rfl, fun c hc => by cases hc⟩ ?_ ?_
    · rintro i σ H2 hi ⟨acc, y4, y5, rfl, D2, fr2, la, oka⟩
      have hi' : i < m := by simpa using hi
      refine ⟨.ref d, rfl, d, l, 2, _, rfl, D2, by omega, by decide, by decide, fun H3 v D3 fr3 v0 v1 => ?_⟩
      obtain ⟨c, hc, okc⟩ := it2 v.toNat (by omega)
      refine ⟨Str.ofString "01", v, c, rfl, rfl, v0, by omega, by rw [s01_S, SX.S_len]; show v < 2; omega, by rw [s01_S]; exact hc, ?_⟩
      refine ⟨.str (SX.S acc), rfl, .str ⟨#[c]⟩, rfl, sl2, fun p np => ?_⟩
      have s4 := same_upd (o := (HO.lst [V.str ⟨#[c]⟩, V.str (Str.ofString "-")])) np
      have h4 : upd H3 p (HO.lst [V.str ⟨#[c]⟩, V.str (Str.ofString "-")]) p = some (HO.lst [V.str ⟨#[c]⟩, V.str (Str.ofString "-")]) := upd_same
      generalize upd H3 p (HO.lst [V.str ⟨#[c]⟩, V.str (Str.ofString "-")]) = A1 at s4 h4 ⊢
      have D4 := D3.same s4
      have o4 := D3.off np
      refine ⟨.ref d, rfl, d, l, 4, _, rfl, D4, by omega, by decide, by decide, fun H5 u D5 fr5 u0 u1 => ?_⟩
      have h5 := fr5 _ _ o4.1 o4.2 h4
      have pick : ∃ c' : Nat, SgOk c' ∧ atI [V.str ⟨#[c]⟩, V.str (Str.ofString "-")] (if decide (u < ba) = true then 1 else 0) = some (.str (one c')) := by
        split
        · exact ⟨45, .inl rfl, by rw [dash_S]; rfl⟩
        · exact ⟨c, okc, rfl⟩
      obtain ⟨c', okc', hat⟩ := pick
      refine ⟨.int ba, rfl, _, _, rfl, rfl, .inr ⟨_, rfl, p, _, _, .str (one c'), rfl, rfl, SqL.of h5, hat, ?_⟩⟩
      refine ⟨SX.S acc, one c', rfl, rfl, ?_, ?_⟩
      · rw [SX.S_len]
        show acc.length + 1 ≤ sizeLine
        exact Nat.le_trans (show acc.length + 1 ≤ 64 by omega) (by decide)
      have e1 : SX.S acc ++ one c' = SX.S (acc ++ [c']) := S_app acc [c']
      rw [e1]
      refine ⟨acc ++ [c'], _, _, rfl, D5.mono (by push_cast; omega), ((fr2.trans fr3).trans (Fr.of s4)).trans fr5, by rw [List.length_append, la]; rfl, fun x hx => ?_⟩
      rcases List.mem_append.mp hx with h | h
      · exact oka x h
      · rw [List.mem_singleton.mp h]; exact okc'
    · rintro σ H2 ⟨acc, y4, y5, rfl, D2, fr2, la, oka⟩
      have em : (m : Int).toNat = m := by omega
      rw [em] at la D2
      exact ⟨.str (SX.S acc), rfl, q acc H2 (D2.mono (by omega)) fr2 ⟨la, oka⟩⟩

end
end Gk

set_option Elab.async false
set_option linter.all false
set_option maxRecDepth 100000
set_option maxHeartbeats 1000000
set_option pp.maxSteps 1500
set_option pp.deepTerms false
namespace Gk
open PySem PySem.Spec PyProof.Rows L2
section
variable {P : Program} {w : World} {K : PySem.W.Frag} {mg : Str → Option Value} {base : Heap}
/-! ### products and rows, the law's own -/
theorem eq_nilI (bad : List Int) : PyData.eqv (.list (bad.map .int)) (.list []) = bad.isEmpty := by cases bad <;> rfl
theorem not_in_two (c a : Nat) : (if true = true then !inV (.str (one c)) [V.str (Str.ofString "-"), V.str (one a)] else inV (.str (one c)) [V.str (Str.ofString "-"), V.str (one a)]) = !(decide (c = 45) || decide (c = a)) := by
  show (!(eqV (.str (Str.ofString "-")) (.str (one c)) || (eqV (.str (one a)) (.str (one c)) || false))) = _
  rw [dash_S, eqV_one, eqV_one, Bool.or_false]
  congr 2
  · exact decide_eq_decide.mpr ⟨Eq.symm, Eq.symm⟩
  · exact decide_eq_decide.mpr ⟨Eq.symm, Eq.symm⟩
def sp_holds (K : PySem.W.Frag) : Sp := fun vs H Q _ => ∃ (m : Nat) (p : List Nat) (a : Addr) (r : List Int), vs = [.str (SX.S p), .ref a] ∧ p.length = m ∧ H a = some (.tup (r.map V.int)) ∧ Row01' r ∧ r.length = m ∧ m ≤ 6 ∧ ∀ H', Same H H' → Q (.bl (hrow p r)) H'
theorem ok_holds (T : Tx K mg) : FnOk P w K mg base CX0 1 T.f_holds T.fd_holds ["_law_product_here", "_law_row"] (sp_holds K) := by
  refine T.F_holds.ok sc_holds (fun vs H Q E h => ?_) (fun cdv A outer s H vs Q E hr h => ?_)
  · obtain ⟨m, p, a, r, rfl, _⟩ := h
    rfl
  · obtain ⟨m, p, a, r, rfl, lp, ha, ok, lr, m6, q⟩ := h
    refine ⟨_, (pss_one (ps_ret (pe_cmpR (op_eqD hr.units) (pe_lc (own := [("_law_k", 2)]) (by rfl) sc_holds.nd (pi_range1 (by rfl) T.m_range (pa_cons (pe_callB call_len_seq (by rfl) T.m_len PySem.boot_len (pa_cons (pv 1) pa_nil)) pa_nil)) (blkOk_by (own := [("_law_k", 2)]) (N := ["_law_product_here", "_law_row", "_law_k"]) (sc := defScope s_holds) (by decide +kernel)) (fun _ _ _ _ _ => (pg_name (i := 2) sc_holds.nd rfl (by first | exact .inl rfl | exact .inr rfl))) (fun _ _ _ _ _ => (pts_one (pt_cmpR (show OpR _ _ (rIn K true) from op_notIn_seq) (pe_item_str (pv 0) (pv 2) (fun _ _ => rfl)) (pe_tup (pa_cons pe_str (pa_cons (pe_callTy call_str_int (by rfl) T.m_str (by decide +kernel) (pa_cons (pe_ix (show IxR _ (rIxT K) from ix_tup) (pv 1) (pv 2) (fun _ _ => rfl)) pa_nil)) pa_nil))) rfl))) (fun _ _ _ _ _ => (pv 2))) (pe_lst pa_nil) (nomark _)))), ?_⟩
    refine ⟨.ref a, rfl, a, _, rfl, .inr (SqT.of ha), ?_⟩
    rw [List.length_map, lr]
    refine ⟨(m : Int), rfl, by omega, by omega, fun L nL => ?_⟩
    refine lc_range (lo := 0) (n := (m : Int).toNat) (fun j H' => Same H (hd1 L H') ∧ ∃ bad : List Int, H' L = some (.lst (bad.map V.int)) ∧ bad.length ≤ j ∧ bad.isEmpty = ((p.zip (rowS r)).take j).all fun z => decide (z.1 = 45) || decide (z.1 = z.2)) ⟨hd1_of (same_upd nL) nL, [], upd_same, Nat.le_refl _, rfl⟩ ?_ ?_
    · rintro j H1 hj ⟨s1, bad, hL, lb, ih⟩
      have hj' : j < m := by simpa using hj
      have hc : p[j]? = some (p[j]'(by omega)) := List.getElem?_eq_getElem _
      have hx : r[j]? = some (r[j]'(by omega)) := List.getElem?_eq_getElem _
      revert hc hx
      generalize p[j]'(by omega) = c
      generalize r[j]'(by omega) = x
      intro hc hx
      have x01 := ok x (List.mem_of_getElem? hx)
      have hw : (rowS r)[j]? = some (wS x) := by unfold rowS; rw [List.getElem?_map, hx]; rfl
      have ez := zip_take_succ hc hw
      have hat : atI (r.map V.int) (0 + (j : Int)) = some (.int x) := by rw [Int.zero_add]; exact atI_nat (by rw [List.getElem?_map, hx]; rfl)
      refine ⟨rfl, .str (SX.S p), rfl, .int (0 + (j : Int)), rfl, SX.S p, 0 + (j : Int), c, rfl, rfl, by omega, by omega, by rw [SX.S_len]; omega, ?_, .ref a, rfl, .int (0 + (j : Int)), rfl, a, _, _, .int x, rfl, rfl, SqT.of (hd1_le _ _ (s1 _ _ ha)), hat, x, rfl, by rcases x01 with rfl | rfl <;> decide, sl2, fun t nt => ?_⟩
      · rw [show (0 + (j : Int)).toNat = j by omega]
        show p.toArray[j]? = some c
        rw [List.getElem?_toArray]
        exact hc
      rw [str01 x01]
      have st := same_upd (o := HO.tup [V.str (Str.ofString "-"), V.str (one (wS x))]) nt
      refine ⟨t, _, rfl, .inr (SqT.of upd_same), rfl, rfl, _, rfl, ?_⟩
      have sL := s1.trans (hd1_same (p := L) st)
      have nin := not_in_two c (wS x)
      refine ite2 (fun e => ?_) (fun e => ?_)
      · have e' : (decide (c = 45) || decide (c = wS x)) = false := by
          have := nin.symm.trans e
          simpa using this
        refine ⟨.int (0 + (j : Int)), rfl, _, st _ _ hL, ?_, sL.trans hd1_upd, bad ++ [0 + (j : Int)], by rw [upd_same, List.map_append]; rfl, by rw [List.length_append]; exact Nat.succ_le_succ lb, ?_⟩
        · rw [List.length_map]
          exact Nat.lt_of_lt_of_le (show _ < 64 by omega) (by decide)
        · rw [ez, List.all_append]
          show _ = (_ && ((decide (c = 45) || decide (c = wS x)) && true))
          rw [e', Bool.false_and, Bool.and_false]
          cases bad <;> rfl
      · have e' : (decide (c = 45) || decide (c = wS x)) = true := by
          cases hh : (decide (c = 45) || decide (c = wS x)) with
          | true => rfl
          | false => exact absurd (nin.trans (by rw [hh]; rfl)) e
        refine ⟨sL, bad, st _ _ hL, by omega, ?_⟩
        rw [ez, List.all_append, ih]
        show _ = (_ && ((decide (c = 45) || decide (c = wS x)) && true))
        rw [e']
        simp
    · rintro H1 ⟨s1, bad, hL, lb, ih⟩
      have s1' : Same H H1 := fun b o e => hd1_le _ _ (s1 _ _ e)
      refine ⟨Nat.zero_le _, fun e ne => ?_⟩
      have s2 := same_upd (o := HO.lst []) ne
      refine ⟨.list (bad.map .int), .list [], .lst (SqL.of (s2 _ _ hL)) (dpInts bad), .lst (SqL.of upd_same) .nil, shInts bad, rfl, ?_⟩
      rw [eq_nilI, ih]
      have : (p.zip (rowS r)).length ≤ (m : Int).toNat := by rw [List.length_zip]; omega
      rw [List.take_of_length_le this]
      exact q _ (s1'.trans s2)

end
end Gk

set_option Elab.async false
set_option linter.all false
set_option maxRecDepth 100000
set_option maxHeartbeats 1000000
set_option pp.maxSteps 1500
set_option pp.deepTerms false
namespace Gk
open PySem PySem.Spec PyProof.Rows L2
section
variable {P : Program} {w : World} {K : PySem.W.Frag} {mg : Str → Option Value} {base : Heap}
/-! ### all rows, the law's own -/
def rowsL : Nat → List (List Int)
  | 0 => [[]]
  | k + 1 => (rowsL k).map (· ++ [0]) ++ (rowsL k).map (· ++ [1])
theorem rowsL_len : ∀ k, (rowsL k).length = 2 ^ k
  | 0 => rfl
  | k + 1 => by
    unfold rowsL
    rw [List.length_append, List.length_map, List.length_map, rowsL_len k, Nat.pow_succ]
    omega
theorem rowsL_ok : ∀ k, ∀ r ∈ rowsL k, r.length = k ∧ Row01' r
  | 0, r, h => by
    rw [List.mem_singleton.mp h]
    exact ⟨rfl, fun x hx => by cases hx⟩
  | k + 1, r, h => by
    unfold rowsL at h
    rcases List.mem_append.mp h with h | h
    · obtain ⟨q, hq, rfl⟩ := List.mem_map.mp h
      have ih := rowsL_ok k q hq
      refine ⟨by rw [List.length_append, ih.1]; rfl, fun x hx => ?_⟩
      rcases List.mem_append.mp hx with z | z
      · exact ih.2 x z
      · exact .inl (List.mem_singleton.mp z)
    · obtain ⟨q, hq, rfl⟩ := List.mem_map.mp h
      have ih := rowsL_ok k q hq
      refine ⟨by rw [List.length_append, ih.1]; rfl, fun x hx => ?_⟩
      rcases List.mem_append.mp hx with z | z
      · exact ih.2 x z
      · exact .inr (List.mem_singleton.mp z)
theorem rowD_snoc (r : List Int) (v : Int) : rowD (r ++ [v]) = .tuple (r.map PyData.int ++ [.int v]) := by
  unfold rowD
  rw [List.map_append]
  rfl
/-- the walk that puts one more worth behind each row -/
theorem more_step {H1 : Hp} {D : Addr} {rs : List (List Int)} {cs : List V} {ca : Addr} (v : Int) (hca : H1 ca = some (.lst cs)) (tcs : TkAll H1 cs (rs.map rowD)) (rl : ∀ r ∈ rs, r.length ≤ 8) (rs64 : rs.length ≤ 64) {k : Nat} {x : V} {H2 : Hp} (hx : cs[k]? = some x) (s2 : Same H1 (hd1 D H2)) {acc : List V} (hD : H2 D = some (.lst acc)) (ta : TkAll (hd1 D H2) acc ((rs.take k).map fun r => rowD (r ++ [v]))) (Q : VK)
    (q : ∀ (p : Addr) (H4 : Hp), H4 D = some (.lst acc) → Same H1 (hd1 D (upd H4 D (.lst (acc ++ [.ref p])))) → TkAll (hd1 D (upd H4 D (.lst (acc ++ [.ref p])))) (acc ++ [.ref p]) ((rs.take (k + 1)).map fun r => rowD (r ++ [v])) → Q (.ref p) H4) :
    ∀ t, H2 t = none → rCatA K x (.ref t) (upd H2 t (.tup [.int v])) Q := by
  intro t nt
  obtain ⟨r, hr, tx⟩ := tcs.at hx
  obtain ⟨xa, rfl, hxa⟩ := Tk.row_inv tx
  have rl' := rl r (List.mem_of_getElem? hr)
  have st := same_upd (o := HO.tup [V.int v]) nt
  have ntD : t ≠ D := (ne_of_none hD nt).symm
  have sD := hd1_same (p := D) st
  refine catA (st _ _ (hd1_le _ _ (s2 _ _ hxa))) upd_same ?_ fun p H4 s4 h4 => ?_
  · rw [List.length_map]
    exact Nat.le_trans (show _ ≤ 64 by simp only [List.length_cons, List.length_nil]; omega) (by decide)
  have hD4 := s4 _ _ (st _ _ hD)
  have npD : p ≠ D := ne_of h4 hD4 (by intro z; cases z)
  have s4D := hd1_same (p := D) s4
  refine q p H4 hD4 (((s2.trans sD).trans s4D).trans hd1_upd) ?_
  rw [List.take_add_one, hr]
  show TkAll _ _ ((rs.take k ++ [r]).map _)
  rw [List.map_append]
  refine (((ta.same sD).same s4D).same hd1_upd).append (.cons ?_ .nil)
  show Tk _ _ (rowD (r ++ [v]))
  rw [rowD_snoc]
  refine .tup (xs := r.map V.int ++ [.int v]) ?_ ((TkAll.ints _).append (.cons (.int _) .nil))
  rw [hd1_at npD, upd_ne npD]
  exact h4

def adjR : List (List Int) → Bool
  | x :: y :: r => !HT.lexLt y x && adjR (y :: r)
  | _ => true
theorem adjR_srt : ∀ l : List (List Int), adjR l = true → l.Pairwise fun x y => HT.lexLt y x = false
  | [], _ => List.Pairwise.nil
  | [x], _ => List.pairwise_singleton _ _
  | x :: y :: r, h => by
    have h : (!HT.lexLt y x && adjR (y :: r)) = true := h
    rw [Bool.and_eq_true] at h
    have t := adjR_srt (y :: r) h.2
    have hx : HT.lexLt y x = false := by simpa using h.1
    refine List.pairwise_cons.mpr ⟨fun z hz => ?_, t⟩
    rcases List.mem_cons.mp hz with rfl | hz
    · exact hx
    · exact SrtTT.lex_tr _ _ _ hx ((List.pairwise_cons.mp t).1 z hz)

theorem vint_injX : ∀ {a b : List Int}, a.map V.int = b.map V.int → a = b
  | [], [], _ => rfl
  | [], _ :: _, h => by cases h
  | _ :: _, [], h => by cases h
  | x :: r, y :: t, h => by
    have h := List.cons.inj h
    have e : x = y := by injection h.1
    rw [e, vint_injX h.2]
theorem row_uniq {H : Hp} {v : V} {p q : List Int} (h : Tk H v (rowD p)) (h' : Tk H v (rowD q)) : p = q := by
  obtain ⟨a, rfl, ha⟩ := h.row_inv
  obtain ⟨a', e, ha'⟩ := h'.row_inv
  cases e
  rw [ha] at ha'
  have e1 : p.map V.int = q.map V.int := by injection ha' with z; injection z
  exact vint_injX e1
noncomputable def keyR (H : Hp) (v : V) : List Int := Classical.epsilon fun p => Tk H v (rowD p)
theorem keyR_eq {H : Hp} {v : V} {p : List Int} (h : Tk H v (rowD p)) : keyR H v = p := row_uniq (Classical.epsilon_spec (p := fun p => Tk H v (rowD p)) ⟨p, h⟩) h
theorem keysR_eq {H : Hp} : ∀ {xs : List V} {ds : List (List Int)}, TkAll H xs (ds.map rowD) → xs.map (keyR H) = ds
  | [], [], .nil => rfl
  | _ :: _, _ :: _, .cons h t => by rw [List.map_cons, keyR_eq h, keysR_eq t]
theorem keysR_tk {H : Hp} : ∀ {xs : List V}, (∀ x ∈ xs, ∃ p, Tk H x (rowD p)) → TkAll H xs ((xs.map (keyR H)).map rowD)
  | [], _ => .nil
  | x :: r, h => by
    obtain ⟨p, hp⟩ := h x (List.mem_cons_self ..)
    refine .cons ?_ (keysR_tk fun y hy => h y (List.mem_cons_of_mem _ hy))
    rw [keyR_eq hp]
    exact hp
theorem TkAll.memX {H : Hp} {α : Type} {f : α → PyData} {xs : List V} {ds : List α} (t : TkAll H xs (ds.map f)) : ∀ x ∈ xs, ∃ d, d ∈ ds ∧ Tk H x (f d) := fun x hx => by
  obtain ⟨j, hj⟩ := List.getElem?_of_mem hx
  obtain ⟨d, hd, h⟩ := t.at hj
  exact ⟨d, List.mem_of_getElem? hd, h⟩

def rowsU : Nat → List (List Int)
  | 0 => [[]]
  | k + 1 => (rowsU k).map (fun r => (0 : Int) :: r) ++ (rowsU k).map (fun r => (1 : Int) :: r)
theorem perm_rowsU : ((List.range 7).all fun m => (rowsL m).isPerm (rowsU m) && adjR (rowsU m)) = true := by decide +kernel
theorem rows_uniqU {m : Nat} {ys : List (List Int)} (hm : m ≤ 6) (p : ys.Perm (rowsL m)) (s : ys.Pairwise fun x y => HT.lexLt y x = false) : ys = rowsU m := by
  have h := List.all_eq_true.mp perm_rowsU m (List.mem_range.mpr (by omega))
  rw [Bool.and_eq_true] at h
  exact List.Perm.eq_of_pairwise (fun a b _ _ u v => SrtTT.lex_tot _ _ v u) s (adjR_srt _ h.2) (p.trans (List.isPerm_iff.mp h.1))
def sp_rows (K : PySem.W.Frag) : Sp := fun vs H Q _ => ∃ m : Nat, vs = [.int m] ∧ 1 ≤ m ∧ m ≤ 6 ∧ ∀ r H', H r = none → Same H H' → Tk H' (.ref r) (.list ((rowsU m).map rowD)) → Q (.ref r) H'
theorem ok_rows (T : Tx K mg) : FnOk P w K mg base CX0 1 T.f_rows T.fd_rows ["_law_many"] (sp_rows K) := by
  refine T.F_rows.ok sc_rows (fun vs H Q E h => ?_) (fun cdv A outer s H vs Q E hr h => ?_)
  · obtain ⟨m, rfl, _⟩ := h
    rfl
  · obtain ⟨m, rfl, m1, m6, q⟩ := h
    refine ⟨_, (pss_cons (ps_set (i := 1) sc_rows.nd rfl (by first | exact .inl rfl | exact .inr rfl) (pe_lst (pa_cons (pe_tup pa_nil) pa_nil))) (pss_cons (ps_for PassesOwn.never rfl (pi_range1 (by rfl) T.m_range (pa_cons (pv 0) pa_nil)) (pg_name (i := 2) sc_rows.nd rfl (by first | exact .inl rfl | exact .inr rfl)) (pss_one (ps_set (i := 1) sc_rows.nd rfl (by first | exact .inl rfl | exact .inr rfl) (pe_op op_cat (pe_lc (own := [("_law_row", 3)]) (by rfl) sc_rows.nd (pi_list (pv 1)) (blkOk_by (own := [("_law_row", 3)]) (N := ["_law_many", "_law_found", "_law_place", "_law_row"]) (sc := defScope s_rows) (by decide +kernel)) (fun _ _ _ _ _ => (pg_name (i := 3) sc_rows.nd rfl (by first | exact .inl rfl | exact .inr rfl))) (fun _ _ _ _ _ => pts_nil) (fun _ _ _ _ _ => (pe_op (show OpR _ _ (rCatA K) from op_catA) (pv 3) (pe_tup (pa_cons pe_int pa_nil))))) (pe_lc (own := [("_law_row", 3)]) (by rfl) sc_rows.nd (pi_list (pv 1)) (blkOk_by (own := [("_law_row", 3)]) (N := ["_law_many", "_law_found", "_law_place", "_law_row"]) (sc := defScope s_rows) (by decide +kernel)) (fun _ _ _ _ _ => (pg_name (i := 3) sc_rows.nd rfl (by first | exact .inl rfl | exact .inr rfl))) (fun _ _ _ _ _ => pts_nil) (fun _ _ _ _ _ => (pe_op (show OpR _ _ (rCatA K) from op_catA) (pv 3) (pe_tup (pa_cons pe_int pa_nil))))))))) (pss_one (ps_ret (pe_callB (cr_sortedTn (d := m) m1) (by rfl) T.m_sorted (by decide +kernel) (pa_cons (pv 1) pa_nil)))))), ?_⟩
    refine ⟨Nat.zero_le _, fun t0 n0 => ⟨sl1, fun c0 nc0 => ?_⟩⟩
    refine ⟨.int m, rfl, (m : Int), rfl, by omega, by omega, ?_⟩
    refine for_range (lo := 0) (n := (m : Int).toNat) (fun i σ H' => ∃ ca y2 y3, σ = [some (.int m), some (.ref ca), y2, y3] ∧ Same H H' ∧ Tk H' (.ref ca) (.list ((rowsL i).map rowD)))
      ⟨c0, _, _, rfl, (same_upd n0).trans (same_upd nc0), .lst upd_same (.cons (.tup (same_upd nc0 _ _ upd_same) .nil) .nil)⟩ ?_ ?_
    · rintro i σ H1 hi ⟨ca, y2, y3, rfl, s1, tc⟩
      have hi' : i < m := by simpa using hi
      obtain ⟨ca', cs, e, hca, tcs⟩ := tc.lst_inv
      cases e
      have big : (rowsL i).length ≤ 64 := by
        rw [rowsL_len]
        exact Nat.pow_le_pow_right (by decide) (show i ≤ 6 by omega)
      have rl : ∀ r ∈ rowsL i, r.length ≤ 8 := fun r hr => by
        have := (rowsL_ok i r hr).1
        omega
      have lcs : cs.length = (rowsL i).length := by rw [tcs.length, List.length_map]
      refine ⟨.ref ca, rfl, ca, rfl, ⟨_, SqL.of hca⟩, fun D nD => ?_⟩
      refine lc_list (K := K) (a := ca) (xs := cs) (fun k H' => Same H1 (hd1 D H') ∧ ∃ acc, H' D = some (.lst acc) ∧ TkAll (hd1 D H') acc (((rowsL i).take k).map fun r => rowD (r ++ [0]))) ⟨hd1_of (same_upd nD) nD, [], upd_same, .nil⟩ (fun k H' _ z => SqL.of (hd1_le _ _ (z.1 _ _ hca))) ?_ ?_
      · rintro k x H2 hx ⟨s2, acc, hD, ta⟩
        refine ⟨rfl, x, rfl, sl1, more_step 0 hca tcs rl big hx s2 hD ta _ fun p H4 h4 sm tk => ⟨acc, h4, ?_, sm, _, upd_same, tk⟩⟩
        have := ta.length
        rw [List.length_map, List.length_take] at this
        exact Nat.lt_of_lt_of_le (show _ < 128 by omega) (by decide)
      · rintro H2 ⟨s2, acc, hD, ta⟩
        rw [lcs, List.take_length] at ta
        have s12 : Same H1 H2 := fun b o e => hd1_le _ _ (s2 _ _ e)
        have ta2 := ta.same hd1_le
        refine ⟨.ref ca, rfl, ca, rfl, ⟨_, SqL.of (s12 _ _ hca)⟩, fun E' nE => ?_⟩
        refine lc_list (K := K) (a := ca) (xs := cs) (fun k H' => Same H2 (hd1 E' H') ∧ ∃ acc, H' E' = some (.lst acc) ∧ TkAll (hd1 E' H') acc (((rowsL i).take k).map fun r => rowD (r ++ [1]))) ⟨hd1_of (same_upd nE) nE, [], upd_same, .nil⟩ (fun k H' _ z => SqL.of (hd1_le _ _ (z.1 _ _ (s12 _ _ hca)))) ?_ ?_
        · rintro k x H3 hx ⟨s3, acc3, hE, ta3⟩
          refine ⟨rfl, x, rfl, sl1, more_step 1 (s12 _ _ hca) (tcs.same s12) rl big hx s3 hE ta3 _ fun p H4 h4 sm tk => ⟨acc3, h4, ?_, sm, _, upd_same, tk⟩⟩
          have := ta3.length
          rw [List.length_map, List.length_take] at this
          exact Nat.lt_of_lt_of_le (show _ < 128 by omega) (by decide)
        · rintro H3 ⟨s3, acc3, hE, ta3⟩
          rw [lcs, List.take_length] at ta3
          have s23 : Same H2 H3 := fun b o e => hd1_le _ _ (s3 _ _ e)
          have ta4 := ta3.same hd1_le
          refine ⟨D, E', _, _, rfl, rfl, s23 _ _ hD, hE, ?_, fun F nF => ?_⟩
          · have := ta.length
            have := ta3.length
            rw [List.length_map] at *
            exact Nat.le_trans (show _ ≤ 256 by omega) (by decide)
          have s4 := same_upd (o := HO.lst (acc ++ acc3)) nF
          refine ⟨F, _, _, rfl, ((s1.trans s12).trans s23).trans s4, .lst upd_same ?_⟩
          show TkAll _ _ ((rowsL (i + 1)).map rowD)
          unfold rowsL
          rw [List.map_append, List.map_map, List.map_map]
          exact ((ta2.same s23).same s4).append (ta4.same s4)
    · rintro σ H1 ⟨ca, y2, y3, rfl, s1, tc⟩
      rw [show (m : Int).toNat = m by omega] at tc
      obtain ⟨_, xs, e, hca, txs⟩ := tc.lst_inv
      cases e
      refine ⟨.ref ca, rfl, ca, xs, keyR H1, rfl, SqL.of hca, fun x hx => ?_, fun ys p hs hp np => ?_⟩
      · obtain ⟨d, hd, td⟩ := txs.memX x hx
        obtain ⟨t, rfl, ht⟩ := td.row_inv
        rw [keyR_eq td]
        exact ⟨t, rfl, SqT.of ht, (rowsL_ok m d hd).1⟩
      have tys : TkAll H1 ys ((ys.map (keyR H1)).map rowD) := keysR_tk fun x hx => by
        obtain ⟨d, _, td⟩ := txs.memX x (hp.mem_iff.mp hx)
        exact ⟨d, td⟩
      have ek : ys.map (keyR H1) = rowsU m := rows_uniqU m6 (by have := hp.map (keyR H1); rw [keysR_eq txs] at this; exact this) (List.pairwise_map.mpr hs)
      rw [ek] at tys
      have sp := same_upd (o := HO.lst ys) np
      have np0 : H p = none := by
        cases z : H p with
        | none => rfl
        | some o => rw [s1 _ _ z] at np; cases np
      exact q p _ np0 (s1.trans sp) (.lst upd_same (tys.same sp))

end
end Gk

set_option Elab.async false
set_option linter.all false
set_option maxRecDepth 100000
set_option maxHeartbeats 1000000
set_option pp.maxSteps 1500
set_option pp.deepTerms false
namespace Gk
open PySem PySem.Spec PyProof.Rows L2
/-! ### sum of a tuple of ints -/
namespace SmTi
open PySem PyProof.Rows
theorem raw {prog : Program} {w : World} {A : Around} {E : Value → Shared → Prop} {s : Shared} {l : Addr} {its : List Value} {ns : List Int} {Q : Value → Shared → Prop} (hh : A.handled = none) (ist : s.heap.IsTuple l its.toArray) (are : IntsAre its ns)
    (fin : ∀ g tk t, (∀ b o, s.heap.get? b = some o → g.get? b = some o) → Q (.int ns.sum t) { s with heap := g, toks := tk }) :
    wpAny (model prog w) A (call (.builtin "sum") [.ref l]) Q E s := by
  obtain ⟨xs, e⟩ := are.allInts.items
  have hn : numsOf (intItems xs).toList = ns := by rw [← e]; exact are.numsOf
  rw [nums_intItems] at hn
  rw [e] at ist
  have lt : l < s.heap.objs.size := by obtain ⟨_, h, _⟩ := ist; exact Heap.lt_size h
  refine PySem.call_sum_walkG (wpAny_pyIter_tuple ist ?_)
  refine ⟨s.heap.objs.size, [s.heap.objs.size, l], [s.heap.objs.size], (intItems xs).size, _, _, numAt xs, rfl, Walks.tuple (A := A.in1) hh _ l (Nat.ne_of_lt lt) (intItems xs), ⟨⟨_, Heap.get?_push_size _ rfl, rfl, rfl⟩, ist.push _⟩, fun b hb => ?_, fun i v h => intItems_at h, fun g tk t keep => ?_⟩
  · show b < (s.heap.push _).objs.size
    rw [Heap.size_push]
    have : b = s.heap.objs.size ∨ b = l := by simpa using hb
    rcases this with z | z
    · rw [z]; exact Nat.lt_succ_self _
    · rw [z]; exact Nat.lt_succ_of_lt lt
  · have k := fin g tk t fun b o eb => keep b o (by simp; exact Nat.ne_of_lt (Heap.lt_size eb)) (Heap.get?_push_of_some _ eb)
    rw [preSum_eq, List.take_of_length_le (by simp [intItems]), hn]
    exact k
end SmTi
def rSumTi (K : PySem.W.Frag) : List V → Hp → VK → Prop := fun vs H Q => ∃ (a : Addr) (ns : List Int), vs = [V.ref a] ∧ SqT K H a (ns.map V.int) ∧ Q (.int ns.sum) H
theorem cr_sumTi {X : Cx} (hc : X.calm = true) : CallR X (.builtin "sum") (rSumTi X.K) := by
  intro pins s σ H vs us Q I r h
  obtain ⟨a, ns, rfl, hs, q⟩ := h
  obtain rfl := Vals.ref1 r
  obtain ⟨its, rv, hl, _⟩ := I.tuple hs
  exact SmTi.raw (I.ok.hd hc) hl rv.ints fun g tk t' hk => ⟨.int _, H, I.kept hk, ⟨_, rfl⟩, q⟩

end Gk

set_option Elab.async false
set_option linter.all false
set_option maxRecDepth 100000
set_option maxHeartbeats 1000000
set_option pp.maxSteps 1500
set_option pp.deepTerms false
namespace Gk
open PySem PySem.Spec PyProof.Rows L2
section
variable {P : Program} {w : World} {K : PySem.W.Frag} {mg : Str → Option Value} {base : Heap}
/-! ### a table drawn -/
def pVs (ps : List (List Nat)) : List V := ps.map fun p => V.str (SX.S p)
def CovOk (m : Nat) (ps : List (List Nat)) : Prop := ∀ p ∈ ps, ProdOk m p
theorem pV_at {ps : List (List Nat)} {j : Nat} {v : V} (h : (pVs ps)[j]? = some v) : ∃ p, ps[j]? = some p ∧ v = V.str (SX.S p) := by
  unfold pVs at h
  rw [List.getElem?_map] at h
  obtain ⟨p, hp, e⟩ := Option.map_eq_some_iff.mp h
  exact ⟨p, hp, e.symm⟩
theorem none_of_frG {d l p : Addr} {H H' : Hp} {n : Int} (f : Fr d l H H') (D : DeckG H' d l n) (h : H' p = none) : H p = none := by
  have o := D.off h
  cases z : H p with
  | none => rfl
  | some u => rw [f _ _ o.1 o.2 z] at h; cases h
theorem Fr.upd {d l p : Addr} {H H' : Hp} {o : HO} (f : Fr d l H H') (h : H p = none) : Fr d l H (upd H' p o) := fun b u h1 h2 e => by
  rw [upd_ne (ne_of_none e h)]
  exact f b u h1 h2 e
theorem Ts.frG {H H' : Hp} {d l : Addr} {n : Int} (D : DeckG H d l n) (f : Fr d l H H') : Ts H H' := fun b xs e => by
  obtain ⟨ne, cs, z, y, hd, hl, r⟩ := D
  exact f b _ (ne_of e hd (by intro z; cases z)) (ne_of e hl (by intro z; cases z)) e
theorem for_enumL {K : PySem.W.Frag} {a : Addr} {xs : List V} {g : TG} {tb : TS} {D : Ends} {σ : L2.St} {H : Hp} (Pv : Nat → L2.St → Hp → Prop) (h0 : Pv 0 σ H) (hl : ∀ i σ H, i ≤ xs.length → Pv i σ H → SqL K H a xs)
    (hs : ∀ (i : Nat) (x : V) (T : Addr) (σ : L2.St) (H : Hp), xs[i]? = some x → H T = none → Pv i σ H → g (.ref T) σ (upd H T (.tup [.int (i : Nat), x])) fun σ2 H2 => tb { D with nx := Pv (i + 1), ct := Pv (i + 1), bk := D.nx } σ2 H2) (hd : ∀ σ H, Pv xs.length σ H → D.nx σ H) :
    ∃ W : Nat → Nat → L2.St → Hp → Prop, (∃ m, W 0 m σ H) ∧ ∀ i m σ H, W i m σ H →
      ((Ite K a).stop i H ∧ D.nx σ H) ∨ ((Ite K a).go i H ∧ ∃ N : L2.St → Hp → Prop, (∀ σ' H', N σ' H' → ∃ m', m' < m ∧ W (i + 1) m' σ' H') ∧ ∀ x H', (Ite K a).yld i H x H' → g x σ H' fun σ2 H2 => tb { D with nx := N, ct := N, bk := D.nx } σ2 H2) := by
  refine ⟨fun i m σ H => m = xs.length - i ∧ i ≤ xs.length ∧ Pv i σ H, ⟨xs.length, rfl, Nat.zero_le _, h0⟩, ?_⟩
  rintro i m σ H ⟨rfl, hi, p⟩
  have q := hl i σ H hi p
  by_cases hlt : i < xs.length
  · have hx : xs[i]? = some xs[i] := List.getElem?_eq_getElem hlt
    refine .inr ⟨⟨xs, xs[i], q, hx⟩, Pv (i + 1), fun σ' H' p' => ⟨xs.length - (i + 1), by omega, rfl, hlt, p'⟩, fun x H' y => ?_⟩
    obtain ⟨T, x1, rfl, nT, rfl, e1⟩ := y
    exact hs i x1 T σ H (e1 xs q) nT p
  · have e : i = xs.length := by omega
    subst e
    exact .inl ⟨⟨xs, q, Nat.le_refl _⟩, hd σ H p⟩
theorem rowsU_len : ∀ k, (rowsU k).length = 2 ^ k
  | 0 => rfl
  | k + 1 => by
    unfold rowsU
    rw [List.length_append, List.length_map, List.length_map, rowsU_len k, Nat.pow_succ]
    omega
theorem rowsU_ok : ∀ k, ∀ r ∈ rowsU k, r.length = k ∧ Row01' r
  | 0, r, h => by
    rw [List.mem_singleton.mp h]
    exact ⟨rfl, fun x hx => by cases hx⟩
  | k + 1, r, h => by
    unfold rowsU at h
    rcases List.mem_append.mp h with h | h
    · obtain ⟨q, hq, rfl⟩ := List.mem_map.mp h
      have ih := rowsU_ok k q hq
      refine ⟨by rw [List.length_cons, ih.1], fun x hx => ?_⟩
      rcases List.mem_cons.mp hx with z | z
      · exact .inl z
      · exact ih.2 x z
    · obtain ⟨q, hq, rfl⟩ := List.mem_map.mp h
      have ih := rowsU_ok k q hq
      refine ⟨by rw [List.length_cons, ih.1], fun x hx => ?_⟩
      rcases List.mem_cons.mp hx with z | z
      · exact .inr z
      · exact ih.2 x z
theorem pick7 {w a b c d e f g : Int} (w0 : 0 ≤ w) (w1 : w < 7) (h : ∀ x ∈ [a, b, c, d, e, f, g], x = 0 ∨ x = 1) : ∃ x : Int, atI [V.int a, V.int b, V.int c, V.int d, V.int e, V.int f, V.int g] w = some (.int x) ∧ (x = 0 ∨ x = 1) := by
  have : w = 0 ∨ w = 1 ∨ w = 2 ∨ w = 3 ∨ w = 4 ∨ w = 5 ∨ w = 6 := by omega
  rcases this with rfl | rfl | rfl | rfl | rfl | rfl | rfl
  · exact ⟨a, rfl, h a (by simp)⟩
  · exact ⟨b, rfl, h b (by simp)⟩
  · exact ⟨c, rfl, h c (by simp)⟩
  · exact ⟨d, rfl, h d (by simp)⟩
  · exact ⟨e, rfl, h e (by simp)⟩
  · exact ⟨f, rfl, h f (by simp)⟩
  · exact ⟨g, rfl, h g (by simp)⟩

end
end Gk

set_option Elab.async false
set_option linter.all false
set_option maxRecDepth 100000
set_option maxHeartbeats 1000000
set_option pp.maxSteps 1500
set_option pp.deepTerms false
namespace Gk
open PySem PySem.Spec PyProof.Rows L2
section
variable {P : Program} {w : World} {K : PySem.W.Frag} {mg : Str → Option Value} {base : Heap}
theorem dpStrs {H : Hp} : ∀ ps : List (List Nat), DpAll K H (pVs ps) (ps.map fun p => PyData.str (SX.S p))
  | [] => .nil
  | p :: r => .cons (.str _) (dpStrs r)
theorem strOk_S {p : List Nat} (h : ∀ c ∈ p, SgOk c) : PyData.canLay0 (.str (SX.S p)) = true := by
  simp only [PyData.canLay0, PyData.strOk]
  rw [Array.all_eq_true_iff_forall_mem]
  intro c hc
  have : c ∈ p := by
    simpa using hc
  refine decide_eq_true ?_
  rcases h c this with rfl | rfl | rfl <;> decide
theorem lay_strs {m : Nat} : ∀ ps : List (List Nat), CovOk m ps → PyData.canLayAll0 (ps.map fun p => PyData.str (SX.S p)) = true
  | [], _ => rfl
  | p :: r, h => by
    have := lay_strs r fun q hq => h q (List.mem_cons_of_mem _ hq)
    show (PyData.canLay0 (.str (SX.S p)) && PyData.canLayAll0 (r.map fun p => PyData.str (SX.S p))) = true
    rw [this, Bool.and_true]
    exact strOk_S (h p (List.mem_cons_self ..)).2
theorem depth_strs : ∀ ps : List (List Nat), PyData.depthAll (ps.map fun p => PyData.str (SX.S p)) ≤ 1
  | [] => Nat.zero_le _
  | p :: r => by
    rw [List.map_cons]
    unfold PyData.depthAll
    have := depth_strs r
    have e : (PyData.str (SX.S p)).depth = 0 := rfl
    rw [e]
    omega
theorem sh_strsL {m : Nat} {ps : List (List Nat)} (h : CovOk m ps) : SeqAt.shaped (.list (ps.map fun p => PyData.str (SX.S p))) = true := by
  unfold SeqAt.shaped
  rw [Bool.and_eq_true]
  refine ⟨?_, decide_eq_true ?_⟩
  · simp only [PyData.canLay0, lay_strs ps h]
  · have := depth_strs ps
    simp only [PyData.depth]
    omega
theorem ne_strs (ps : List (List Nat)) : (!PyData.eqv (.list (ps.map fun p => PyData.str (SX.S p))) (.list [])) = !ps.isEmpty := by cases ps <;> rfl

def sp_table (K : PySem.W.Frag) : Sp := fun vs H Q _ => ∃ (d l : Addr) (n : Int) (m : Nat), vs = [.ref d, .int m] ∧ DeckG H d l n ∧ n < 800000000 ∧ 1 ≤ m ∧ m ≤ 6 ∧ ∀ (bs : List Bool) (H' : Hp), DeckG H' d l (n + 300) → Fr d l H H' → bs.length = 2 ^ m → Q (.str (tabOf bs)) H'
theorem tab_app (bs : List Bool) (b : Bool) : tabOf bs ++ one (if b = true then 49 else 48) = tabOf (bs ++ [b]) := by
  show (⟨(bs.map fun b => if b = true then 49 else 48).toArray ++ [if b = true then 49 else 48].toArray⟩ : Str) = ⟨((bs ++ [b]).map fun b => if b = true then 49 else 48).toArray⟩
  congr 1
  simp
theorem ok_table (T : Tx K mg) : FnOk P w K mg base CX0 3 T.f_table T.fd_table ["_law_deck_here", "_law_many"] (sp_table K) := by
  refine T.F_table.ok sc_table (fun vs H Q E h => ?_) (fun cdv A outer s H vs Q E hr h => ?_)
  · obtain ⟨d, l, n, m, rfl, _⟩ := h
    rfl
  · obtain ⟨d, l, n, m, rfl, D, hn, m1, m6, q⟩ := h
    refine ⟨_, (pss_cons (ps_set (i := 2) sc_table.nd rfl (by first | exact .inl rfl | exact .inr rfl) (pe_call (ok_next T) (hr.mono (by decide)) (by rfl) T.g_next T.F_next.kp T.b_next .nil pass0 (pa_cons (pv 0) (pa_cons pe_int pa_nil)))) (pss_cons (ps_setLc (i := 3) (own := [("_law_k", 7)]) (by rfl) sc_table.nd rfl rfl (sw_true rfl rfl rfl (by decide +kernel)) (pi_range1 (by rfl) T.m_range (pa_cons (pe_op op_add pe_int (pe_call (ok_next T) (hr.mono (by decide)) (by rfl) T.g_next T.F_next.kp T.b_next .nil pass0 (pa_cons (pv 0) (pa_cons pe_int pa_nil)))) pa_nil)) (blkOk_by (own := [("_law_k", 7)]) (N := ["_law_deck_here", "_law_many", "_law_way", "_law_products", "_law_rows_here", "_law_odd_here", "_law_table_here", "_law_k", "_law_row", "_law_worth", "_law_one"]) (sc := defScope s_table) (by decide +kernel)) (fun _ _ _ _ _ => (pg_name (i := 7) sc_table.nd rfl (by first | exact .inl rfl | exact .inr rfl))) (fun _ _ _ _ _ => pts_nil) (fun _ _ _ _ _ => (pe_call (ok_product T) (hr.mono (by decide)) (by rfl) T.g_product T.F_product.kp T.b_product .nil pass0 (pa_cons (pv 0) (pa_cons (pv 1) pa_nil))))) (pss_cons (ps_set (i := 4) sc_table.nd rfl (by first | exact .inl rfl | exact .inr rfl) (pe_call (ok_rows T) (hr.mono (by decide)) (by rfl) T.g_rows T.F_rows.kp T.b_rows .nil pass0 (pa_cons (pv 1) pa_nil))) (pss_cons (ps_set (i := 5) sc_table.nd rfl (by first | exact .inl rfl | exact .inr rfl) (pe_call (ok_next T) (hr.mono (by decide)) (by rfl) T.g_next T.F_next.kp T.b_next .nil pass0 (pa_cons (pv 0) (pa_cons (pe_callB call_len_seq (by rfl) T.m_len PySem.boot_len (pa_cons (pv 4) pa_nil)) pa_nil)))) (pss_cons (ps_set (i := 6) sc_table.nd rfl (by first | exact .inl rfl | exact .inr rfl) pe_str) (pss_cons (ps_for PassesOwn.never rfl (pi_enum (by rfl) T.m_enumerate (pa_cons (pv 4) pa_nil)) (pg_tup rfl (pgs_cons (pg_name (i := 7) sc_table.nd rfl (by first | exact .inl rfl | exact .inr rfl)) (pgs_cons (pg_name (i := 8) sc_table.nd rfl (by first | exact .inl rfl | exact .inr rfl)) pgs_nil))) (pss_cons (ps_set (i := 9) sc_table.nd rfl (by first | exact .inl rfl | exact .inr rfl) (pe_lst (pa_cons (pe_call (ok_next T) (hr.mono (by decide)) (by rfl) T.g_next T.F_next.kp T.b_next .nil pass0 (pa_cons (pv 0) (pa_cons pe_int pa_nil))) (pa_cons (pe_callTy call_int1 (by rfl) T.m_int (by decide +kernel) (pa_cons (pe_cmpR (op_neD hr.units) (pe_lc (own := [("_law_one", 10)]) (by rfl) sc_table.nd (pi_list (pv 3)) (blkOk_by (own := [("_law_one", 10)]) (N := ["_law_deck_here", "_law_many", "_law_way", "_law_products", "_law_rows_here", "_law_odd_here", "_law_table_here", "_law_k", "_law_row", "_law_worth", "_law_one"]) (sc := defScope s_table) (by decide +kernel)) (fun _ _ _ _ _ => (pg_name (i := 10) sc_table.nd rfl (by first | exact .inl rfl | exact .inr rfl))) (fun _ _ _ _ _ => (pts_one (pt_val (pe_call (ok_holds T) (hr.mono (by decide)) (by rfl) T.g_holds T.F_holds.kp T.b_holds .nil pass0 (pa_cons (pv 10) (pa_cons (pv 8) pa_nil)))))) (fun _ _ _ _ _ => (pv 10))) (pe_lst pa_nil) (nomark _)) pa_nil)) (pa_cons (pe_op op_mod (pe_callB (cr_sumTi rfl) (by rfl) T.m_sum (by decide +kernel) (pa_cons (pv 8) pa_nil)) pe_int) pa_nil))))) (pss_cons (ps_set (i := 9) sc_table.nd rfl (by first | exact .inl rfl | exact .inr rfl) (pe_op op_cat (pv 9) (pe_lst (pa_cons (pe_callTy call_int1 (by rfl) T.m_int (by decide +kernel) (pa_cons (pe_cmpR op_gt (pe_call (ok_next T) (hr.mono (by decide)) (by rfl) T.g_next T.F_next.kp T.b_next .nil pass0 (pa_cons (pv 0) (pa_cons pe_int pa_nil))) pe_int (nomark _)) pa_nil)) (pa_cons (pe_callTy call_int1 (by rfl) T.m_int (by decide +kernel) (pa_cons (pe_cmpR op_eq (pe_call (ok_next T) (hr.mono (by decide)) (by rfl) T.g_next T.F_next.kp T.b_next .nil pass0 (pa_cons (pv 0) (pa_cons pe_int pa_nil))) pe_int (nomark _)) pa_nil)) (pa_cons (pe_callTy call_int1 (by rfl) T.m_int (by decide +kernel) (pa_cons (pe_cmpR op_ne (pv 7) (pv 5) (nomark _)) pa_nil)) pa_nil)))))) (pss_cons (ps_expr (pe_bm PySem.F.plainAttrs_list PySem.F.slot_list_append PySem.F.type_list_append mt_append (pv 9) (pa_cons (pe_callTy call_int1 (by rfl) T.m_int (by decide +kernel) (pa_cons (pe_cmpR op_gt (pe_op op_mul pe_int (pe_callB (cr_sumTi rfl) (by rfl) T.m_sum (by decide +kernel) (pa_cons (pv 8) pa_nil))) (pv 1) (nomark _)) pa_nil)) pa_nil))) (pss_one (ps_set (i := 6) sc_table.nd rfl (by first | exact .inl rfl | exact .inr rfl) (pe_op op_add_str (pv 6) (pe_callTy call_str_int (by rfl) T.m_str (by decide +kernel) (pa_cons (pe_ix ix_list (pv 9) (pv 2) (fun _ _ => rfl)) pa_nil))))))))) (pss_one (ps_ret (pv 6))))))))), ?_⟩
    refine ⟨.ref d, rfl, d, l, 7, _, rfl, D, by omega, by decide, by decide, fun H1 way D1 fr1 w0 w1 => ?_⟩
    refine ⟨.ref d, rfl, d, l, 4, _, rfl, D1, by omega, by decide, by decide, fun H2 c D2 fr2 c0 c1 => ?_⟩
    refine ⟨_, _, rfl, rfl, 1 + c, rfl, by omega, by omega, fun L nL => ?_⟩
    have fr02 := fr1.trans fr2
    have oL := D2.off nL
    have nL0 := none_of_frG fr02 D2 nL
    refine lc_range (lo := 0) (n := (1 + c).toNat) (fun j H' => DeckG H' d l (n + 2 + 13 * j) ∧ Fr d l H H' ∧ ∃ ps, H' L = some (.lst (pVs ps)) ∧ ps.length = j ∧ CovOk m ps) ⟨(D2.same (same_upd nL)).mono (by omega), fr02.trans (Fr.new nL), [], upd_same, rfl, fun p hp => by cases hp⟩ ?_ ?_
    · rintro j H3 hj ⟨D3, fr3, ps, hL, lps, okp⟩
      have hj' : j < 4 := by omega
      refine ⟨rfl, .ref d, rfl, .int m, rfl, d, l, _, m, rfl, D3, by omega, m6, fun p H4 D4 fr4 op => ?_⟩
      refine ⟨_, fr4 _ _ oL.1 oL.2 hL, ?_, (D4.upd oL.1 oL.2).mono (by push_cast; omega), Fr.upd (fr3.trans fr4) nL0, ps ++ [p], ?_, by rw [List.length_append, lps]; rfl, fun r hr => ?_⟩
      · unfold pVs
        rw [List.length_map]
        exact Nat.lt_of_lt_of_le (show _ < 64 by omega) (by decide)
      · rw [upd_same]
        unfold pVs
        rw [List.map_append]
        rfl
      · rcases List.mem_append.mp hr with h | h
        · exact okp r h
        · rw [List.mem_singleton.mp h]; exact op
    rintro H3 ⟨D3, fr3, ps, hL, lps, okp⟩
    have lp4 : ps.length ≤ 4 := by omega
    replace D3 : DeckG H3 d l (n + 60) := D3.mono (by omega)
    refine ⟨.int m, rfl, m, rfl, m1, m6, fun ca H4 nca s4 tc => ?_⟩
    have D4 := D3.same s4
    have fr4 := fr3.trans (Fr.of s4)
    have hL4 := s4 _ _ hL
    obtain ⟨_, cs, e, hca, tcs⟩ := tc.lst_inv
    cases e
    have lcs : cs.length = 2 ^ m := by rw [tcs.length, List.length_map, rowsU_len]
    have l64 : 2 ^ m ≤ 64 := Nat.pow_le_pow_right (by decide) m6
    have lpos : 1 ≤ 2 ^ m := Nat.one_le_two_pow
    refine ⟨.ref d, rfl, .ref ca, rfl, ca, _, rfl, .inl (SqL.of hca), ?_⟩
    rw [lcs]
    refine ⟨d, l, _, _, rfl, D4, by omega, by omega, by omega, fun H5 od D5 fr5 o0 o1 => ?_⟩
    have oca := D3.off nca
    have hca5 := fr5 _ _ oca.1 oca.2 hca
    have tcs5 : TkAll H5 cs ((rowsU m).map rowD) := tcs.ts (Ts.frG D4 fr5) (noLs_map (fun r => noL_row r) _)
    have fr05 := fr4.trans fr5
    have hL5 := fr5 _ _ oL.1 oL.2 hL4
    have hLca : L ≠ ca := ne_of_none hL nca
    refine ⟨.ref ca, rfl, ca, _, rfl, SqL.of hca5, ?_⟩
    refine for_enumL (K := K) (a := ca) (xs := cs) (fun k σ H' => ∃ (bs : List Bool) (y7 y8 y9 : Option V), σ = [some (.ref d), some (.int m), some (.int way), some (.ref L), some (.ref ca), some (.int od), some (.str (tabOf bs)), y7, y8, y9, none] ∧ DeckG H' d l (n + 62 + 3 * k) ∧ Fr d l H H' ∧ bs.length = k ∧ H' L = some (.lst (pVs ps)) ∧ H' ca = some (.lst cs) ∧ TkAll H' cs ((rowsU m).map rowD))
      ⟨[], _, _, _, by rw [show Str.ofString "" = tabOf [] from by decide +kernel]; rfl, D5.mono (by omega), fr05, rfl, hL5, hca5, tcs5⟩ (fun k σ H' _ ⟨_, _, _, _, _, _, _, _, _, h, _⟩ => SqL.of h) ?_ ?_
    · rintro k x Tq σ H6 hx nT ⟨bs, y7, y8, y9, rfl, D6, fr6, lbs, hL6, hca6, tcs6⟩
      have hk : k < 64 := by
        have := (List.getElem?_eq_some_iff.mp hx).1
        omega
      obtain ⟨r, hr', tx⟩ := tcs6.at hx
      obtain ⟨ra, rfl, hra⟩ := Tk.row_inv tx
      have okr := rowsU_ok m r (List.mem_of_getElem? hr')
      have sT := same_upd (o := HO.tup [.int (k : Nat), .ref ra]) nT
      refine ⟨Tq, _, rfl, SqT.of upd_same, rfl, _, _, rfl, _, _, rfl, rfl, ?_⟩
      have D7 := D6.same sT
      have fr7 := fr6.trans (Fr.of sT)
      have hL7 := sT _ _ hL6
      have hca7 := sT _ _ hca6
      have tcs7 := tcs6.same sT
      have hra7 := sT _ _ hra
      show tSeq _ _ _ _ (upd H6 Tq (.tup [.int (k : Nat), .ref ra]))
      revert D7 fr7 hL7 hca7 tcs7 hra7
      generalize upd H6 Tq (.tup [.int (k : Nat), .ref ra]) = H7
      intro D7 fr7 hL7 hca7 tcs7 hra7
      refine ⟨.ref d, rfl, d, l, 2, _, rfl, D7, by omega, by decide, by decide, fun H8 v D8 fr8 v0 v1 => ?_⟩
      have hL8 := fr8 _ _ oL.1 oL.2 hL7
      have hca8 := fr8 _ _ oca.1 oca.2 hca7
      have ts8 := Ts.frG D7 fr8
      have tcs8 := tcs7.ts ts8 (noLs_map (fun r => noL_row r) _)
      have hra8 := ts8 _ _ hra7
      have fr08 := fr7.trans fr8
      refine ⟨.ref L, rfl, L, rfl, ⟨_, SqL.of hL8⟩, fun M nM => ?_⟩
      refine lc_list (K := K) (a := L) (xs := pVs ps) (fun j H' => Same H8 (hd1 M H') ∧ ∃ fs : List (List Nat), H' M = some (.lst (pVs fs)) ∧ fs.length ≤ j ∧ CovOk m fs) ⟨hd1_of (same_upd nM) nM, [], upd_same, Nat.le_refl _, fun p hp => by cases hp⟩ (fun j H' _ z => SqL.of (hd1_le _ _ (z.1 _ _ hL8))) ?_ ?_
      · rintro j x H9 hx ⟨s9, fs, hM, lfs, okf⟩
        obtain ⟨p, hp, rfl⟩ := pV_at hx
        have op := okp p (List.mem_of_getElem? hp)
        have hjl : j < 4 := by
          have := (List.getElem?_eq_some_iff.mp hp).1
          omega
        refine ⟨rfl, .str (SX.S p), rfl, .ref ra, rfl, m, p, ra, r, rfl, op.1, hd1_le _ _ (s9 _ _ hra8), okr.2, okr.1, m6, fun H10 s10 => ⟨_, rfl, ite2 (fun _ => ?_) (fun _ => ?_)⟩⟩
        · refine ⟨.str (SX.S p), rfl, _, s10 _ _ hM, ?_, (s9.trans (hd1_same s10)).trans hd1_upd, fs ++ [p], ?_, by rw [List.length_append]; exact Nat.succ_le_succ lfs, fun z hz => ?_⟩
          · unfold pVs
            rw [List.length_map]
            exact Nat.lt_of_lt_of_le (show _ < 64 by omega) (by decide)
          · rw [upd_same]
            unfold pVs
            rw [List.map_append]
            rfl
          · rcases List.mem_append.mp hz with h | h
            · exact okf z h
            · rw [List.mem_singleton.mp h]; exact op
        · exact ⟨s9.trans (hd1_same s10), fs, s10 _ _ hM, by omega, okf⟩
      rintro H9 ⟨s9, fs, hM, lfs, okf⟩
      have s89 : Same H8 H9 := fun b o e => hd1_le _ _ (s9 _ _ e)
      refine ⟨Nat.zero_le _, fun e ne => ?_⟩
      have s10 := same_upd (o := HO.lst []) ne
      refine ⟨.list (fs.map fun p => .str (SX.S p)), .list [], .lst (SqL.of (s10 _ _ hM)) (dpStrs fs), .lst (SqL.of upd_same) .nil, sh_strsL okf, rfl, .inr ⟨_, rfl, ?_⟩⟩
      have b01 : ∀ z : Bool, (if z = true then (1 : Int) else 0) = 0 ∨ (if z = true then (1 : Int) else 0) = 1 := fun z => by cases z <;> simp
      have s8A := s89.trans s10
      have DA := D8.same s8A
      have frA := fr08.trans (Fr.of s8A)
      have hLA := s8A _ _ hL8
      have hcaA := s8A _ _ hca8
      have tcsA := tcs8.same s8A
      have hraA := s8A _ _ hra8
      generalize upd H9 e (.lst []) = HA at DA frA hLA hcaA tcsA hraA ⊢
      have p2 : (0 : Int) < 2 := by decide
      refine ⟨.ref ra, rfl, ra, r, rfl, SqT.of hraA, _, _, rfl, rfl, p2, sl3, fun w1' nw1 => ?_⟩
      have ow1 := DA.off nw1
      have x2 : r.sum % 2 = 0 ∨ r.sum % 2 = 1 := by omega
      have xb := b01 (!PyData.eqv (.list (fs.map fun p => .str (SX.S p))) (.list []))
      dsimp only
      revert x2 xb
      generalize r.sum % 2 = x2v
      generalize (if (!PyData.eqv (.list (fs.map fun p => .str (SX.S p))) (.list [])) = true then (1 : Int) else 0) = xbv
      intro x2 xb
      have sB := same_upd (o := (HO.lst [V.int v, V.int xbv, V.int x2v])) nw1
      have hw1 : upd HA w1' (HO.lst [V.int v, V.int xbv, V.int x2v]) w1' = some (HO.lst [V.int v, V.int xbv, V.int x2v]) := upd_same
      generalize upd HA w1' (HO.lst [V.int v, V.int xbv, V.int x2v]) = HB at sB hw1 ⊢
      have DB := DA.same sB
      refine ⟨.ref w1', rfl, .ref d, rfl, d, l, 6, _, rfl, DB, by omega, by decide, by decide, fun HC u1 DC frC u10 u11 => ?_⟩
      refine ⟨_, _, rfl, rfl, .inr ⟨_, rfl, .ref d, rfl, d, l, 6, _, rfl, DC, by omega, by decide, by decide, fun HD u2 DD frD u20 u21 => ?_⟩⟩
      have frBD := frC.trans frD
      have tsD := (Ts.same sB).trans ((Ts.frG DB frC).trans (Ts.frG DC frD))
      have hwD := frBD _ _ ow1.1 ow1.2 hw1
      have hLD := frBD _ _ oL.1 oL.2 (sB _ _ hLA)
      have hcaD := frBD _ _ oca.1 oca.2 (sB _ _ hcaA)
      have tcsD := tcsA.ts tsD (noLs_map (fun r => noL_row r) _)
      have hraD := tsD _ _ hraA
      have frD0 := (frA.trans (Fr.of sB)).trans frBD
      refine ⟨rfl, .inr ⟨_, rfl, .int (k : Nat), rfl, .int od, rfl, rfl, .inr ⟨_, rfl, sl3, fun w2 nw2 => ?_⟩⟩⟩
      have y1 := b01 (decide (u1 > 0))
      have y2 := b01 (decide (V.int u2 = V.int 0))
      have y3 := b01 (!decide (V.int (k : Nat) = V.int od))
      dsimp only
      revert y1 y2 y3
      generalize (if decide (u1 > 0) = true then (1 : Int) else 0) = y1v
      generalize (if decide (V.int u2 = V.int 0) = true then (1 : Int) else 0) = y2v
      generalize (if (!decide (V.int (k : Nat) = V.int od)) = true then (1 : Int) else 0) = y3v
      intro y1 y2 y3
      have sE := same_upd (o := (HO.lst [V.int y1v, V.int y2v, V.int y3v])) nw2
      have hw2 : upd HD w2 (HO.lst [V.int y1v, V.int y2v, V.int y3v]) w2 = some (HO.lst [V.int y1v, V.int y2v, V.int y3v]) := upd_same
      generalize upd HD w2 (HO.lst [V.int y1v, V.int y2v, V.int y3v]) = HE at sE hw2 ⊢
      have DE := DD.same sE
      refine ⟨w1', w2, _, _, rfl, rfl, sE _ _ hwD, hw2, (show 6 ≤ sizeLine by decide), fun w3 nw3 => ?_⟩
      rw [show [V.int v, V.int xbv, V.int x2v] ++ [V.int y1v, V.int y2v, V.int y3v] = [V.int v, V.int xbv, V.int x2v, V.int y1v, V.int y2v, V.int y3v] from rfl]
      have ow3 := DE.off nw3
      have sG := same_upd (o := (HO.lst [V.int v, V.int xbv, V.int x2v, V.int y1v, V.int y2v, V.int y3v])) nw3
      have hw3 : upd HE w3 (HO.lst [V.int v, V.int xbv, V.int x2v, V.int y1v, V.int y2v, V.int y3v]) w3 = some (HO.lst [V.int v, V.int xbv, V.int x2v, V.int y1v, V.int y2v, V.int y3v]) := upd_same
      generalize upd HE w3 (HO.lst [V.int v, V.int xbv, V.int x2v, V.int y1v, V.int y2v, V.int y3v]) = HG at sG hw3 ⊢
      have sEG := sE.trans sG
      have DG := DE.same sG
      have hraG := sEG _ _ hraD
      have hLG := sEG _ _ hLD
      have hcaG := sEG _ _ hcaD
      have tcsG := tcsD.same sEG
      have frG := frD0.trans (Fr.of sEG)
      refine ⟨.ref w3, rfl, .inl ⟨rfl, _, SqL.of hw3⟩, ?_⟩
      refine ⟨.ref ra, rfl, ra, r, rfl, SqT.of hraG, _, _, rfl, rfl, .inl ⟨by decide, by decide⟩, .int m, rfl, _, _, rfl, rfl, .inr ⟨_, rfl, w3, _, _, rfl, rfl, hw3, (show 6 < sizeLine by decide), ?_⟩⟩
      have y7 := b01 (decide (2 * r.sum > (m : Int)))
      dsimp only
      revert y7
      generalize (if decide (2 * r.sum > (m : Int)) = true then (1 : Int) else 0) = y7v
      intro y7
      rw [show [V.int v, V.int xbv, V.int x2v, V.int y1v, V.int y2v, V.int y3v] ++ [V.int y7v] = [V.int v, V.int xbv, V.int x2v, V.int y1v, V.int y2v, V.int y3v, V.int y7v] from rfl]
      have tsW : Ts HG (upd HG w3 (.lst [V.int v, V.int xbv, V.int x2v, V.int y1v, V.int y2v, V.int y3v, V.int y7v])) := Ts.set hw3
      have nw30 := none_of_frG frD0 DD (by
        cases z : HD w3 with
        | none => rfl
        | some o => rw [sE _ _ z] at nw3; cases nw3)
      have hW : (upd HG w3 (.lst [V.int v, V.int xbv, V.int x2v, V.int y1v, V.int y2v, V.int y3v, V.int y7v])) w3 = some (.lst [V.int v, V.int xbv, V.int x2v, V.int y1v, V.int y2v, V.int y3v, V.int y7v]) := upd_same
      obtain ⟨x, hat, x01⟩ := pick7 (a := v) (b := xbv) (c := x2v) (d := y1v) (e := y2v) (f := y3v) (g := y7v) w0 w1 (fun z hz => by
        simp only [List.mem_cons, List.not_mem_nil, or_false] at hz
        rcases hz with rfl | rfl | rfl | rfl | rfl | rfl | rfl
        · omega
        · exact xb
        · exact x2
        · exact y1
        · exact y2
        · exact y3
        · exact y7)
      have hLw : L ≠ w3 := ne_of_none (sE _ _ hLD) nw3
      have hcw : ca ≠ w3 := ne_of_none (sE _ _ hcaD) nw3
      refine ⟨.str (tabOf bs), rfl, .ref w3, rfl, .int way, rfl, w3, _, way, .int x, rfl, rfl, SqL.of hW, hat, x, rfl, by rcases x01 with rfl | rfl <;> decide, ?_⟩
      rw [str01 x01]
      refine ⟨_, _, rfl, rfl, ?_, ?_⟩
      · show (tabOf bs).length + 1 ≤ sizeLine
        have : (tabOf bs).length = bs.length := by
          show ((bs.map fun b => if b = true then 49 else 48).toArray).size = _
          rw [List.size_toArray, List.length_map]
        rw [this]
        exact Nat.le_trans (show bs.length + 1 ≤ 65 by omega) (by decide)
      obtain ⟨b', eb⟩ : ∃ b' : Bool, wS x = if b' = true then 49 else 48 := by
        rcases x01 with rfl | rfl
        · exact ⟨false, rfl⟩
        · exact ⟨true, rfl⟩
      rw [eb, tab_app]
      exact ⟨bs ++ [b'], _, _, _, rfl, (DG.upd ow3.1 ow3.2).mono (by push_cast; omega), Fr.upd frG nw30, by rw [List.length_append, lbs]; rfl, by rw [upd_ne hLw]; exact hLG, by rw [upd_ne hcw]; exact hcaG, tcsG.ts tsW (noLs_map (fun r => noL_row r) _)⟩
    · rintro σ H6 ⟨bs, y7, y8, y9, rfl, D6, fr6, lbs, hL6, hca6, tcs6⟩
      exact ⟨.str (tabOf bs), rfl, q bs H6 (D6.mono (by omega)) fr6 (by rw [lbs, lcs])⟩

end
end Gk

set_option Elab.async false
set_option linter.all false
set_option maxRecDepth 100000
set_option maxHeartbeats 1000000
set_option pp.maxSteps 1500
set_option pp.deepTerms false
namespace Gk
open PySem PySem.Spec PyProof.Rows L2
section
variable {P : Program} {w : World} {K : PySem.W.Frag} {mg : Str → Option Value} {base : Heap}
/-! ### covers: the program's own -/
def ChAt (H : Hp) (c : Addr) (a b : List Int) : Prop := ∃ ra rb, H c = some (.tup [.ref ra, .ref rb]) ∧ H ra = some (.tup (a.map V.int)) ∧ H rb = some (.tup (b.map V.int))
theorem ChAt.gr {H H' : Hp} {c : Addr} {a b : List Int} (h : ChAt H c a b) (g : Gr H H') : ChAt H' c a b := by
  obtain ⟨ra, rb, h1, h2, h3⟩ := h
  exact ⟨ra, rb, g.tup h1, g.tup h2, g.tup h3⟩
structure ChOk (m : Nat) (a b : List Int) : Prop where
  la : a.length = m
  lb : b.length = m
  oa : Row01' a
  ob : Row01' b
  m6 : m ≤ 6


theorem lc_enum {K : PySem.W.Frag} {a : Addr} {xs : List V} {g : TG} {tt : TT} {te : TE} {vs : List Nat} {σ : L2.St} {H1 : Hp} {D : Addr} {Qd : Hp → Prop} (Pv : Nat → Hp → Prop) (h0 : Pv 0 (upd H1 D (.lst []))) (hl : ∀ i H, i ≤ xs.length → Pv i H → SqL K H a xs)
    (hs : ∀ i x T H, xs[i]? = some x → H T = none → Pv i H → g (.ref T) (wipe σ vs) (upd H T (.tup [.int (i : Nat), x])) fun σ2 H2 => wipe σ2 vs = wipe σ vs ∧ tt σ2 H2 fun b H3 =>
      if b = true then te σ2 H3 fun y H4 => ∃ acc, H4 D = some (.lst acc) ∧ acc.length < sizeLine ∧ Pv (i + 1) (upd H4 D (.lst (acc ++ [y]))) else Pv (i + 1) H3) (hd : ∀ H, Pv xs.length H → Qd H) :
    ∃ W : Nat → Nat → Hp → Prop, (∃ m, W 0 m (upd H1 D (.lst []))) ∧ ∀ i m H, W i m H →
      ((Ite K a).stop i H ∧ Qd H) ∨ ((Ite K a).go i H ∧ ∃ Nx : Hp → Prop, (∀ H', Nx H' → ∃ m', m' < m ∧ W (i + 1) m' H') ∧ ∀ x H', (Ite K a).yld i H x H' → g x (wipe σ vs) H' fun σ2 H2 => wipe σ2 vs = wipe σ vs ∧ tt σ2 H2 fun b H3 =>
        if b = true then te σ2 H3 fun y H4 => ∃ acc, H4 D = some (.lst acc) ∧ acc.length < sizeLine ∧ Nx (upd H4 D (.lst (acc ++ [y]))) else Nx H3) := by
  refine ⟨fun i m H => m = xs.length - i ∧ i ≤ xs.length ∧ Pv i H, ⟨xs.length, by simp, Nat.zero_le _, h0⟩, ?_⟩
  rintro i m H ⟨rfl, hi, p⟩
  have qx := hl i H hi p
  by_cases hlt : i < xs.length
  · have hx : xs[i]? = some xs[i] := List.getElem?_eq_getElem hlt
    refine .inr ⟨⟨xs, _, qx, hx⟩, Pv (i + 1), fun H' p' => ⟨xs.length - (i + 1), by omega, rfl, hlt, p'⟩, fun x H' y => ?_⟩
    obtain ⟨T, x1, rfl, nT, rfl, e1⟩ := y
    exact hs i x1 T H (e1 xs qx) nT p
  · have e : i = xs.length := by omega
    subst e
    exact .inl ⟨⟨xs, qx, Nat.le_refl _⟩, hd H p⟩

/-! ### a change drawn -/
def Rw (H : Hp) (m : Nat) (v : V) : Prop := ∃ p r, v = .ref p ∧ H p = some (.tup (r.map V.int)) ∧ r.length = m ∧ Row01' r
theorem Rw.ts {H H' : Hp} {m : Nat} {v : V} (h : Rw H m v) (s : Ts H H') : Rw H' m v := by
  obtain ⟨p, r, e, h, z⟩ := h
  exact ⟨p, r, e, s _ _ h, z⟩
theorem rw_all {H : Hp} {cs : List V} {m : Nat} (t : TkAll H cs ((rowsU m).map rowD)) : ∀ x ∈ cs, Rw H m x := fun x hx => by
  obtain ⟨r, hr, tr⟩ := t.memX x hx
  obtain ⟨p, rfl, hp⟩ := tr.row_inv
  exact ⟨p, r, rfl, hp, rowsU_ok m r hr⟩
theorem ChAt.ts {H H' : Hp} {c : Addr} {a b : List Int} (h : ChAt H c a b) (g : Ts H H') : ChAt H' c a b := by
  obtain ⟨ra, rb, h1, h2, h3⟩ := h
  exact ⟨ra, rb, g _ _ h1, g _ _ h2, g _ _ h3⟩
theorem pair_at {H : Hp} {t : Addr} {u v : V} {m : Nat} (ht : H t = some (.tup [u, v])) (hu : Rw H m u) (hv : Rw H m v) (m6 : m ≤ 6) : ∃ a b, ChAt H t a b ∧ ChOk m a b := by
  obtain ⟨p, a, rfl, hp, la, oa⟩ := hu
  obtain ⟨p', b, rfl, hp', lb, ob⟩ := hv
  exact ⟨a, b, ⟨p, p', ht, hp, hp'⟩, ⟨la, lb, oa, ob, m6⟩⟩
theorem tab_cps {bs : List Bool} {k : Nat} (h : k < bs.length) : (tabOf bs).cps[(((k : Nat) : Int)).toNat]? = some (if bs[k] = true then 49 else 48) := by
  show ((bs.map fun b => if b = true then 49 else 48).toArray)[k]? = _
  rw [List.getElem?_toArray, List.getElem?_map, List.getElem?_eq_getElem h]
  rfl
theorem tab_len (bs : List Bool) : (tabOf bs).length = bs.length := by simp [tabOf, Str.length]
def sp_change (K : PySem.W.Frag) : Sp := fun vs H Q _ => ∃ (d l : Addr) (n : Int) (m : Nat) (bs : List Bool), vs = [.ref d, .int m, .str (tabOf bs)] ∧ DeckG H d l n ∧ n < 800000000 ∧ 1 ≤ m ∧ m ≤ 6 ∧ bs.length = 2 ^ m ∧ ∀ (c : Addr) (a b : List Int) (H' : Hp), DeckG H' d l (n + 6) → Fr d l H H' → H c = none → ChAt H' c a b → ChOk m a b → Q (.ref c) H'
theorem ok_change (T : Tx K mg) : FnOk P w K mg base CX0 2 T.f_change T.fd_change ["_law_deck_here", "_law_many", "_law_table_here"] (sp_change K) := by
  refine T.F_change.ok sc_change (fun vs H Q E h => ?_) (fun cdv A outer s H vs Q E hr h => ?_)
  · obtain ⟨d, l, n, m, bs, rfl, _⟩ := h
    rfl
  · obtain ⟨d, l, n, m, bs, rfl, D, hn, m1, m6, lb, q⟩ := h
    refine ⟨_, (pss_cons (ps_set (i := 3) sc_change.nd rfl (by first | exact .inl rfl | exact .inr rfl) (pe_call (ok_next T) (hr.mono (by decide)) (by rfl) T.g_next T.F_next.kp T.b_next .nil pass0 (pa_cons (pv 0) (pa_cons pe_int pa_nil)))) (pss_cons (ps_set (i := 4) sc_change.nd rfl (by first | exact .inl rfl | exact .inr rfl) (pe_call (ok_rows T) (hr.mono (by decide)) (by rfl) T.g_rows T.F_rows.kp T.b_rows .nil pass0 (pa_cons (pv 1) pa_nil))) (pss_cons (ps_set (i := 5) sc_change.nd rfl (by first | exact .inl rfl | exact .inr rfl) (pe_ix ix_list (pv 4) (pe_call (ok_next T) (hr.mono (by decide)) (by rfl) T.g_next T.F_next.kp T.b_next .nil pass0 (pa_cons (pv 0) (pa_cons (pe_callB call_len_seq (by rfl) T.m_len PySem.boot_len (pa_cons (pv 4) pa_nil)) pa_nil))) (fun _ _ => rfl))) (pss_cons (ps_set (i := 6) sc_change.nd rfl (by first | exact .inl rfl | exact .inr rfl) (pe_ix ix_list (pv 4) (pe_call (ok_next T) (hr.mono (by decide)) (by rfl) T.g_next T.F_next.kp T.b_next .nil pass0 (pa_cons (pv 0) (pa_cons (pe_callB call_len_seq (by rfl) T.m_len PySem.boot_len (pa_cons (pv 4) pa_nil)) pa_nil))) (fun _ _ => rfl))) (pss_cons (ps_set (i := 7) sc_change.nd rfl (by first | exact .inl rfl | exact .inr rfl) (pe_call (ok_next T) (hr.mono (by decide)) (by rfl) T.g_next T.F_next.kp T.b_next .nil pass0 (pa_cons (pv 0) (pa_cons (pv 1) pa_nil)))) (pss_cons (ps_set (i := 8) sc_change.nd rfl (by first | exact .inl rfl | exact .inr rfl) (pe_op op_cat (pe_lc (own := [("_law_k", 13), ("_law_row", 14)]) (by rfl) sc_change.nd (pi_enum (by rfl) T.m_enumerate (pa_cons (pv 4) pa_nil)) (blkOk_by (own := [("_law_k", 13), ("_law_row", 14)]) (N := ["_law_deck_here", "_law_many", "_law_table_here", "_law_way", "_law_rows_here", "_law_one", "_law_other", "_law_place", "_law_ones", "_law_noughts", "_law_bright", "_law_dark", "_law_beside", "_law_k", "_law_row"]) (sc := defScope s_change) (by decide +kernel)) (fun _ _ _ _ _ => (show PG _ _ (gTup K 2 _) from pg_tup rfl (pgs_cons (pg_name (i := 13) sc_change.nd rfl (by first | exact .inl rfl | exact .inr rfl)) (pgs_cons (pg_name (i := 14) sc_change.nd rfl (by first | exact .inl rfl | exact .inr rfl)) pgs_nil)))) (fun _ _ _ _ _ => (pts_one (pt_cmpR op_eq (pe_item_str (pv 2) (pv 13) (fun _ _ => rfl)) pe_str (nomark _)))) (fun _ _ _ _ _ => (pv 14))) (pe_lst (pa_cons (pv 5) pa_nil)))) (pss_cons (ps_set (i := 9) sc_change.nd rfl (by first | exact .inl rfl | exact .inr rfl) (pe_op op_cat (pe_lc (own := [("_law_k", 13), ("_law_row", 14)]) (by rfl) sc_change.nd (pi_enum (by rfl) T.m_enumerate (pa_cons (pv 4) pa_nil)) (blkOk_by (own := [("_law_k", 13), ("_law_row", 14)]) (N := ["_law_deck_here", "_law_many", "_law_table_here", "_law_way", "_law_rows_here", "_law_one", "_law_other", "_law_place", "_law_ones", "_law_noughts", "_law_bright", "_law_dark", "_law_beside", "_law_k", "_law_row"]) (sc := defScope s_change) (by decide +kernel)) (fun _ _ _ _ _ => (show PG _ _ (gTup K 2 _) from pg_tup rfl (pgs_cons (pg_name (i := 13) sc_change.nd rfl (by first | exact .inl rfl | exact .inr rfl)) (pgs_cons (pg_name (i := 14) sc_change.nd rfl (by first | exact .inl rfl | exact .inr rfl)) pgs_nil)))) (fun _ _ _ _ _ => (pts_one (pt_cmpR op_eq (pe_item_str (pv 2) (pv 13) (fun _ _ => rfl)) pe_str (nomark _)))) (fun _ _ _ _ _ => (pv 14))) (pe_lst (pa_cons (pv 6) pa_nil)))) (pss_cons (ps_set (i := 10) sc_change.nd rfl (by first | exact .inl rfl | exact .inr rfl) (pe_ix ix_list (pv 8) (pe_call (ok_next T) (hr.mono (by decide)) (by rfl) T.g_next T.F_next.kp T.b_next .nil pass0 (pa_cons (pv 0) (pa_cons (pe_callB call_len_seq (by rfl) T.m_len PySem.boot_len (pa_cons (pv 8) pa_nil)) pa_nil))) (fun _ _ => rfl))) (pss_cons (ps_set (i := 11) sc_change.nd rfl (by first | exact .inl rfl | exact .inr rfl) (pe_ix ix_list (pv 9) (pe_call (ok_next T) (hr.mono (by decide)) (by rfl) T.g_next T.F_next.kp T.b_next .nil pass0 (pa_cons (pv 0) (pa_cons (pe_callB call_len_seq (by rfl) T.m_len PySem.boot_len (pa_cons (pv 9) pa_nil)) pa_nil))) (fun _ _ => rfl))) (pss_cons (ps_set (i := 12) sc_change.nd rfl (by first | exact .inl rfl | exact .inr rfl) (pe_op op_catA (pe_op op_catA (pe_slice sl_tupA (pv 5) po_none (po_some (pv 7))) (pe_tup (pa_cons (pe_op op_sub pe_int (pe_ix ix_tup (pv 5) (pv 7) (fun _ _ => rfl))) pa_nil))) (pe_slice sl_tupA (pv 5) (po_some (pe_op op_add (pv 7) pe_int)) po_none))) (pss_one (ps_ret (pe_ix ix_list (pe_lst (pa_cons (pe_tup (pa_cons (pv 5) (pa_cons (pv 12) pa_nil))) (pa_cons (pe_tup (pa_cons (pv 5) (pa_cons (pv 6) pa_nil))) (pa_cons (pe_tup (pa_cons (pv 5) (pa_cons (pv 5) pa_nil))) (pa_cons (pe_tup (pa_cons (pv 10) (pa_cons (pv 11) pa_nil))) (pa_cons (pe_tup (pa_cons (pv 11) (pa_cons (pv 10) pa_nil))) (pa_cons (pe_tup (pa_cons (pv 10) (pa_cons (pe_ix ix_list (pv 8) pe_int (fun _ _ => rfl)) pa_nil))) pa_nil))))))) (pv 3) (fun _ _ => rfl)))))))))))))), ?_⟩
    refine ⟨.ref d, rfl, d, l, 6, _, rfl, D, by omega, by decide, by decide, fun H1 way D1 fr1 w0 w1 => ?_⟩
    refine ⟨.int m, rfl, m, rfl, m1, m6, fun ca H2 nca s2 tc => ?_⟩
    have D2 := D1.same s2
    have fr2 := fr1.trans (Fr.of s2)
    obtain ⟨_, cs, e, hca, tcs⟩ := tc.lst_inv
    cases e
    have lcs : cs.length = 2 ^ m := by rw [tcs.length, List.length_map, rowsU_len]
    have l64 : 2 ^ m ≤ 64 := Nat.pow_le_pow_right (by decide) m6
    have lpos : 1 ≤ 2 ^ m := Nat.one_le_two_pow
    have oca := D1.off nca
    refine ⟨.ref ca, rfl, .ref d, rfl, .ref ca, rfl, ca, _, rfl, .inl (SqL.of hca), ?_⟩
    rw [lcs]
    refine ⟨d, l, _, _, rfl, D2, by omega, by omega, by omega, fun H3 i1 D3 fr3 a0 a1 => ?_⟩
    have hca3 := fr3 _ _ oca.1 oca.2 hca
    have tcs3 := tcs.ts (Ts.frG D2 fr3) (noLs_map (fun r => noL_row r) _)
    obtain ⟨v1, hv1, mv1⟩ := at_pick (xs := cs) a0 (by rw [lcs]; exact a1)
    refine ⟨ca, _, _, v1, rfl, rfl, SqL.of hca3, hv1, ?_⟩
    refine ⟨.ref ca, rfl, .ref d, rfl, .ref ca, rfl, ca, _, rfl, .inl (SqL.of hca3), ?_⟩
    rw [lcs]
    refine ⟨d, l, _, _, rfl, D3, by omega, by omega, by omega, fun H4 i2 D4 fr4 b0 b1 => ?_⟩
    have hca4 := fr4 _ _ oca.1 oca.2 hca3
    have tcs4 := tcs3.ts (Ts.frG D3 fr4) (noLs_map (fun r => noL_row r) _)
    obtain ⟨v2, hv2, mv2⟩ := at_pick (xs := cs) b0 (by rw [lcs]; exact b1)
    refine ⟨ca, _, _, v2, rfl, rfl, SqL.of hca4, hv2, ?_⟩
    refine ⟨.ref d, rfl, .int m, rfl, d, l, m, _, rfl, D4, by omega, by omega, by omega, fun H5 pl D5 fr5 p0 p1 => ?_⟩
    have hca5 := fr5 _ _ oca.1 oca.2 hca4
    have tcs5 := tcs4.ts (Ts.frG D4 fr5) (noLs_map (fun r => noL_row r) _)
    have fr05 := (fr2.trans fr3).trans (fr4.trans fr5)
    show tSeq _ _ _ [some (.ref d), some (.int m), some (.str (tabOf bs)), some (.int way), some (.ref ca), some v1, some v2, some (.int pl), none, none, none, none, none, none, none] H5
    refine ⟨.ref ca, rfl, ca, _, rfl, SqL.of hca5, fun L nL => ?_⟩
    refine lc_enum (K := K) (a := ca) (xs := cs) (fun j H' => Same H5 (hd1 L H') ∧ ∃ xs, H' L = some (.lst xs) ∧ xs.length ≤ j ∧ ∀ x ∈ xs, x ∈ cs) ⟨hd1_of (same_upd nL) nL, [], upd_same, Nat.zero_le _, fun x hx => by cases hx⟩ (fun j H' _ z => SqL.of (hd1_le _ _ (z.1 _ _ hca5))) ?_ ?_
    · rintro j x Tq H6 hx nT ⟨s6, xs, hL, lx, mx⟩
      have hj := (List.getElem?_eq_some_iff.mp hx).1
      have sT := same_upd (o := HO.tup [.int (j : Nat), x]) nT
      refine ⟨Tq, _, rfl, SqT.of upd_same, rfl, _, _, rfl, _, _, rfl, rfl, rfl, ?_⟩
      refine ⟨.str (tabOf bs), rfl, .int (j : Nat), rfl, tabOf bs, ((j : Nat) : Int), _, rfl, rfl, by omega, by omega, by rw [tab_len]; omega, tab_cps (by omega), rfl, _, rfl, ite2 (fun _ => ?_) (fun _ => ?_)⟩
      · refine ⟨x, rfl, xs, sT _ _ hL, Nat.lt_of_lt_of_le (show _ < 128 by omega) (by decide), (s6.trans (hd1_same sT)).trans hd1_upd, xs ++ [x], upd_same, by rw [List.length_append]; exact Nat.succ_le_succ lx, fun z hz => ?_⟩
        rcases List.mem_append.mp hz with h | h
        · exact mx z h
        · rw [List.mem_singleton.mp h]; exact List.mem_of_getElem? hx
      · exact ⟨s6.trans (hd1_same sT), xs, sT _ _ hL, by omega, mx⟩
    rintro H6 ⟨s6, xs, hL, lx, mx⟩
    have s56 : Same H5 H6 := fun b o e => hd1_le _ _ (s6 _ _ e)
    refine ⟨v1, rfl, sl1, fun M nM => ?_⟩
    have s7 := same_upd (o := (HO.lst [v1])) nM
    have hM : upd H6 M (HO.lst [v1]) M = some (HO.lst [v1]) := upd_same
    generalize upd H6 M (HO.lst [v1]) = H7 at s7 hM ⊢
    refine ⟨L, M, _, _, rfl, rfl, s7 _ _ hL, hM, Nat.le_trans (show xs.length + 1 ≤ 128 by omega) (by decide), fun O nO => ?_⟩
    have s8 := same_upd (o := (HO.lst (xs ++ [v1]))) nO
    have hO : upd H7 O (HO.lst (xs ++ [v1])) O = some (HO.lst (xs ++ [v1])) := upd_same
    generalize upd H7 O (HO.lst (xs ++ [v1])) = H8 at s8 hO ⊢
    have s58 := (s56.trans s7).trans s8
    have mO : ∀ x ∈ xs ++ [v1], x ∈ cs := fun z hz => by
      rcases List.mem_append.mp hz with h | h
      · exact mx z h
      · rw [List.mem_singleton.mp h]; exact mv1
    have lO : 1 ≤ (xs ++ [v1]).length ∧ (xs ++ [v1]).length ≤ 65 := by
      rw [List.length_append]
      show 1 ≤ xs.length + 1 ∧ xs.length + 1 ≤ 65
      omega
    revert hO mO lO
    generalize xs ++ [v1] = os
    intro hO mO lO
    have hca8 := s58 _ _ hca5
    show tSeq _ _ _ [some (.ref d), some (.int m), some (.str (tabOf bs)), some (.int way), some (.ref ca), some v1, some v2, some (.int pl), some (.ref O), none, none, none, none, none, none] H8
    refine ⟨.ref ca, rfl, ca, _, rfl, SqL.of hca8, fun L' nL' => ?_⟩
    refine lc_enum (K := K) (a := ca) (xs := cs) (fun j H' => Same H8 (hd1 L' H') ∧ ∃ xs, H' L' = some (.lst xs) ∧ xs.length ≤ j ∧ ∀ x ∈ xs, x ∈ cs) ⟨hd1_of (same_upd nL') nL', [], upd_same, Nat.zero_le _, fun x hx => by cases hx⟩ (fun j H' _ z => SqL.of (hd1_le _ _ (z.1 _ _ hca8))) ?_ ?_
    · rintro j x Tq H9 hx nT ⟨s9, ys, hL', ly, my⟩
      have hj := (List.getElem?_eq_some_iff.mp hx).1
      have sT := same_upd (o := HO.tup [.int (j : Nat), x]) nT
      refine ⟨Tq, _, rfl, SqT.of upd_same, rfl, _, _, rfl, _, _, rfl, rfl, rfl, ?_⟩
      refine ⟨.str (tabOf bs), rfl, .int (j : Nat), rfl, tabOf bs, ((j : Nat) : Int), _, rfl, rfl, by omega, by omega, by rw [tab_len]; omega, tab_cps (by omega), rfl, _, rfl, ite2 (fun _ => ?_) (fun _ => ?_)⟩
      · refine ⟨x, rfl, ys, sT _ _ hL', Nat.lt_of_lt_of_le (show _ < 128 by omega) (by decide), (s9.trans (hd1_same sT)).trans hd1_upd, ys ++ [x], upd_same, by rw [List.length_append]; exact Nat.succ_le_succ ly, fun z hz => ?_⟩
        rcases List.mem_append.mp hz with h | h
        · exact my z h
        · rw [List.mem_singleton.mp h]; exact List.mem_of_getElem? hx
      · exact ⟨s9.trans (hd1_same sT), ys, sT _ _ hL', by omega, my⟩
    rintro H9 ⟨s9, ys, hL', ly, my⟩
    have s89 : Same H8 H9 := fun b o e => hd1_le _ _ (s9 _ _ e)
    refine ⟨v2, rfl, sl1, fun M' nM' => ?_⟩
    have sA := same_upd (o := (HO.lst [v2])) nM'
    have hM' : upd H9 M' (HO.lst [v2]) M' = some (HO.lst [v2]) := upd_same
    generalize upd H9 M' (HO.lst [v2]) = HA at sA hM' ⊢
    refine ⟨L', M', _, _, rfl, rfl, sA _ _ hL', hM', Nat.le_trans (show ys.length + 1 ≤ 128 by omega) (by decide), fun N nN => ?_⟩
    have sB := same_upd (o := (HO.lst (ys ++ [v2]))) nN
    have hN : upd HA N (HO.lst (ys ++ [v2])) N = some (HO.lst (ys ++ [v2])) := upd_same
    generalize upd HA N (HO.lst (ys ++ [v2])) = HB at sB hN ⊢
    have s8B := (s89.trans sA).trans sB
    have mN : ∀ x ∈ ys ++ [v2], x ∈ cs := fun z hz => by
      rcases List.mem_append.mp hz with h | h
      · exact my z h
      · rw [List.mem_singleton.mp h]; exact mv2
    have lN : 1 ≤ (ys ++ [v2]).length ∧ (ys ++ [v2]).length ≤ 65 := by
      rw [List.length_append]
      show 1 ≤ ys.length + 1 ∧ ys.length + 1 ≤ 65
      omega
    revert hN mN lN
    generalize ys ++ [v2] = ns
    intro hN mN lN
    have DB := D5.same (s58.trans s8B)
    have frB := fr05.trans (Fr.of (s58.trans s8B))
    have tcsB := tcs5.same (s58.trans s8B)
    have hOB := s8B _ _ hO
    have oO := (D5.same ((s56.trans s7))).off nO
    have oN := (D5.same ((s58.trans s89).trans sA)).off nN
    refine ⟨.ref O, rfl, .ref d, rfl, .ref O, rfl, O, _, rfl, .inl (SqL.of hOB), d, l, _, _, rfl, DB, by omega, by omega, by omega, fun HC i3 DC frC c0 c1 => ?_⟩
    have hOC := frC _ _ oO.1 oO.2 hOB
    have hNC := frC _ _ oN.1 oN.2 hN
    obtain ⟨v3, hv3, mv3⟩ := at_pick (xs := os) c0 c1
    refine ⟨O, _, _, v3, rfl, rfl, SqL.of hOC, hv3, ?_⟩
    refine ⟨.ref N, rfl, .ref d, rfl, .ref N, rfl, N, _, rfl, .inl (SqL.of hNC), d, l, _, _, rfl, DC, by omega, by omega, by omega, fun HD i4 DD frD d0 d1 => ?_⟩
    have hOD := frD _ _ oO.1 oO.2 hOC
    have hND := frD _ _ oN.1 oN.2 hNC
    obtain ⟨v4, hv4, mv4⟩ := at_pick (xs := ns) d0 d1
    refine ⟨N, _, _, v4, rfl, rfl, SqL.of hND, hv4, ?_⟩
    have tcsD := tcsB.ts ((Ts.frG DB frC).trans (Ts.frG DC frD)) (noLs_map (fun r => noL_row r) _)
    have frBD := frB.trans (frC.trans frD)
    obtain ⟨p1', r1, rfl, hp1, lr1, or1⟩ := rw_all tcsD v1 mv1
    obtain ⟨k, rfl⟩ := Int.eq_ofNat_of_zero_le p0
    have hk : k < r1.length := by omega
    have hat : atI (r1.map V.int) ((k : Nat) : Int) = some (.int r1[k]) := atI_nat (by rw [List.getElem?_map, List.getElem?_eq_getElem hk]; rfl)
    show tSeq _ _ _ [some (.ref d), some (.int m), some (.str (tabOf bs)), some (.int way), some (.ref ca), some (.ref p1'), some v2, some (.int (k : Nat)), some (.ref O), some (.ref N), some v3, some v4, none, none, none] HD
    refine ⟨.ref p1', rfl, .int (k : Nat), rfl, (k : Int), rfl, slA hp1 fun q1 HE sE hq1 => ?_⟩
    rw [cut_to] at hq1
    refine ⟨.ref p1', rfl, .int (k : Nat), rfl, p1', _, _, _, rfl, rfl, SqT.of (sE _ _ hp1), hat, _, _, rfl, rfl, sl1, fun t nt => ?_⟩
    have sF := same_upd (o := (HO.tup [V.int (1 - r1[k])])) nt
    have ht : upd HE t (HO.tup [V.int (1 - r1[k])]) t = some (HO.tup [V.int (1 - r1[k])]) := upd_same
    generalize upd HE t (HO.tup [V.int (1 - r1[k])]) = HF at sF ht ⊢
    refine catA (sF _ _ hq1) ht ?_ fun q2 HG sG hq2 => ?_
    · rw [List.length_take, List.length_map]
      exact Nat.le_trans (show _ ≤ 64 by simp only [List.length_cons, List.length_nil]; omega) (by decide)
    have sDG := (sE.trans sF).trans sG
    refine ⟨.ref p1', rfl, .int (k : Nat), rfl, _, _, rfl, rfl, ((k + 1 : Nat) : Int), rfl, ?_⟩
    refine slAn (sDG _ _ hp1) fun q3 HI sI hq3 => ?_
    rw [cut_from] at hq3
    refine catA (sI _ _ hq2) hq3 ?_ fun be HJ sJ hbe => ?_
    · rw [List.length_append, List.length_take, List.length_drop, List.length_map]
      exact Nat.le_trans (show _ ≤ 64 by simp only [List.length_cons, List.length_nil]; omega) (by decide)
    rw [set_put (by rw [List.length_map]; exact hk)] at hbe
    have hset : (r1.map V.int).set k (V.int (1 - r1[k])) = (r1.set k (1 - r1[k])).map V.int := by rw [List.map_set]
    rw [hset] at hbe
    have sDJ := (sDG.trans sI).trans sJ
    have DJ := DD.same sDJ
    have frJ := frBD.trans (Fr.of sDJ)
    have tcsJ := tcsD.same sDJ
    have hOJ := sDJ _ _ hOD
    have rwc := rw_all tcsJ
    have rb : Rw HJ m (.ref be) := ⟨be, _, rfl, hbe, by rw [List.length_set]; exact lr1, fun y hy => by
      rcases List.mem_or_eq_of_mem_set hy with z | z
      · exact or1 y z
      · have := or1 r1[k] (List.getElem_mem hk)
        omega⟩
    have w1' := rwc _ mv1
    have w2 := rwc _ mv2
    have w3 := rwc _ (mO _ mv3)
    have w4 := rwc _ (mN _ mv4)
    obtain ⟨v5, hv5, mv5⟩ := at_pick (xs := os) (j := 0) (by decide) (by omega)
    have w5 := rwc _ (mO _ mv5)
    unfold gName
    show (_ : L2.St → Hp → Prop) [some (.ref d), some (.int m), some (.str (tabOf bs)), some (.int way), some (.ref ca), some (.ref p1'), some v2, some (.int (k : Nat)), some (.ref O), some (.ref N), some v3, some v4, some (.ref be), none, none] HJ
    refine ⟨.ref p1', rfl, .ref be, rfl, sl2, fun t1 n1 => ?_⟩
    have s1 := same_upd (o := (HO.tup [V.ref p1', .ref be])) n1
    have h1 : upd HJ t1 (HO.tup [V.ref p1', .ref be]) t1 = some (HO.tup [V.ref p1', .ref be]) := upd_same
    generalize upd HJ t1 (HO.tup [V.ref p1', .ref be]) = J1 at s1 h1 ⊢
    refine ⟨.ref p1', rfl, v2, rfl, sl2, fun t2 n2 => ?_⟩
    have s2' := same_upd (o := (HO.tup [V.ref p1', v2])) n2
    have h2 : upd J1 t2 (HO.tup [V.ref p1', v2]) t2 = some (HO.tup [V.ref p1', v2]) := upd_same
    generalize upd J1 t2 (HO.tup [V.ref p1', v2]) = J2 at s2' h2 ⊢
    refine ⟨.ref p1', rfl, .ref p1', rfl, sl2, fun t3 n3 => ?_⟩
    have s3 := same_upd (o := (HO.tup [V.ref p1', .ref p1'])) n3
    have h3 : upd J2 t3 (HO.tup [V.ref p1', .ref p1']) t3 = some (HO.tup [V.ref p1', .ref p1']) := upd_same
    generalize upd J2 t3 (HO.tup [V.ref p1', .ref p1']) = J3 at s3 h3 ⊢
    refine ⟨v3, rfl, v4, rfl, sl2, fun t4 n4 => ?_⟩
    have s4 := same_upd (o := (HO.tup [v3, v4])) n4
    have h4 : upd J3 t4 (HO.tup [v3, v4]) t4 = some (HO.tup [v3, v4]) := upd_same
    generalize upd J3 t4 (HO.tup [v3, v4]) = J4 at s4 h4 ⊢
    refine ⟨v4, rfl, v3, rfl, sl2, fun t5 n5 => ?_⟩
    have s5 := same_upd (o := (HO.tup [v4, v3])) n5
    have h5 : upd J4 t5 (HO.tup [v4, v3]) t5 = some (HO.tup [v4, v3]) := upd_same
    generalize upd J4 t5 (HO.tup [v4, v3]) = J5 at s5 h5 ⊢
    have sJ5 := (((s1.trans s2').trans s3).trans s4).trans s5
    refine ⟨v3, rfl, .ref O, rfl, O, _, 0, v5, rfl, rfl, SqL.of (sJ5 _ _ hOJ), hv5, sl2, fun t6 n6 => ?_⟩
    have s6' := same_upd (o := (HO.tup [v3, v5])) n6
    have h6 : upd J5 t6 (HO.tup [v3, v5]) t6 = some (HO.tup [v3, v5]) := upd_same
    generalize upd J5 t6 (HO.tup [v3, v5]) = J6 at s6' h6 ⊢
    refine ⟨(show 6 ≤ sizeLine by decide), fun W nW => ?_⟩
    have s7' := same_upd (o := (HO.lst [V.ref t1, .ref t2, .ref t3, .ref t4, .ref t5, .ref t6])) nW
    have h7 : upd J6 W (HO.lst [V.ref t1, .ref t2, .ref t3, .ref t4, .ref t5, .ref t6]) W = some (HO.lst [V.ref t1, .ref t2, .ref t3, .ref t4, .ref t5, .ref t6]) := upd_same
    generalize upd J6 W (HO.lst [V.ref t1, .ref t2, .ref t3, .ref t4, .ref t5, .ref t6]) = J7 at s7' h7 ⊢
    have sJ7 := (sJ5.trans s6').trans s7'
    have tsJ := Ts.same sJ7
    obtain ⟨x, hx, mx⟩ := at_pick (xs := [V.ref t1, .ref t2, .ref t3, .ref t4, .ref t5, .ref t6]) w0 w1
    refine ⟨.int way, rfl, W, _, way, x, rfl, rfl, SqL.of h7, hx, ?_⟩
    have fin : ∀ (t : Addr) (u v : V), J7 t = some (.tup [u, v]) → HJ t = none → Rw HJ m u → Rw HJ m v → Q (.ref t) J7 := fun t u v ht nt hu hv => by
      obtain ⟨a, b, ca', ok⟩ := pair_at ht (hu.ts tsJ) (hv.ts tsJ) m6
      exact q t a b J7 ((DJ.same sJ7).mono (by omega)) (frJ.trans (Fr.of sJ7)) (none_of_frG frJ DJ nt) ca' ok
    have back : ∀ {G : Hp} {t : Addr}, Same HJ G → G t = none → HJ t = none := fun {G t} s n => by
      cases z : HJ t with
      | none => rfl
      | some o => rw [s _ _ z] at n; cases n
    simp only [List.mem_cons, List.not_mem_nil, or_false] at mx
    rcases mx with rfl | rfl | rfl | rfl | rfl | rfl
    · exact fin _ _ _ (s7' _ _ (s6' _ _ (s5 _ _ (s4 _ _ (s3 _ _ (s2' _ _ h1)))))) n1 w1' rb
    · exact fin _ _ _ (s7' _ _ (s6' _ _ (s5 _ _ (s4 _ _ (s3 _ _ h2))))) (back s1 n2) w1' w2
    · exact fin _ _ _ (s7' _ _ (s6' _ _ (s5 _ _ (s4 _ _ h3)))) (back (s1.trans s2') n3) w1' w1'
    · exact fin _ _ _ (s7' _ _ (s6' _ _ (s5 _ _ h4))) (back ((s1.trans s2').trans s3) n4) w3 w4
    · exact fin _ _ _ (s7' _ _ (s6' _ _ h5)) (back (((s1.trans s2').trans s3).trans s4) n5) w4 w3
    · exact fin _ _ _ (s7' _ _ h6) (back sJ5 n6) w3 w5

end
end Gk

set_option Elab.async false
set_option linter.all false
set_option maxRecDepth 100000
set_option maxHeartbeats 1000000
set_option pp.maxSteps 1500
set_option pp.deepTerms false
namespace Gk
open PySem PySem.Spec PyProof.Rows L2
section
variable {P : Program} {w : World} {K : PySem.W.Frag} {mg : Str → Option Value} {base : Heap}
/-! ### a wish drawn -/
abbrev Ch := List Int × List Int
def cD (c : Ch) : PyData := chD c.1 c.2
def wishD (m : Nat) (bs : List Bool) (chs : List Ch) : PyData := .tuple [.int m, .str (tabOf bs), .tuple (chs.map cD)]
structure WishOk (m : Nat) (bs : List Bool) (chs : List Ch) : Prop where
  m1 : 1 ≤ m
  m4 : m ≤ 4
  lb : bs.length = 2 ^ m
  lc : chs.length ≤ 64
  oc : ∀ c ∈ chs, ChOk m c.1 c.2
theorem ChAt.tk {H : Hp} {c : Addr} {a b : List Int} (h : ChAt H c a b) : Tk H (.ref c) (chD a b) := by
  obtain ⟨ra, rb, h1, h2, h3⟩ := h
  exact .tup h1 (.cons (.tup h2 (TkAll.ints a)) (.cons (.tup h3 (TkAll.ints b)) .nil))
theorem ChAt.of_tk {H : Hp} {v : V} {c : Ch} (h : Tk H v (cD c)) : ∃ p, v = .ref p ∧ ChAt H p c.1 c.2 := by
  obtain ⟨p, ra, rb, rfl, h1, h2, h3⟩ := Tk.ch_inv h
  exact ⟨p, rfl, ra, rb, h1, h2, h3⟩
theorem noL_chs (chs : List Ch) : noLs (chs.map cD) = true := noLs_map (f := cD) (fun c => noL_ch c.1 c.2) chs
theorem noL_wish (m : Nat) (bs : List Bool) (chs : List Ch) : noL (wishD m bs chs) = true := by
  show (true && (true && (noLs (chs.map cD) && true))) = true
  rw [noL_chs]
  rfl
theorem Tk.wish_inv {H : Hp} {v : V} {m : Nat} {bs : List Bool} {chs : List Ch} (h : Tk H v (wishD m bs chs)) : ∃ r t xs, v = .ref r ∧ H r = some (.tup [.int m, .str (tabOf bs), .ref t]) ∧ H t = some (.tup xs) ∧ TkAll H xs (chs.map cD) := by
  obtain ⟨r, xs, rfl, hr, t⟩ := h.tup_inv
  cases t with
  | cons h1 t => cases t with
    | cons h2 t => cases t with
      | cons h3 t =>
        cases t
        cases h1
        cases h2
        obtain ⟨t, ys, rfl, ht, tx⟩ := h3.tup_inv
        exact ⟨r, t, ys, rfl, hr, ht, tx⟩
def sp_wish (K : PySem.W.Frag) : Sp := fun vs H Q _ => ∃ (d l : Addr) (n mo : Int), vs = [.ref d, .int mo] ∧ DeckG H d l n ∧ n < 700000000 ∧ 1 ≤ mo ∧ mo ≤ 57 ∧ ∀ (r : Addr) (m : Nat) (bs : List Bool) (chs : List Ch) (H' : Hp), DeckG H' d l (n + 800) → Fr d l H H' → H r = none → Tk H' (.ref r) (wishD m bs chs) → WishOk m bs chs → Q (.ref r) H'
theorem ok_wish (T : Tx K mg) : FnOk P w K mg base CX0 4 T.f_wish T.fd_wish ["_law_deck_here", "_law_most"] (sp_wish K) := by
  refine T.F_wish.ok sc_wish (fun vs H Q E h => ?_) (fun cdv A outer s H vs Q E hr h => ?_)
  · obtain ⟨d, l, n, mo, rfl, _⟩ := h
    rfl
  · obtain ⟨d, l, n, mo, rfl, D, hn, o1, o57, q⟩ := h
    refine ⟨_, (pss_cons (ps_set (i := 2) sc_wish.nd rfl (by first | exact .inl rfl | exact .inr rfl) (pe_ix ix_list (pe_lst (pa_cons pe_int (pa_cons pe_int (pa_cons pe_int (pa_cons pe_int (pa_cons pe_int (pa_cons pe_int (pa_cons pe_int (pa_cons pe_int pa_nil))))))))) (pe_call (ok_next T) (hr.mono (by decide)) (by rfl) T.g_next T.F_next.kp T.b_next .nil pass0 (pa_cons (pv 0) (pa_cons pe_int pa_nil))) (fun _ _ => rfl))) (pss_cons (ps_set (i := 3) sc_wish.nd rfl (by first | exact .inl rfl | exact .inr rfl) (pe_ix ix_list (pe_lst (pa_cons pe_int (pa_cons pe_int (pa_cons pe_int (pa_cons pe_int (pa_cons pe_int (pa_cons pe_int (pa_cons pe_int (pa_cons pe_int pa_nil))))))))) (pe_call (ok_next T) (hr.mono (by decide)) (by rfl) T.g_next T.F_next.kp T.b_next .nil pass0 (pa_cons (pv 0) (pa_cons pe_int pa_nil))) (fun _ _ => rfl))) (pss_cons (ps_set (i := 4) sc_wish.nd rfl (by first | exact .inl rfl | exact .inr rfl) (pe_ix ix_list (pe_lst (pa_cons (pe_call (ok_next T) (hr.mono (by decide)) (by rfl) T.g_next T.F_next.kp T.b_next .nil pass0 (pa_cons (pv 0) (pa_cons pe_int pa_nil))) (pa_cons (pe_call (ok_next T) (hr.mono (by decide)) (by rfl) T.g_next T.F_next.kp T.b_next .nil pass0 (pa_cons (pv 0) (pa_cons pe_int pa_nil))) (pa_cons (pe_op op_add pe_int (pe_call (ok_next T) (hr.mono (by decide)) (by rfl) T.g_next T.F_next.kp T.b_next .nil pass0 (pa_cons (pv 0) (pa_cons (pv 1) pa_nil)))) pa_nil)))) (pv 3) (fun _ _ => rfl))) (pss_cons (ps_set (i := 5) sc_wish.nd rfl (by first | exact .inl rfl | exact .inr rfl) (pe_call (ok_table T) (hr.mono (by decide)) (by rfl) T.g_table T.F_table.kp T.b_table .nil pass0 (pa_cons (pv 0) (pa_cons (pv 2) pa_nil)))) (pss_one (ps_ret (pe_tup (pa_cons (pv 2) (pa_cons (pv 5) (pa_cons (pe_callTy call_tuple_of (by rfl) T.m_tuple (by decide +kernel) (pa_cons (pe_lc (own := [("_law_k", 6)]) (by rfl) sc_wish.nd (pi_range1 (by rfl) T.m_range (pa_cons (pv 4) pa_nil)) (blkOk_by (own := [("_law_k", 6)]) (N := ["_law_deck_here", "_law_most", "_law_many", "_law_way", "_law_count", "_law_table_here", "_law_k"]) (sc := defScope s_wish) (by decide +kernel)) (fun _ _ _ _ _ => (pg_name (i := 6) sc_wish.nd rfl (by first | exact .inl rfl | exact .inr rfl))) (fun _ _ _ _ _ => pts_nil) (fun _ _ _ _ _ => (pe_call (ok_change T) (hr.mono (by decide)) (by rfl) T.g_change T.F_change.kp T.b_change .nil pass0 (pa_cons (pv 0) (pa_cons (pv 2) (pa_cons (pv 5) pa_nil)))))) pa_nil)) pa_nil)))))))))), ?_⟩
    refine ⟨(show 8 ≤ sizeLine by decide), fun p1 np1 => ?_⟩
    have s1 := same_upd (o := (HO.lst [V.int 1, .int 2, .int 3, .int 3, .int 3, .int 4, .int 2, .int 4])) np1
    have h1 : upd H p1 (HO.lst [V.int 1, .int 2, .int 3, .int 3, .int 3, .int 4, .int 2, .int 4]) p1 = some (HO.lst [V.int 1, .int 2, .int 3, .int 3, .int 3, .int 4, .int 2, .int 4]) := upd_same
    generalize upd H p1 (HO.lst [V.int 1, .int 2, .int 3, .int 3, .int 3, .int 4, .int 2, .int 4]) = A1 at s1 h1 ⊢
    have D1 := D.same s1
    have o1' := D.off np1
    refine ⟨.ref d, rfl, d, l, 8, _, rfl, D1, by omega, by decide, by decide, fun H2 x D2 fr2 x0 x1 => ?_⟩
    obtain ⟨vm, hm, mm⟩ := at_pick (xs := [V.int 1, .int 2, .int 3, .int 3, .int 3, .int 4, .int 2, .int 4]) x0 x1
    refine ⟨p1, _, x, vm, rfl, rfl, SqL.of (fr2 _ _ o1'.1 o1'.2 h1), hm, ?_⟩
    obtain ⟨m, rfl, m1, m4⟩ : ∃ m : Nat, vm = .int m ∧ 1 ≤ m ∧ m ≤ 4 := by
      simp only [List.mem_cons, List.not_mem_nil, or_false] at mm
      rcases mm with rfl | rfl | rfl | rfl | rfl | rfl | rfl | rfl
      · exact ⟨1, rfl, by omega, by omega⟩
      · exact ⟨2, rfl, by omega, by omega⟩
      · exact ⟨3, rfl, by omega, by omega⟩
      · exact ⟨3, rfl, by omega, by omega⟩
      · exact ⟨3, rfl, by omega, by omega⟩
      · exact ⟨4, rfl, by omega, by omega⟩
      · exact ⟨2, rfl, by omega, by omega⟩
      · exact ⟨4, rfl, by omega, by omega⟩
    refine ⟨(show 8 ≤ sizeLine by decide), fun p2 np2 => ?_⟩
    have s3 := same_upd (o := (HO.lst [V.int 0, .int 0, .int 1, .int 1, .int 1, .int 0, .int 1, .int 2])) np2
    have h3 : upd H2 p2 (HO.lst [V.int 0, .int 0, .int 1, .int 1, .int 1, .int 0, .int 1, .int 2]) p2 = some (HO.lst [V.int 0, .int 0, .int 1, .int 1, .int 1, .int 0, .int 1, .int 2]) := upd_same
    generalize upd H2 p2 (HO.lst [V.int 0, .int 0, .int 1, .int 1, .int 1, .int 0, .int 1, .int 2]) = A3 at s3 h3 ⊢
    have D3 := D2.same s3
    have o2' := D2.off np2
    refine ⟨.ref d, rfl, d, l, 8, _, rfl, D3, by omega, by decide, by decide, fun H4 y D4 fr4 y0 y1 => ?_⟩
    obtain ⟨vw, hw, mw⟩ := at_pick (xs := [V.int 0, .int 0, .int 1, .int 1, .int 1, .int 0, .int 1, .int 2]) y0 y1
    refine ⟨p2, _, y, vw, rfl, rfl, SqL.of (fr4 _ _ o2'.1 o2'.2 h3), hw, ?_⟩
    obtain ⟨way, rfl, wy0, wy3⟩ : ∃ way : Int, vw = .int way ∧ 0 ≤ way ∧ way < 3 := by
      simp only [List.mem_cons, List.not_mem_nil, or_false] at mw
      rcases mw with rfl | rfl | rfl | rfl | rfl | rfl | rfl | rfl <;> exact ⟨_, rfl, by decide, by decide⟩
    have fr04 := ((Fr.of (d := d) (l := l) s1).trans fr2).trans ((Fr.of (d := d) (l := l) s3).trans fr4)
    refine ⟨.ref d, rfl, d, l, 4, _, rfl, D4, by omega, by decide, by decide, fun H5 c1 D5 fr5 c10 c11 => ?_⟩
    refine ⟨.ref d, rfl, d, l, 7, _, rfl, D5, by omega, by decide, by decide, fun H6 c2 D6 fr6 c20 c21 => ?_⟩
    refine ⟨.ref d, rfl, .int mo, rfl, d, l, mo, _, rfl, D6, by omega, by omega, by omega, fun H7 c3 D7 fr7 c30 c31 => ?_⟩
    refine ⟨_, _, rfl, rfl, sl3, fun p3 np3 => ?_⟩
    have s8 := same_upd (o := (HO.lst [V.int c1, .int c2, .int (8 + c3)])) np3
    have h8 : upd H7 p3 (HO.lst [V.int c1, .int c2, .int (8 + c3)]) p3 = some (HO.lst [V.int c1, .int c2, .int (8 + c3)]) := upd_same
    generalize upd H7 p3 (HO.lst [V.int c1, .int c2, .int (8 + c3)]) = A8 at s8 h8 ⊢
    have D8 := D7.same s8
    obtain ⟨vc, hc, mc⟩ := at_pick (xs := [V.int c1, .int c2, .int (8 + c3)]) wy0 wy3
    refine ⟨.int way, rfl, p3, _, way, vc, rfl, rfl, SqL.of h8, hc, ?_⟩
    obtain ⟨cnt, rfl, ct0, ct64⟩ : ∃ c : Int, vc = .int c ∧ 0 ≤ c ∧ c ≤ 64 := by
      simp only [List.mem_cons, List.not_mem_nil, or_false] at mc
      rcases mc with rfl | rfl | rfl
      · exact ⟨_, rfl, c10, by omega⟩
      · exact ⟨_, rfl, c20, by omega⟩
      · exact ⟨_, rfl, by omega, by omega⟩
    have fr08 := ((fr04.trans fr5).trans (fr6.trans fr7)).trans (Fr.of s8)
    first | (show (_ : L2.St → Hp → Prop) [some (.ref d), some (.int mo), some (.int m), some (.int way), some (.int cnt), none, none] A8) | (unfold gName; show (_ : L2.St → Hp → Prop) [some (.ref d), some (.int mo), some (.int m), some (.int way), some (.int cnt), none, none] A8) | (dsimp only; show (_ : L2.St → Hp → Prop) [some (.ref d), some (.int mo), some (.int m), some (.int way), some (.int cnt), none, none] A8) | (dsimp only [gName]; show (_ : L2.St → Hp → Prop) [some (.ref d), some (.int mo), some (.int m), some (.int way), some (.int cnt), none, none] A8)
    refine ⟨.ref d, rfl, .int m, rfl, d, l, _, m, rfl, D8, by omega, m1, by omega, fun bs H9 D9 fr9 lb => ?_⟩
    have fr09 := fr08.trans fr9
    first | (show (_ : L2.St → Hp → Prop) [some (.ref d), some (.int mo), some (.int m), some (.int way), some (.int cnt), some (.str (tabOf bs)), none] H9) | (unfold gName; show (_ : L2.St → Hp → Prop) [some (.ref d), some (.int mo), some (.int m), some (.int way), some (.int cnt), some (.str (tabOf bs)), none] H9) | (dsimp only; show (_ : L2.St → Hp → Prop) [some (.ref d), some (.int mo), some (.int m), some (.int way), some (.int cnt), some (.str (tabOf bs)), none] H9) | (dsimp only [gName]; show (_ : L2.St → Hp → Prop) [some (.ref d), some (.int mo), some (.int m), some (.int way), some (.int cnt), some (.str (tabOf bs)), none] H9)
    refine ⟨.int m, rfl, .str (tabOf bs), rfl, .int cnt, rfl, cnt, rfl, by omega, by omega, fun L nL => ?_⟩
    have oL := D9.off nL
    have nL0 := none_of_frG fr09 D9 nL
    refine lc_range (g := gName 6) (lo := 0) (n := cnt.toNat) (fun j H' => DeckG H' d l (n + 305 + 6 * j) ∧ Fr d l H H' ∧ ∃ (xs : List V) (chs : List Ch), H' L = some (.lst xs) ∧ xs.length = j ∧ TkAll H' xs (chs.map cD) ∧ ∀ c ∈ chs, ChOk m c.1 c.2) ⟨(D9.same (same_upd nL)).mono (by omega), fr09.trans (Fr.new nL), [], [], upd_same, rfl, .nil, fun c hc => by cases hc⟩ ?_ ?_
    · rintro j H10 hj ⟨D10, fr10, xs, chs, hL, lx, tx, okc⟩
      have hj' : j < 64 := by omega
      refine ⟨rfl, .ref d, rfl, .int m, rfl, .str (tabOf bs), rfl, d, l, _, m, bs, rfl, D10, by omega, m1, by omega, lb, fun c a b H11 D11 fr11 nc ca ok => ?_⟩
      have hL11 := fr11 _ _ oL.1 oL.2 hL
      have tsL := (Ts.frG D10 fr11).trans (Ts.set (ys := xs ++ [V.ref c]) hL11)
      refine ⟨_, hL11, Nat.lt_of_lt_of_le (show _ < 128 by omega) (by decide), (D11.upd oL.1 oL.2).mono (by push_cast; omega), Fr.upd (fr10.trans fr11) nL0, xs ++ [V.ref c], chs ++ [(a, b)], upd_same, by rw [List.length_append, lx]; rfl, ?_, fun z hz => ?_⟩
      · rw [List.map_append]
        exact (tx.ts tsL (noL_chs _)).append (.cons ((ca.tk).ts (Ts.set hL11) (noL_ch a b)) .nil)
      · rcases List.mem_append.mp hz with h | h
        · exact okc z h
        · rw [List.mem_singleton.mp h]; exact ok
    rintro H10 ⟨D10, fr10, xs, chs, hL, lx, tx, okc⟩
    refine ⟨L, _, rfl, .inl ⟨SqL.of hL, fun t nt => ?_⟩⟩
    have s11 := same_upd (o := (HO.tup xs)) nt
    have h11 : upd H10 t (HO.tup xs) t = some (HO.tup xs) := upd_same
    generalize upd H10 t (HO.tup xs) = A11 at s11 h11 ⊢
    refine ⟨sl3, fun r nr => ?_⟩
    have s12 := same_upd (o := (HO.tup [V.int m, .str (tabOf bs), .ref t])) nr
    have h12 : upd A11 r (HO.tup [V.int m, .str (tabOf bs), .ref t]) r = some (HO.tup [V.int m, .str (tabOf bs), .ref t]) := upd_same
    generalize upd A11 r (HO.tup [V.int m, .str (tabOf bs), .ref t]) = A12 at s12 h12 ⊢
    have sa := s11.trans s12
    have nr10 : H10 r = none := by
      cases z : H10 r with
      | none => rfl
      | some o => rw [s11 _ _ z] at nr; cases nr
    have lcx := tx.length
    rw [List.length_map] at lcx
    exact q r m bs chs A12 ((D10.same sa).mono (by omega)) (fr10.trans (Fr.of sa)) (none_of_frG fr10 D10 nr10) (.tup h12 (.cons (.int _) (.cons (.str _) (.cons (.tup (s12 _ _ h11) (tx.same sa)) .nil)))) ⟨m1, m4, lb, by omega, okc⟩

end
end Gk

set_option Elab.async false
set_option linter.all false
set_option maxRecDepth 100000
set_option maxHeartbeats 1000000
set_option pp.maxSteps 1500
set_option pp.deepTerms false
namespace Gk
open PySem PySem.Spec PyProof.Rows L2
section
variable {P : Program} {w : World} {K : PySem.W.Frag} {mg : Str → Option Value} {base : Heap}
/-! ### enumerate(tuple) -/
theorem draws_tuple {P : Program} {w : World} {A : Around} (hA : A.handled = none) (it a : Addr) (items : Array Value) (hne : a ≠ it) : Draws P w A it [it, a] items.size (fun i v => items[i]? = some v) (fun i h => h.IsTupleIter it a i ∧ h.IsTuple a items) where
  live := fun _ _ st => let ⟨o, ho, _⟩ := st.1; ⟨o, ho⟩
  frame := fun _ _ _ st hk => ⟨st.1.at fun o e => hk it (by simp) o e, by
    obtain ⟨o, ho, r⟩ := st.2
    exact ⟨o, hk a (by simp) o ho, r⟩⟩
  item := fun i s Q E hi st hQ => by
    refine RZ.nextOf_tuple_item st.1 st.2 (x := items[i]) (by simp [hi]) fun h' hit' hs' => ?_
    refine hQ _ h' s.toks (by simp [hi]) ⟨hit', ?_⟩ hs'
    obtain ⟨o, ho, r⟩ := st.2
    exact ⟨o, hs'.extBut a o hne ho, r⟩
  done := fun s Q E st hE => RZ.nextOf_tuple_end hA st.1 st.2 (by simp) hE
open PySem.AutoSeq1 in
set_option maxHeartbeats 1000000 in
theorem meets_enumerate_newT (l : Addr) (items : Array Value) (o : Obj) (hc : o.cls = .type "tuple") (n : Nat) (hd : o.data = .seq items n) :
    Meets (Builtin.«enumerate.__new__» ⟨[.type "enumerate", .ref l], []⟩) (fun _ R s => s.heap.get? l = some o ∧
      R (.ok (.ret (.ref (s.heap.push { cls := .type "tuple_iterator", data := .fields #[.ref l, .int 0 0] }).objs.size)))
        { s with heap := (s.heap.push { cls := .type "tuple_iterator", data := .fields #[.ref l, .int 0 0] }).push { cls := .type "enumerate", data := .fields #[.none, .bool false, .ref s.heap.objs.size, rawInt 0, .none, .none] } }) :=
  .of_wp fun prog w A R s h => by
    obtain ⟨hp, g, d, tk, os⟩ := s; obtain ⟨hl, h⟩ := h
    have hsub := sub_enumerate
    have hL : Heap.IsTuple (Shared.heap ⟨hp, g, d, tk, os⟩) l items := ⟨_, hl, hc, n, hd⟩
    wp_walk using wpAny_loadPart' hl
    refine wpAny_stack_any fun st => wpAny_pure ?_
    split
    · rename_i c _ _ _ _ _
      cases (c == Value.type "enumerate")
      · wp_walk using wpAny_loadPart' hl, wpAny_pyIter_tuple hL
        exact ⟨_, rfl, h⟩
      · wp_walk using wpAny_loadPart' hl, wpAny_pyIter_tuple hL
        exact ⟨_, rfl, h⟩
    · wp_walk using wpAny_loadPart' hl, wpAny_pyIter_tuple hL
      exact ⟨_, rfl, h⟩
theorem call_enumerate_tuple {prog : Program} {w : World} {A : Around} {E : Value → Shared → Prop} {s : Shared} {l : Addr} {items : Array Value} {Q : Value → Shared → Prop} (hL : s.heap.IsTuple l items)
    (h : ∀ h', IsEnum h' (s.heap.objs.size + 1) s.heap.objs.size 0 .none → h'.IsTupleIter s.heap.objs.size l 0 → h'.objs.size = s.heap.objs.size + 2 →
      (∀ b o, s.heap.get? b = some o → h'.get? b = some o) → Q (.ref (s.heap.objs.size + 1)) { s with heap := h' }) :
    wpAny (model prog w) A (call (.type "enumerate") [.ref l]) Q E s := by
  obtain ⟨o, hl, hc, n, hd⟩ := hL
  refine callType_new F.called_enumerate (by decide) (F.typeCall_enumerate_1 _) (F.newCall_enumerate_1 _) (fun obj => F.args_object_init_2 obj _) F.entry_enumerate_new
    (meets_enumerate_newT l items o hc n hd) ⟨hl, ?_⟩
  have hz : (s.heap.push { cls := .type "tuple_iterator", data := .fields #[.ref l, .int 0 0] }).objs.size = s.heap.objs.size + 1 := Heap.size_push ..
  show _ ∧ _
  rw [hz]
  have he : IsEnum ((s.heap.push { cls := .type "tuple_iterator", data := .fields #[.ref l, .int 0 0] }).push
      { cls := .type "enumerate", data := .fields #[.none, .bool false, .ref s.heap.objs.size, rawInt 0, .none, .none] }) (s.heap.objs.size + 1) s.heap.objs.size 0 .none := by
    have := Heap.get?_push_size (s.heap.push { cls := .type "tuple_iterator", data := .fields #[.ref l, .int 0 0] })
      (o := { cls := .type "enumerate", data := .fields #[.none, .bool false, .ref s.heap.objs.size, rawInt 0, .none, .none] }) rfl
    rw [hz] at this; exact this
  refine ⟨⟨_, he, rfl⟩, h _ he ⟨_, Heap.get?_push_of_some _ (Heap.get?_push_size _ rfl), rfl, rfl⟩ (by rw [Heap.size_push, hz]) fun b o x => Heap.get?_push_of_some _ (Heap.get?_push_of_some _ x)⟩
/-- the tuple at a, each item in a new pair -/
def IteT (K : PySem.W.Frag) (a : Addr) : It :=
  ⟨fun i H => ∃ (xs : List V) (x : V), SqT K H a xs ∧ xs[i]? = some x, fun i H v H' => ∃ T x, v = .ref T ∧ H T = none ∧ H' = upd H T (.tup [.int (i : Nat), x]) ∧ ∀ xs, SqT K H a xs → xs[i]? = some x, fun i H => ∃ xs : List V, SqT K H a xs ∧ xs.length = i⟩
theorem turn_enumT {P : Program} {w : World} {K : PySem.W.Frag} {elts : List Expr} {kk : Nat} {tpos : Pos} (a e it : Addr) :
    Turn P w K (.Tuple elts kk tpos) (IteT K a) [e, it] e (fun i h => (∃ old, IsEnum h e it ((i : Nat) : Int) old) ∧ h.IsTupleIter it a i ∧ e ≠ it) where
  mem := by simp
  obj := fun i h st b hb => by
    obtain ⟨⟨old, he⟩, ⟨o, ho, hc, hd⟩, _⟩ := st
    have e' : b = e ∨ b = it := by simpa using hb
    rcases e' with z | z
    · rw [z]; exact ⟨_, he, fun v q => nomatch q⟩
    · rw [z]; exact ⟨o, ho, fun v q => by rw [hd] at q; cases q⟩
  keep := fun i h h' st k => let ⟨⟨old, he⟩, hi, hne⟩ := st; ⟨⟨old, k e (by simp) _ he⟩, hi.at fun o q => k it (by simp) o q, hne⟩
  item := by
    intro X hP hw hK hc i pins s σ H E I hf st hg
    subst hP hw hK
    obtain ⟨⟨old, he⟩, hit, hne⟩ := st
    obtain ⟨xs, x, hq, hx⟩ := hg
    obtain ⟨its, rv, p, hz⟩ := I.tuple hq
    obtain ⟨u, hu, ru⟩ := rv.get hx
    have hel : e < s.heap.objs.size := Heap.lt_size he
    have hil : it < s.heap.objs.size := by obtain ⟨_, q, _⟩ := hit; exact Heap.lt_size q
    have hpt : s.heap.IsTuple a its.toArray := p
    have hai : a ≠ it := fun z => by
      obtain ⟨o1, h1, c1, _⟩ := hpt
      obtain ⟨o2, h2, c2, _⟩ := hit
      rw [z, h2] at h1
      cases h1
      rw [c2] at c1
      exact absurd (Value.type.inj c1) (by decide)
    have hae : e ≠ a := fun z => by
      obtain ⟨o1, h1, c1, _⟩ := hpt
      rw [← z, he] at h1
      cases h1
      exact absurd (Value.type.inj c1) (by decide)
    have hil2 : i < its.toArray.size := by
      rw [List.size_toArray]
      exact (List.getElem?_eq_some_iff.mp hu).1
    refine wpAny_pyNext_enum_itemD (draws_tuple (A := X.A.in1) (I.ok.hd hc) it a its.toArray hai) he ⟨hit, hpt⟩ hil2 hne (by simp only [List.mem_cons, List.not_mem_nil, or_false, not_or]; exact ⟨hne, hae⟩) fun y h' tk hy ho hst hT hsz hk => ?_
    have hyu : y = u := by
      have : its[i]? = some y := by simpa using hy
      rw [hu] at this
      exact (Option.some.inj this).symm
    subst hyu
    have hit' := hst.1
    refine ⟨_, rfl, wpAny_letOwnedTupleGo_enum (s := { s with heap := h', toks := tk + 1 }) ho fun h'' he' sb => ?_⟩
    have hT2 : h''.get? s.heap.objs.size = some { cls := .type "tuple", data := .seq #[.int i tk, y] } := (sb.2 _ (Nat.ne_of_gt hel)).trans hT
    have new : ObjOk X.prog X.w (upd H s.heap.objs.size (.tup [.int (i : Nat), x])) h'' s.heap.objs.size (.tup [.int (i : Nat), x]) :=
      ⟨by show 2 ≤ sizeLine; decide, [.int i tk, y], .cons ⟨_, rfl⟩ (.cons ru .nil), ⟨_, hT2, rfl, _, rfl⟩⟩
    have I1 : Inv X pins σ (upd H s.heap.objs.size (.tup [.int (i : Nat), x])) { s with heap := h'', toks := tk + 1 } :=
      I.turnedNew (ch := [e, it]) (fun b ob hb q => (sb.2 b (fun z => hb (by simp [z]))).trans (hk b ob (fun z => hb (by simp [z])) (fun z => hb (by simp [z])) q)) hf (Nat.le_refl _) new
    refine ⟨.ref s.heap.objs.size, _, I1, rfl, ⟨_, x, rfl, I.hok.fresh (Nat.le_refl _), rfl, fun ys hy => by rw [I.tuple_inj hy hq]; exact hx⟩, ⟨⟨y, ?_⟩, hit'.at fun o q => (sb.2 it (Ne.symm hne)).trans q, hne⟩, fun b hb => ?_⟩
    · have e1 : ((i + 1 : Nat) : Int) = (i : Int) + 1 := by omega
      rw [e1]; exact he'
    · have hb' : b < s.heap.objs.size := by
        have e' : b = e ∨ b = it := by simpa using hb
        rcases e' with z | z
        · rw [z]; exact hel
        · rw [z]; exact hil
      rw [upd_ne (Nat.ne_of_lt hb')]
      exact (hf b hb).1
  done := by
    intro X hP hw hK hc i pins s σ H E I hf st hg
    subst hP hw hK
    obtain ⟨⟨old, he⟩, hit, hne⟩ := st
    obtain ⟨xs, hq, hx⟩ := hg
    obtain ⟨its, rv, p, hz⟩ := I.tuple hq
    obtain ⟨f0, f1, f2, f3, f4, f5⟩ := hf it (by simp)
    have hl := rv.length
    have hpt : s.heap.IsTuple a its.toArray := p
    have hai : a ≠ it := fun z => by
      obtain ⟨o1, h1, c1, _⟩ := hpt
      obtain ⟨o2, h2, c2, _⟩ := hit
      rw [z, h2] at h1
      cases h1
      rw [c2] at c1
      exact absurd (Value.type.inj c1) (by decide)
    have hn : i = its.toArray.size := by rw [List.size_toArray]; omega
    exact wpAny_pyNext_enum_endD (draws_tuple (A := X.A.in1) (I.ok.hd hc) it a its.toArray hai) he (by rw [← hn]; exact ⟨hit, hpt⟩) fun h' eb => ⟨rfl, I.turned (t' := s.toks) (fun b o hb q => eb b o hb q) f0 f1 f3 f4 f5⟩
  self := fun A i s Q E st h => let ⟨⟨_, he⟩, _⟩ := st; wpAny_pyIter_enum he h
def iEnumT (K : PySem.W.Frag) (ta : TA) : TI := fun σ H R => ta σ H fun vs H1 => ∃ a xs, vs = [.ref a] ∧ SqT K H1 a xs ∧ R (IteT K a) H1
theorem pi_enumT {X : Cx} {e : Expr} {ta : TA} {p pos tpos : Pos} {elts : List Expr} {kk : Nat} (hg : Gl X "enumerate") (hm : X.mg "enumerate" = none) (ha : PA X [e] ta) (hs : starEach [e] X.env = [(false, eval e X.env)] := by rfl) :
    PI X (.Tuple elts kk tpos) (.Call (.Name "enumerate" p) [e] [] pos) (iEnumT X.K ta) := by
  refine ⟨fun pins s σ H R I h => ?_⟩
  refine Call_ (ld_blt I hg hm boot_enumerate (PyProof.Rows.callWith_type1 (thn (ha.run pos pins s σ H _ I h) fun us s1 ⟨vs, H1, I1, r1, q1⟩ => ?_) hs rfl))
  obtain ⟨a, xs, ex, hq, q⟩ := q1
  subst ex
  cases r1 with
  | cons r rr =>
    cases rr
    cases r
    obtain ⟨its, rv, p', hz⟩ := I1.tuple hq
    refine call_enumerate_tuple p' fun h' he hit hsz hk => wpAny_pyIter_enum he ?_
    have I2 : Inv X pins σ H1 { s1 with heap := h' } := I1.kept (t' := s1.toks) hk
    refine ⟨s1.heap.objs.size + 1, [s1.heap.objs.size + 1, s1.heap.objs.size], _, _, H1, rfl, I2, turn_enumT a (s1.heap.objs.size + 1) s1.heap.objs.size, ⟨⟨.none, he⟩, hit, Nat.succ_ne_self _⟩, fun b hb => ?_, q⟩
    have e' : b = s1.heap.objs.size + 1 ∨ b = s1.heap.objs.size := by simpa using hb
    have hle : s1.heap.objs.size ≤ b := by
      rcases e' with z | z
      · rw [z]; exact Nat.le_add_right _ _
      · rw [z]; exact Nat.le_refl _
    exact I1.fpOk hle (I1.hok.fresh hle)
theorem gx_enum {α : Type} {K : PySem.W.Frag} {a : Addr} {xs : List V} {g : TG} {tt : TT} {te : TE} {vs : List Nat} {σ0 : L2.St} {End : α → Hp → Prop} {Yd : α → V → Hp → (α → Hp → Prop) → Prop} {a0 : α} {H0 : Hp} (Pv : Nat → α → Hp → Prop) (h0 : Pv 0 a0 H0)
    (hl : ∀ i c H, i ≤ xs.length → Pv i c H → SqT K H a xs)
    (hs : ∀ i x T c H, xs[i]? = some x → H T = none → Pv i c H → g (.ref T) σ0 (upd H T (.tup [.int (i : Nat), x])) fun σ2 H2 => wipe σ2 vs = σ0 ∧ tt σ2 H2 fun b H3 => if b = true then te σ2 H3 fun y H4 => Yd c y H4 (Pv (i + 1)) else Pv (i + 1) c H3) (hd : ∀ c H, Pv xs.length c H → End c H) :
    ∃ W : Nat → Nat → α → Hp → Prop, (∃ m, W 0 m a0 H0) ∧ tGx (IteT K a) g tt te σ0 vs End Yd W := by
  refine ⟨fun i m c H => m = xs.length - i ∧ i ≤ xs.length ∧ Pv i c H, ⟨xs.length, rfl, Nat.zero_le _, h0⟩, ?_⟩
  rintro i m c H ⟨rfl, hi, p⟩
  by_cases hlt : i < xs.length
  · have hx : xs[i]? = some xs[i] := List.getElem?_eq_getElem hlt
    refine .inr ⟨⟨xs, xs[i], hl i c H hi p, hx⟩, Pv (i + 1), fun c' H' p' => ⟨xs.length - (i + 1), by omega, rfl, hlt, p'⟩, fun x H' y => ?_⟩
    obtain ⟨T, x1, rfl, nT, rfl, e1⟩ := y
    exact hs i x1 T c H (e1 xs (hl i c _ hi p)) nT p
  · have e : i = xs.length := by omega
    subst e
    exact .inl ⟨⟨xs, hl _ c H hi p, rfl⟩, hd c H p⟩
theorem gx_str {α : Type} {z : Str} {g : TG} {tt : TT} {te : TE} {vs : List Nat} {σ0 : L2.St} {End : α → Hp → Prop} {Yd : α → V → Hp → (α → Hp → Prop) → Prop} {a0 : α} {H0 : Hp} (Pv : Nat → α → Hp → Prop) (h0 : Pv 0 a0 H0)
    (hs : ∀ i x c H, z.cps[i]? = some x → Pv i c H → g (.str ⟨#[x]⟩) σ0 H fun σ2 H2 => wipe σ2 vs = σ0 ∧ tt σ2 H2 fun b H3 => if b = true then te σ2 H3 fun y H4 => Yd c y H4 (Pv (i + 1)) else Pv (i + 1) c H3) (hd : ∀ c H, Pv z.cps.size c H → End c H) :
    ∃ W : Nat → Nat → α → Hp → Prop, (∃ m, W 0 m a0 H0) ∧ tGx (Its z) g tt te σ0 vs End Yd W := by
  refine ⟨fun i m c H => m = z.cps.size - i ∧ i ≤ z.cps.size ∧ Pv i c H, ⟨z.cps.size, rfl, Nat.zero_le _, h0⟩, ?_⟩
  rintro i m c H ⟨rfl, hi, p⟩
  by_cases hlt : i < z.cps.size
  · refine .inr ⟨hlt, Pv (i + 1), fun c' H' p' => ⟨z.cps.size - (i + 1), by omega, rfl, hlt, p'⟩, fun x H' y => ?_⟩
    obtain ⟨rfl, ch, hc, rfl⟩ := y
    exact hs i ch c _ hc p
  · have e : i = z.cps.size := by omega
    subst e
    exact .inl ⟨Nat.le_refl _, hd c H p⟩

mutual
theorem Sh.gr {H H' : Hp} (s : Gr H H') : ∀ {v : V} {d : PyData}, Sh H v d → Sh H' v d
  | _, _, .non => .non
  | _, _, .bl b => .bl b
  | _, _, .int i => .int i
  | _, _, .str x => .str x
  | _, _, .lst h n t => .lst (s.lst h) n (t.gr s)
  | _, _, .tup h t => .tup (s.tup h) (t.gr s)
  | _, _, .dic h t => .dic (s.1 _ _ (fun _ z => by cases z) h) (t.gr s)
theorem ShAll.gr {H H' : Hp} (s : Gr H H') : ∀ {vs : List V} {ds : List PyData}, ShAll H vs ds → ShAll H' vs ds
  | _, _, .nil => .nil
  | _, _, .cons h t => .cons (h.gr s) (t.gr s)
end
theorem ShAll.get {H : Hp} : ∀ {xs : List V} {ds : List PyData} {j : Nat} {x : V}, ShAll H xs ds → xs[j]? = some x → ∃ d, ds[j]? = some d ∧ Sh H x d
  | _, _, _, _, .nil, h => by simp at h
  | _, _, 0, _, .cons (d := d) a _, h => by
    cases (Option.some.inj h)
    exact ⟨d, rfl, a⟩
  | _, _, j + 1, _, .cons _ t, h => t.get h
theorem ShAll.append {H : Hp} : ∀ {xs ys : List V} {ds es : List PyData}, ShAll H xs ds → ShAll H ys es → ShAll H (xs ++ ys) (ds ++ es)
  | _, _, _, _, .nil, t => t
  | _, _, _, _, .cons a r, t => .cons a (r.append t)
theorem ShAll.take {H : Hp} : ∀ {xs : List V} {ds : List PyData} (n : Nat), ShAll H xs ds → ShAll H (xs.take n) (ds.take n)
  | _, _, 0, _ => by rw [List.take_zero, List.take_zero]; exact .nil
  | _, _, n + 1, .nil => .nil
  | _, _, n + 1, .cons a r => .cons a (r.take n)
theorem ShAll.drop {H : Hp} : ∀ {xs : List V} {ds : List PyData} (n : Nat), ShAll H xs ds → ShAll H (xs.drop n) (ds.drop n)
  | _, _, 0, h => h
  | _, _, n + 1, .nil => .nil
  | _, _, n + 1, .cons _ r => r.drop n
theorem notT {b : Bool} (h : (!b) = true) : ¬ b = true := by cases b <;> simp_all
theorem notF {b : Bool} (h : ¬ (!b) = true) : b = true := by cases b <;> simp_all

/-! ### kinds of data -/
def isIntD : PyData → Bool
  | .int _ => true
  | .bool _ => true
  | _ => false
def isBoolD : PyData → Bool
  | .bool _ => true
  | _ => false
def isTupD : PyData → Bool
  | .tuple _ => true
  | _ => false
def isStrD : PyData → Bool
  | .str _ => true
  | _ => false
theorem kitInt : ∀ d : PyData, kitB (tyD d) "int" = some (isIntD d)
  | .none => (by decide +kernel : kitB "NoneType" "int" = some false)
  | .bool _ => (by decide +kernel : kitB "bool" "int" = some true)
  | .int _ => (by decide +kernel : kitB "int" "int" = some true)
  | .str _ => (by decide +kernel : kitB "str" "int" = some false)
  | .list _ => (by decide +kernel : kitB "list" "int" = some false)
  | .tuple _ => (by decide +kernel : kitB "tuple" "int" = some false)
  | .dict _ => (by decide +kernel : kitB "dict" "int" = some false)
theorem kitBool : ∀ d : PyData, kitB (tyD d) "bool" = some (isBoolD d)
  | .none => (by decide +kernel : kitB "NoneType" "bool" = some false)
  | .bool _ => (by decide +kernel : kitB "bool" "bool" = some true)
  | .int _ => (by decide +kernel : kitB "int" "bool" = some false)
  | .str _ => (by decide +kernel : kitB "str" "bool" = some false)
  | .list _ => (by decide +kernel : kitB "list" "bool" = some false)
  | .tuple _ => (by decide +kernel : kitB "tuple" "bool" = some false)
  | .dict _ => (by decide +kernel : kitB "dict" "bool" = some false)
theorem kitTup : ∀ d : PyData, kitB (tyD d) "tuple" = some (isTupD d)
  | .none => (by decide +kernel : kitB "NoneType" "tuple" = some false)
  | .bool _ => (by decide +kernel : kitB "bool" "tuple" = some false)
  | .int _ => (by decide +kernel : kitB "int" "tuple" = some false)
  | .str _ => (by decide +kernel : kitB "str" "tuple" = some false)
  | .list _ => (by decide +kernel : kitB "list" "tuple" = some false)
  | .tuple _ => (by decide +kernel : kitB "tuple" "tuple" = some true)
  | .dict _ => (by decide +kernel : kitB "dict" "tuple" = some false)
theorem kitStr : ∀ d : PyData, kitB (tyD d) "str" = some (isStrD d)
  | .none => (by decide +kernel : kitB "NoneType" "str" = some false)
  | .bool _ => (by decide +kernel : kitB "bool" "str" = some false)
  | .int _ => (by decide +kernel : kitB "int" "str" = some false)
  | .str _ => (by decide +kernel : kitB "str" "str" = some true)
  | .list _ => (by decide +kernel : kitB "list" "str" = some false)
  | .tuple _ => (by decide +kernel : kitB "tuple" "str" = some false)
  | .dict _ => (by decide +kernel : kitB "dict" "str" = some false)
def wholeD : PyData → Bool
  | .int _ => true
  | _ => false
def worthD : PyData → Bool
  | .int i => decide (0 ≤ i) && decide (i ≤ 1)
  | _ => false
theorem whole_of : ∀ {d : PyData}, isIntD d = true → wholeD d = !isBoolD d
  | .int _, _ => rfl
  | .bool _, _ => rfl
  | .none, h => by cases h
  | .str _, h => by cases h
  | .list _, h => by cases h
  | .tuple _, h => by cases h
  | .dict _, h => by cases h
theorem whole_not : ∀ {d : PyData}, ¬ isIntD d = true → wholeD d = false
  | .int _, h => absurd rfl h
  | .bool _, h => absurd rfl h
  | .none, _ => rfl
  | .str _, _ => rfl
  | .list _, _ => rfl
  | .tuple _, _ => rfl
  | .dict _, _ => rfl
theorem whole_int : ∀ {d : PyData}, wholeD d = true → ∃ i, d = .int i
  | .int i, _ => ⟨i, rfl⟩
  | .bool _, h => by cases h
  | .none, h => by cases h
  | .str _, h => by cases h
  | .list _, h => by cases h
  | .tuple _, h => by cases h
  | .dict _, h => by cases h
theorem worth_not : ∀ {d : PyData}, ¬ wholeD d = true → worthD d = false
  | .int _, h => absurd rfl h
  | .bool _, _ => rfl
  | .none, _ => rfl
  | .str _, _ => rfl
  | .list _, _ => rfl
  | .tuple _, _ => rfl
  | .dict _, _ => rfl
theorem tup_of : ∀ {d : PyData}, isTupD d = true → ∃ ds, d = .tuple ds
  | .tuple ds, _ => ⟨ds, rfl⟩
  | .bool _, h => by cases h
  | .none, h => by cases h
  | .str _, h => by cases h
  | .list _, h => by cases h
  | .int _, h => by cases h
  | .dict _, h => by cases h
def sp_is_whole (K : PySem.W.Frag) : Sp := fun vs H Q _ => ∃ (v : V) (d : PyData), vs = [v] ∧ Sh H v d ∧ Q (.bl (wholeD d)) H
theorem ok_is_whole (T : Tx K mg) : FnOk P w K mg base CX0 1 T.f_is_whole T.fd_is_whole ["thing"] (sp_is_whole K) := by
  refine T.F_is_whole.ok sc_is_whole (fun vs H Q E h => ?_) (fun cdv A outer s H vs Q E hr h => ?_)
  · obtain ⟨v, d, rfl, _⟩ := h
    rfl
  · obtain ⟨v, d, rfl, sh, q⟩ := h
    refine ⟨_, (pss_one (ps_ret (pe_and (pe_callB call_isi (by rfl) T.m_isinstance (by decide +kernel) (pa_cons (pv 0) (pa_cons (pe_bltn (v := .ty "int") (u := .type "int") (by rfl) T.m_int (by decide +kernel) rfl) pa_nil))) (pe_one (pe_not (pe_callB call_isi (by rfl) T.m_isinstance (by decide +kernel) (pa_cons (pv 0) (pa_cons (pe_bltn (v := .ty "bool") (u := .type "bool") (by rfl) T.m_bool (by decide +kernel) rfl) pa_nil)))))))), ?_⟩
    refine ⟨v, rfl, _, _, _, _, _, rfl, .ty _, sh.ty, kit_ty (kitInt d), _, rfl, ite2 (fun e => ?_) (fun e => ?_)⟩
    · refine ⟨v, rfl, _, _, _, _, _, rfl, .ty _, sh.ty, kit_ty (kitBool d), _, rfl, ?_⟩
      rw [← whole_of e]
      exact q
    · rw [whole_not e] at q
      exact q

def sp_is_worth (K : PySem.W.Frag) : Sp := fun vs H Q _ => ∃ (v : V) (d : PyData), vs = [v] ∧ Sh H v d ∧ Q (.bl (worthD d)) H
theorem ok_is_worth (T : Tx K mg) : FnOk P w K mg base CX0 2 T.f_is_worth T.fd_is_worth ["thing"] (sp_is_worth K) := by
  refine T.F_is_worth.ok sc_is_worth (fun vs H Q E h => ?_) (fun cdv A outer s H vs Q E hr h => ?_)
  · obtain ⟨v, d, rfl, _⟩ := h
    rfl
  · obtain ⟨v, d, rfl, sh, q⟩ := h
    refine ⟨_, (pss_one (ps_ret (pe_and (pe_call (ok_is_whole T) (hr.mono (by decide)) (by rfl) T.g_is_whole T.F_is_whole.kp T.b_is_whole .nil pass0 (pa_cons (pv 0) pa_nil)) (pe_one (pe_chain op_le op_le pe_int (pv 0) pe_int))))), ?_⟩
    refine ⟨v, rfl, v, d, rfl, sh, _, rfl, ite2 (fun e => ?_) (fun e => ?_)⟩
    · obtain ⟨i, rfl⟩ := whole_int e
      cases sh
      replace q : Q (.bl (decide (0 ≤ i) && decide (i ≤ 1))) H := q
      refine ⟨.int i, rfl, 0, i, rfl, rfl, _, rfl, ite2 (fun e1 => ?_) (fun e1 => ?_)⟩
      · refine ⟨i, 1, rfl, rfl, ?_⟩
        rw [e1, Bool.true_and] at q
        exact q
      · rw [Bool.eq_false_iff.mpr e1, Bool.false_and] at q
        exact q
    · rw [worth_not e] at q
      exact q

def isRowD (m : Nat) : PyData → Bool
  | .tuple ds => decide (ds.length = m) && ds.all worthD
  | _ => false
def isChD (m : Nat) : PyData → Bool
  | .tuple ds => decide (ds.length = 2) && ds.all (isRowD m)
  | _ => false
theorem row_not {m : Nat} : ∀ {d : PyData}, ¬ isTupD d = true → isRowD m d = false
  | .tuple _, h => absurd rfl h
  | .bool _, _ => rfl
  | .none, _ => rfl
  | .str _, _ => rfl
  | .list _, _ => rfl
  | .int _, _ => rfl
  | .dict _, _ => rfl
theorem ch_not {m : Nat} : ∀ {d : PyData}, ¬ isTupD d = true → isChD m d = false
  | .tuple _, h => absurd rfl h
  | .bool _, _ => rfl
  | .none, _ => rfl
  | .str _, _ => rfl
  | .list _, _ => rfl
  | .int _, _ => rfl
  | .dict _, _ => rfl
theorem all_stopR {α : Type} {f : α → Bool} {l : List α} {j : Nat} {x : α} (h : l[j]? = some x) (n : ¬ f x = true) : l.all f = false := by
  cases e : l.all f with
  | false => rfl
  | true => exact absurd (List.all_eq_true.mp e x (List.mem_of_getElem? h)) n
theorem all_takeR {α : Type} {f : α → Bool} {l : List α} {j : Nat} {x : α} (h : l[j]? = some x) (p : (l.take j).all f = true) (hx : f x = true) : (l.take (j + 1)).all f = true := by
  rw [List.take_add_one, h, List.all_append, p, Bool.true_and]
  show (f x && true) = true
  rw [hx]
  rfl
theorem int_eqN {a b : Nat} : decide (V.int (a : Int) = V.int (b : Int)) = decide (a = b) := by
  by_cases h : a = b
  · subst h
    rw [decide_eq_true rfl, decide_eq_true rfl]
  · rw [decide_eq_false h, decide_eq_false fun z => h (by have := V.int.inj z; omega)]
def sp_is_row (T : Tx K mg) : Sp := fun vs H Q _ => ∃ (m : Nat) (v : V) (d : PyData), vs = [.int m, v] ∧ Sh H v d ∧ GxR.TabG H T.P_is_row ∧ ∀ H', Gr H H' → Q (.bl (isRowD m d)) H'
theorem ok_is_row (T : Tx K mg) (B : Tb base T) : FnOk P w K mg base CX0 4 T.f_is_row T.fd_is_row ["many", "thing"] (sp_is_row T) := by
  refine okC T.F_is_row sc_is_row (fun vs H Q E h => ?_) (fun A outer s H vs Q E hr h => ?_)
  · obtain ⟨m, v, d, rfl, _⟩ := h
    rfl
  · obtain ⟨m, v, d, rfl, sh, tab, q⟩ := h
    refine ⟨_, (pss_one (ps_ret (pe_and (pe_callB call_isi (by rfl) T.m_isinstance (by decide +kernel) (pa_cons (pv 1) (pa_cons (pe_bltn (v := .ty "tuple") (u := .type "tuple") (by rfl) T.m_tuple (by decide +kernel) rfl) pa_nil))) (pe_and (pe_cmpR op_eq (pe_callB call_len_seq (by rfl) T.m_len PySem.boot_len (pa_cons (pv 1) pa_nil)) (pv 0) (nomark _)) (pe_one (pe_allX (own := [("worth", 2)]) (k := 2) (hr.mono (by decide)) rfl sc_is_row.nd (by rfl) T.m_all (by decide +kernel) B.TB_is_row T.cd_is_row rfl rfl (by decide +kernel) (blkOk_by (own := [("worth", 2)]) (N := ["many", "thing", "worth"]) (sc := defScope s_is_row) (by decide +kernel)) (pi_tup (pv 1)) (fun _ _ _ _ _ _ _ hr gd => (pg_name (i := 2) sc_is_row.nd rfl (by first | exact .inl rfl | exact .inr rfl))) (fun _ _ _ _ _ _ _ hr gd => pts_nil) (fun _ _ _ _ _ _ _ hr gd => (pe_call (ok_is_worth T) (hr.mono (by decide)) (by rfl) T.g_is_worth T.F_is_worth.kp T.b_is_worth .nil pass0 (pa_cons (pv 2) pa_nil))) (fun _ => rfl))))))), ?_⟩
    refine ⟨v, rfl, _, _, _, _, _, rfl, .ty _, sh.ty, kit_ty (kitTup d), _, rfl, ite2 (fun e => ?_) (fun e => ?_)⟩
    · obtain ⟨ds, rfl⟩ := tup_of e
      cases sh with
      | @tup a xs _ h t =>
        have lx := t.length
        refine ⟨.ref a, rfl, a, xs, rfl, .inr (SqT.of h), .int m, rfl, rfl, _, rfl, ?_⟩
        rw [int_eqN, lx]
        refine ite2 (fun e1 => ?_) (fun e1 => ?_)
        · refine ⟨.ref a, rfl, a, rfl, ⟨_, SqT.of h⟩, tab, fun H2 tb => ?_⟩
          have g2 := Gr.tab tab tb
          refine gx_tup (K := K) (a := a) (xs := xs) (fun j _ H' => Gr H H' ∧ (ds.take j).all worthD = true) ⟨g2, rfl⟩ (fun j _ H' _ e => SqT.of (e.1.tup h)) ?_ ?_
          · rintro j x _ H' hx ⟨g3, p⟩
            obtain ⟨e0, he0, te0⟩ := t.get hx
            refine ⟨rfl, x, rfl, x, e0, rfl, te0.gr g3, _, rfl, ite2 (fun z => ⟨g3, all_takeR he0 p z⟩) (fun z => ?_)⟩
            have q' := q H' g3
            have : isRowD m (.tuple ds) = false := by
              show (decide (ds.length = m) && ds.all worthD) = false
              rw [all_stopR he0 z, Bool.and_false]
            rw [this] at q'
            exact q'
          · rintro _ H' ⟨g3, p⟩
            rw [lx, List.take_length] at p
            have q' := q H' g3
            have : isRowD m (.tuple ds) = true := by
              show (decide (ds.length = m) && ds.all worthD) = true
              rw [p, e1]
              rfl
            rw [this] at q'
            exact q'
        · have q' := q H Gr.refl
          have : isRowD m (.tuple ds) = false := by
            show (decide (ds.length = m) && ds.all worthD) = false
            rw [Bool.eq_false_iff.mpr e1, Bool.false_and]
          rw [this] at q'
          exact q'
    · have q' := q H Gr.refl
      rw [row_not e] at q'
      exact q'
def sp_is_change (T : Tx K mg) : Sp := fun vs H Q _ => ∃ (m : Nat) (v : V) (d : PyData), vs = [.int m, v] ∧ Sh H v d ∧ GxR.TabG H T.P_is_row ∧ GxR.TabG H T.P_is_change ∧ ∀ H', Gr H H' → Q (.bl (isChD m d)) H'
theorem ok_is_change (T : Tx K mg) (B : Tb base T) : FnOk P w K mg base CX0 6 T.f_is_change T.fd_is_change ["many", "thing"] (sp_is_change T) := by
  refine okC T.F_is_change sc_is_change (fun vs H Q E h => ?_) (fun A outer s H vs Q E hr h => ?_)
  · obtain ⟨m, v, d, rfl, _⟩ := h
    rfl
  · obtain ⟨m, v, d, rfl, sh, tab0, tab, q⟩ := h
    refine ⟨_, (pss_one (ps_ret (pe_and (pe_callB call_isi (by rfl) T.m_isinstance (by decide +kernel) (pa_cons (pv 1) (pa_cons (pe_bltn (v := .ty "tuple") (u := .type "tuple") (by rfl) T.m_tuple (by decide +kernel) rfl) pa_nil))) (pe_and (pe_cmpR op_eq (pe_callB call_len_seq (by rfl) T.m_len PySem.boot_len (pa_cons (pv 1) pa_nil)) pe_int (nomark _)) (pe_one (pe_allX (own := [("row", 2)]) (k := 4) (hr.mono (by decide)) rfl sc_is_change.nd (by rfl) T.m_all (by decide +kernel) B.TB_is_change T.cd_is_change rfl rfl (by decide +kernel) (blkOk_by (own := [("row", 2)]) (N := ["many", "thing", "row"]) (sc := defScope s_is_change) (by decide +kernel)) (pi_tup (pv 1)) (fun _ _ _ _ _ _ _ hr gd => (pg_name (i := 2) sc_is_change.nd rfl (by first | exact .inl rfl | exact .inr rfl))) (fun _ _ _ _ _ _ _ hr gd => pts_nil) (fun _ _ _ _ _ _ _ hr gd => (pe_call (ok_is_row T B) (hr.mono (by decide)) (by rfl) T.g_is_row T.F_is_row.kp T.b_is_row .nil pass0 (pa_cons (pv 0) (pa_cons (pv 2) pa_nil)))) (fun _ => rfl))))))), ?_⟩
    refine ⟨v, rfl, _, _, _, _, _, rfl, .ty _, sh.ty, kit_ty (kitTup d), _, rfl, ite2 (fun e => ?_) (fun e => ?_)⟩
    · obtain ⟨ds, rfl⟩ := tup_of e
      cases sh with
      | @tup a xs _ h t =>
        have lx := t.length
        refine ⟨.ref a, rfl, a, xs, rfl, .inr (SqT.of h), rfl, _, rfl, ?_⟩
        have e2 : decide (V.int (xs.length : Int) = V.int 2) = decide (ds.length = 2) := by
          rw [lx]
          exact int_eqN (b := 2)
        rw [e2]
        refine ite2 (fun e1 => ?_) (fun e1 => ?_)
        · refine ⟨.ref a, rfl, a, rfl, ⟨_, SqT.of h⟩, tab, fun H2 tb => ?_⟩
          have g2 := Gr.tab tab tb
          refine gx_tup (K := K) (a := a) (xs := xs) (fun j _ H' => Gr H H' ∧ (ds.take j).all (isRowD m) = true) ⟨g2, rfl⟩ (fun j _ H' _ e => SqT.of (e.1.tup h)) ?_ ?_
          · rintro j x _ H' hx ⟨g3, p⟩
            obtain ⟨e0, he0, te0⟩ := t.get hx
            refine ⟨rfl, .int m, rfl, x, rfl, m, x, e0, rfl, te0.gr g3, g3.2 _ tab0, fun H4 g4 => ⟨_, rfl, ite2 (fun z => ⟨g3.trans g4, all_takeR he0 p z⟩) (fun z => ?_)⟩⟩
            have q' := q H4 (g3.trans g4)
            have : isChD m (.tuple ds) = false := by
              show (decide (ds.length = 2) && ds.all (isRowD m)) = false
              rw [all_stopR he0 z, Bool.and_false]
            rw [this] at q'
            exact q'
          · rintro _ H' ⟨g3, p⟩
            rw [lx, List.take_length] at p
            have q' := q H' g3
            have : isChD m (.tuple ds) = true := by
              show (decide (ds.length = 2) && ds.all (isRowD m)) = true
              rw [p, e1]
              rfl
            rw [this] at q'
            exact q'
        · have q' := q H Gr.refl
          have : isChD m (.tuple ds) = false := by
            show (decide (ds.length = 2) && ds.all (isRowD m)) = false
            rw [Bool.eq_false_iff.mpr e1, Bool.false_and]
          rw [this] at q'
          exact q'
    · have q' := q H Gr.refl
      rw [ch_not e] at q'
      exact q'

/-! ### texts of noughts and ones, of anything -/
def sgB (c : Nat) : Bool := decide (c ∈ (Str.ofString "01").cps.toList)
def isSignsD (m : Int) : PyData → Bool
  | .str x => decide ((x.length : Int) = m) && x.cps.toList.all sgB
  | _ => false
theorem signs_not {m : Int} : ∀ {d : PyData}, ¬ isStrD d = true → isSignsD m d = false
  | .str _, h => absurd rfl h
  | .bool _, _ => rfl
  | .none, _ => rfl
  | .tuple _, _ => rfl
  | .list _, _ => rfl
  | .int _, _ => rfl
  | .dict _, _ => rfl
theorem strD_of : ∀ {d : PyData}, isStrD d = true → ∃ z, d = .str z
  | .str z, _ => ⟨z, rfl⟩
  | .bool _, h => by cases h
  | .none, h => by cases h
  | .tuple _, h => by cases h
  | .list _, h => by cases h
  | .int _, h => by cases h
  | .dict _, h => by cases h
theorem w_line {x : Str} (h : (PyData.str x).weight ≤ 50000) : x.length ≤ sizeLine := Nat.le_trans (show x.length ≤ 50000 from h) (by decide)
theorem len_eqI {n : Nat} {m : Int} : decide (V.int (n : Int) = V.int m) = decide ((n : Int) = m) := by
  by_cases h : (n : Int) = m
  · rw [decide_eq_true h, decide_eq_true (by rw [h])]
  · rw [decide_eq_false h, decide_eq_false fun z => h (V.int.inj z)]
theorem cps_at {x : Str} {j c : Nat} (h : x.cps[j]? = some c) : x.cps.toList[j]? = some c := by rw [Array.getElem?_toList]; exact h
theorem weight_get {ds : List PyData} {j : Nat} {d : PyData} (h : ds[j]? = some d) : d.weight ≤ PyData.weightAll ds := by
  induction ds generalizing j with
  | nil => simp at h
  | cons x r ih =>
    cases j with
    | zero =>
      cases Option.some.inj h
      show d.weight ≤ d.weight + 1 + PyData.weightAll r
      omega
    | succ j =>
      have := ih (j := j) h
      show d.weight ≤ x.weight + 1 + PyData.weightAll r
      omega
theorem two_of {ds : List PyData} (h : ds.length = 2) : ∃ a b, ds = [a, b] := by
  match ds, h with
  | [a, b], _ => exact ⟨a, b, rfl⟩
def sp_is_signs (T : Tx K mg) : Sp := fun vs H Q _ => ∃ (m : Int) (v : V) (d : PyData), vs = [.int m, v] ∧ Sh H v d ∧ d.weight ≤ 50000 ∧ GxR.TabG H T.P_is_signs ∧ ∀ H', Gr H H' → Q (.bl (isSignsD m d)) H'
theorem ok_is_signs (T : Tx K mg) (B : Tb base T) : FnOk P w K mg base CX0 2 T.f_is_signs T.fd_is_signs ["many", "thing"] (sp_is_signs T) := by
  refine okC T.F_is_signs sc_is_signs (fun vs H Q E h => ?_) (fun A outer s H vs Q E hr h => ?_)
  · obtain ⟨m, v, d, rfl, _⟩ := h
    rfl
  · obtain ⟨m, v, d, rfl, sh, wt, tab, q⟩ := h
    refine ⟨_, (pss_one (ps_ret (pe_and (pe_callB call_isi (by rfl) T.m_isinstance (by decide +kernel) (pa_cons (pv 1) (pa_cons (pe_bltn (v := .ty "str") (u := .type "str") (by rfl) T.m_str (by decide +kernel) rfl) pa_nil))) (pe_and (pe_cmpR op_eq (pe_callB call_len_str (by rfl) T.m_len PySem.boot_len (pa_cons (pv 1) pa_nil)) (pv 0) (nomark _)) (pe_one (pe_allX (own := [("sign", 2)]) (k := 0) (hr.mono (by decide)) rfl sc_is_signs.nd (by rfl) T.m_all (by decide +kernel) B.TB_is_signs T.cd_is_signs rfl rfl (by decide +kernel) (blkOk_by (own := [("sign", 2)]) (N := ["many", "thing", "sign"]) (sc := defScope s_is_signs) (by decide +kernel)) (pi_str (pv 1)) (fun _ _ _ _ _ _ _ hr gd => (pg_name (i := 2) sc_is_signs.nd rfl (by first | exact .inl rfl | exact .inr rfl))) (fun _ _ _ _ _ _ _ hr gd => pts_nil) (fun _ _ _ _ _ _ _ hr gd => (pe_cmpR op_in_sign (pv 2) pe_str rfl)) (fun _ => rfl))))))), ?_⟩
    refine ⟨v, rfl, _, _, _, _, _, rfl, .ty _, sh.ty, kit_ty (kitStr d), _, rfl, ite2 (fun e => ?_) (fun e => ?_)⟩
    · obtain ⟨x, rfl⟩ := strD_of e
      cases sh
      refine ⟨.str x, rfl, x, rfl, w_line wt, .int m, rfl, rfl, _, rfl, ?_⟩
      rw [len_eqI]
      refine ite2 (fun e1 => ?_) (fun e1 => ?_)
      · refine ⟨.str x, rfl, x, rfl, tab, fun H2 tb => ?_⟩
        have g2 := Gr.tab tab tb
        refine gx_str (z := x) (fun j _ H' => H' = H2 ∧ (x.cps.toList.take j).all sgB = true) ⟨rfl, rfl⟩ ?_ ?_
        · rintro j c _ H' hx ⟨rfl, ih⟩
          have hc := cps_at hx
          refine ⟨rfl, .str ⟨#[c]⟩, rfl, c, _, rfl, rfl, _, rfl, ite2 (fun z => ⟨rfl, all_takeR hc ih z⟩) (fun z => ?_)⟩
          have q' := q H' g2
          have : isSignsD m (.str x) = false := by
            show (decide ((x.length : Int) = m) && x.cps.toList.all sgB) = false
            rw [all_stopR hc z, Bool.and_false]
          rw [this] at q'
          exact q'
        · rintro _ H' ⟨rfl, ih⟩
          have : x.cps.size = x.cps.toList.length := Array.length_toList.symm
          rw [this, List.take_length] at ih
          have q' := q H' g2
          have : isSignsD m (.str x) = true := by
            show (decide ((x.length : Int) = m) && x.cps.toList.all sgB) = true
            rw [ih, e1]
            rfl
          rw [this] at q'
          exact q'
      · have q' := q H Gr.refl
        have : isSignsD m (.str x) = false := by
          show (decide ((x.length : Int) = m) && x.cps.toList.all sgB) = false
          rw [Bool.eq_false_iff.mpr e1, Bool.false_and]
        rw [this] at q'
        exact q'
    · have q' := q H Gr.refl
      rw [signs_not e] at q'
      exact q'

/-! ### wishes, of anything -/
def chsD (k : Nat) : PyData → Bool
  | .tuple cs => cs.all (isChD k)
  | _ => false
def wishParts (a b c : PyData) : Bool :=
  match a with
  | .int m => (decide (1 ≤ m) && decide (m ≤ 4)) && (isSignsD (2 ^ m.toNat) b && chsD m.toNat c)
  | _ => false
def isWishD : PyData → Bool
  | .tuple ds => (match ds with
    | [a, b, c] => wishParts a b c
    | _ => false)
  | _ => false
theorem wish_not : ∀ {d : PyData}, ¬ isTupD d = true → isWishD d = false
  | .tuple _, h => absurd rfl h
  | .bool _, _ => rfl
  | .none, _ => rfl
  | .str _, _ => rfl
  | .list _, _ => rfl
  | .int _, _ => rfl
  | .dict _, _ => rfl
theorem wish_len : ∀ {ds : List PyData}, ¬ ds.length = 3 → isWishD (.tuple ds) = false
  | [], _ => rfl
  | [_], _ => rfl
  | [_, _], _ => rfl
  | [_, _, _], h => absurd rfl h
  | _ :: _ :: _ :: _ :: _, _ => rfl
theorem wish_int : ∀ {a : PyData} (b c : PyData), ¬ wholeD a = true → wishParts a b c = false
  | .int _, _, _, h => absurd rfl h
  | .bool _, _, _, _ => rfl
  | .none, _, _, _ => rfl
  | .str _, _, _, _ => rfl
  | .list _, _, _, _ => rfl
  | .tuple _, _, _, _ => rfl
  | .dict _, _, _, _ => rfl
theorem chs_not {k : Nat} : ∀ {c : PyData}, ¬ isTupD c = true → chsD k c = false
  | .tuple _, h => absurd rfl h
  | .bool _, _ => rfl
  | .none, _ => rfl
  | .str _, _ => rfl
  | .list _, _ => rfl
  | .int _, _ => rfl
  | .dict _, _ => rfl
theorem three_of {ds : List PyData} (h : ds.length = 3) : ∃ a b c, ds = [a, b, c] := by
  match ds, h with
  | [a, b, c], _ => exact ⟨a, b, c, rfl⟩
theorem len_eq3 {n : Nat} : decide (V.int (n : Int) = V.int 3) = decide (n = 3) := by
  rw [len_eqI]
  exact decide_eq_decide.mpr (by omega)
def sp_is_wish (T : Tx K mg) : Sp := fun vs H Q _ => ∃ (v : V) (d : PyData), vs = [v] ∧ Sh H v d ∧ d.weight ≤ 50000 ∧ Tabs H T.tabs ∧ ∀ H', Gr H H' → Q (.bl (isWishD d)) H'
theorem ok_is_wish (T : Tx K mg) (B : Tb base T) : FnOk P w K mg base CX0 8 T.f_is_wish T.fd_is_wish ["thing"] (sp_is_wish T) := by
  refine okC T.F_is_wish sc_is_wish (fun vs H Q E h => ?_) (fun A outer s H vs Q E hr h => ?_)
  · obtain ⟨v, d, rfl, _⟩ := h
    rfl
  · obtain ⟨v, d, rfl, sh, wt, tabs, q⟩ := h
    have tab0 : GxR.TabG H T.P_is_signs := tabs _ (by simp [Tx.tabs])
    have tab1 : GxR.TabG H T.P_is_row := tabs _ (by simp [Tx.tabs])
    have tab2 : GxR.TabG H T.P_is_change := tabs _ (by simp [Tx.tabs])
    have tab3 : GxR.TabG H T.P_is_wish := tabs _ (by simp [Tx.tabs])
    refine ⟨_, (pss_cons (ps_if (pw_or (pt_not (pt_val (pe_callB call_isi (by rfl) T.m_isinstance (by decide +kernel) (pa_cons (pv 0) (pa_cons (pe_bltn (v := .ty "tuple") (u := .type "tuple") (by rfl) T.m_tuple (by decide +kernel) rfl) pa_nil))))) (pw_or1 (pt_cmpR op_ne (pe_callB call_len_seq (by rfl) T.m_len PySem.boot_len (pa_cons (pv 0) pa_nil)) pe_int (nomark _)))).pt (pss_one (ps_ret pe_bl)) pss_nil) (pss_cons (ps_asg (pv 0) (pg_tup rfl (pgs_cons (pg_name (i := 1) sc_is_wish.nd rfl (by first | exact .inl rfl | exact .inr rfl)) (pgs_cons (pg_name (i := 2) sc_is_wish.nd rfl (by first | exact .inl rfl | exact .inr rfl)) (pgs_cons (pg_name (i := 3) sc_is_wish.nd rfl (by first | exact .inl rfl | exact .inr rfl)) pgs_nil))))) (pss_cons (ps_if (pw_or (pt_not (pt_val (pe_call (ok_is_whole T) (hr.mono (by decide)) (by rfl) T.g_is_whole T.F_is_whole.kp T.b_is_whole .nil pass0 (pa_cons (pv 1) pa_nil)))) (pw_or1 (pt_not (pt_chain op_le op_le pe_int (pv 1) (pe_glob (v := .int 4) (by rfl) T.k_MOST_WISHED.choose_spec ⟨_, rfl⟩))))).pt (pss_one (ps_ret pe_bl)) pss_nil) (pss_cons (ps_if (pw_or (pt_not (pt_val (pe_call (ok_is_signs T B) (hr.mono (by decide)) (by rfl) T.g_is_signs T.F_is_signs.kp T.b_is_signs .nil pass0 (pa_cons (pe_op op_shl pe_int (pv 1)) (pa_cons (pv 2) pa_nil))))) (pw_or1 (pt_not (pt_val (pe_callB call_isi (by rfl) T.m_isinstance (by decide +kernel) (pa_cons (pv 3) (pa_cons (pe_bltn (v := .ty "tuple") (u := .type "tuple") (by rfl) T.m_tuple (by decide +kernel) rfl) pa_nil))))))).pt (pss_one (ps_ret pe_bl)) pss_nil) (pss_one (ps_ret (pe_allX (own := [("change", 4)]) (k := 6) (hr.mono (by decide)) rfl sc_is_wish.nd (by rfl) T.m_all (by decide +kernel) B.TB_is_wish T.cd_is_wish rfl rfl (by decide +kernel) (blkOk_by (own := [("change", 4)]) (N := ["thing", "many", "table", "changes", "change"]) (sc := defScope s_is_wish) (by decide +kernel)) (pi_tup (pv 3)) (fun _ _ _ _ _ _ _ hr gd => (pg_name (i := 4) sc_is_wish.nd rfl (by first | exact .inl rfl | exact .inr rfl))) (fun _ _ _ _ _ _ _ hr gd => pts_nil) (fun _ _ _ _ _ _ _ hr gd => (pe_call (ok_is_change T B) (hr.mono (by decide)) (by rfl) T.g_is_change T.F_is_change.kp T.b_is_change .nil pass0 (pa_cons (pv 1) (pa_cons (pv 4) pa_nil)))) (fun _ => rfl)))))))), ?_⟩
    refine ⟨v, rfl, _, _, _, _, _, rfl, .ty _, sh.ty, kit_ty (kitTup d), _, rfl, ite2 (fun e => ?_) (fun e => ?_)⟩
    · have q' := q H Gr.refl
      rw [wish_not (notT e)] at q'
      exact q'
    obtain ⟨ds, rfl⟩ := tup_of (notF e)
    cases sh with
    | @tup a xs _ h t =>
      have lx := t.length
      refine ⟨.ref a, rfl, a, xs, rfl, .inr (SqT.of h), rfl, _, rfl, ?_⟩
      rw [lx, len_eq3]
      refine ite2 (fun e1 => ?_) (fun e1 => ?_)
      · have q' := q H Gr.refl
        rw [wish_len (fun z => by rw [z] at e1; cases e1)] at q'
        exact q'
      obtain ⟨d0, d1, d2, rfl⟩ := three_of (ds := ds) (of_decide_eq_true (notF e1))
      cases t with
      | @cons v0 _ _ _ t0 t =>
        cases t with
        | @cons v1 _ _ _ t1 t =>
          cases t with
          | @cons v2 _ _ _ t2 t =>
            cases t
            replace q : ∀ H', Gr H H' → Q (.bl (wishParts d0 d1 d2)) H' := q
            refine ⟨.ref a, rfl, a, _, rfl, SqT.of h, rfl, _, _, rfl, _, _, rfl, _, _, rfl, rfl, ?_⟩
            refine ⟨v0, rfl, v0, d0, rfl, t0, _, rfl, ite2 (fun e3 => ?_) (fun e3 => ?_)⟩
            · have q' := q H Gr.refl
              rw [wish_int d1 d2 (notT e3)] at q'
              exact q'
            obtain ⟨m, rfl⟩ := whole_int (notF e3)
            cases t0
            replace q : ∀ H', Gr H H' → Q (.bl ((decide (1 ≤ m) && decide (m ≤ 4)) && (isSignsD (2 ^ m.toNat) d1 && chsD m.toNat d2))) H' := q
            refine ⟨.int m, rfl, 1, _, rfl, rfl, _, rfl, ite2 (fun e4 => ?_) (fun e4 => ?_)⟩
            · refine ⟨_, 4, rfl, rfl, _, rfl, ite2 (fun e5 => ?_) (fun e5 => ?_)⟩
              · have q' := q H Gr.refl
                have e5 : decide (m ≤ 4) = false := by simpa using e5
                rw [e5, Bool.and_false, Bool.false_and] at q'
                exact q'
              have e5 : decide (m ≤ 4) = true := by simpa using e5
              rw [e4, e5, Bool.true_and, Bool.true_and] at q
              have m1 : 1 ≤ m := of_decide_eq_true e4
              have m4 : m ≤ 4 := of_decide_eq_true e5
              obtain ⟨k, rfl⟩ := Int.eq_ofNat_of_zero_le (show 0 ≤ m by omega)
              have wd1 : d1.weight ≤ 50000 := Nat.le_trans (weight_get (ds := [.int (k : Int), d1, d2]) (j := 1) rfl) wt
              refine ⟨.int (k : Int), rfl, 1, _, rfl, rfl, ⟨by omega, by omega, by decide⟩, v1, rfl, (2 : Int) ^ k, v1, d1, ?_, t1, wd1, tab0, fun H2 g2 => ⟨_, rfl, ite2 (fun e6 => ?_) (fun e6 => ?_)⟩⟩
              · show [V.int ((1 : Int) * 2 ^ ((k : Int)).toNat), v1] = _
                rw [Int.one_mul]
                rfl
              · have q' := q H2 g2
                have e6 : isSignsD ((2 : Int) ^ k) d1 = false := by simpa using e6
                rw [show ((k : Int)).toNat = k from rfl, e6, Bool.false_and] at q'
                exact q'
              have e6 : isSignsD ((2 : Int) ^ k) d1 = true := by simpa using e6
              rw [show ((k : Int)).toNat = k from rfl, e6, Bool.true_and] at q
              have t2' := t2.gr g2
              refine ⟨v2, rfl, _, _, _, _, _, rfl, .ty _, t2'.ty, kit_ty (kitTup d2), _, rfl, ite2 (fun e7 => ?_) (fun e7 => ?_)⟩
              · have q' := q H2 g2
                rw [chs_not (notT e7)] at q'
                exact q'
              obtain ⟨cs, rfl⟩ := tup_of (notF e7)
              cases t2' with
              | @tup b ys _ hb tb =>
                have ly := tb.length
                replace q : ∀ H', Gr H H' → Q (.bl (cs.all (isChD k))) H' := q
                refine ⟨.ref b, rfl, b, rfl, ⟨_, SqT.of hb⟩, g2.2 _ tab3, fun H3 tb3 => ?_⟩
                have g3 := Gr.tab (g2.2 _ tab3) tb3
                refine gx_tup (K := K) (a := b) (xs := ys) (fun j _ H' => Gr H2 H' ∧ (cs.take j).all (isChD k) = true) ⟨g3, rfl⟩ (fun j _ H' _ e => SqT.of (e.1.tup hb)) ?_ ?_
                · rintro j x _ H' hx ⟨g4, p⟩
                  obtain ⟨e0, he0, te0⟩ := tb.get hx
                  have g24 := g2.trans g4
                  refine ⟨rfl, .int (k : Int), rfl, x, rfl, k, x, e0, rfl, te0.gr g4, g24.2 _ tab1, g24.2 _ tab2, fun H5 g5 => ⟨_, rfl, ite2 (fun z => ⟨g4.trans g5, all_takeR he0 p z⟩) (fun z => ?_)⟩⟩
                  have q' := q H5 (g24.trans g5)
                  rw [all_stopR he0 z] at q'
                  exact q'
                · rintro _ H' ⟨g4, p⟩
                  rw [ly, List.take_length] at p
                  have q' := q H' (g2.trans g4)
                  rw [p] at q'
                  exact q'
            · have q' := q H Gr.refl
              have e4 : decide (1 ≤ m) = false := by simpa using e4
              rw [e4, Bool.false_and, Bool.false_and] at q'
              exact ⟨false, rfl, iteT q'⟩

end
end Gk

set_option Elab.async false
set_option linter.all false
set_option maxRecDepth 100000
set_option maxHeartbeats 1000000
set_option pp.maxSteps 1500
set_option pp.deepTerms false
namespace Gk
open PySem PySem.Spec PyProof.Rows L2
section
variable {P : Program} {w : World} {K : PySem.W.Frag} {mg : Str → Option Value} {base : Heap}
/-! ### l != [] of any list -/
namespace NeL
section
open PySem.W PySem.Calls HT
variable {X : Cx}
def rNeN (K : PySem.W.Frag) : R2 := fun x y H Q => ∃ a b xs, x = .ref a ∧ y = .ref b ∧ SqL K H a xs ∧ SqL K H b [] ∧ Q (.bl (!xs.isEmpty)) H
theorem op_neN (hu : X.A.units + 64 < cLine) : OpR X (compareOp .NotEq) (rNeN X.K) := by
  intro pins s σ H x y v u Q I rx ry h
  obtain ⟨a, b, xs, rfl, rfl, ha, hb, q⟩ := h
  cases rx
  cases ry
  obtain ⟨us, r1, t1, _⟩ := I.list ha
  obtain ⟨ws, r2, t2, _⟩ := I.list hb
  cases r2
  cases r1 with
  | nil => exact SeqAt.RcNeAt.lists (e := fun _ => true) t1.isList t2.isList rfl (by omega) (fun j h1 _ => absurd h1 (Nat.not_lt_zero _)) _ _ _ _ ⟨.bl false, H, I, rfl, q⟩
  | cons _ _ => exact SeqAt.RcNeAt.lists_lengths t1.isList t2.isList (by simp) (by omega) _ _ _ _ ⟨.bl true, H, I, rfl, q⟩
def rEqN (K : PySem.W.Frag) : R2 := fun x y H Q => ∃ a b xs, x = .ref a ∧ y = .ref b ∧ SqL K H a xs ∧ SqL K H b [] ∧ Q (.bl xs.isEmpty) H
theorem op_eqN (hu : X.A.units + 64 < cLine) : OpR X (compareOp .Eq) (rEqN X.K) := by
  intro pins s σ H x y v u Q I rx ry h
  obtain ⟨a, b, xs, rfl, rfl, ha, hb, q⟩ := h
  cases rx
  cases ry
  obtain ⟨us, r1, t1, _⟩ := I.list ha
  obtain ⟨ws, r2, t2, _⟩ := I.list hb
  cases r2
  cases r1 with
  | nil => exact SeqAt.RcAt.lists (e := fun _ => true) t1.isList t2.isList rfl (by omega) (fun j h1 _ => absurd h1 (Nat.not_lt_zero _)) _ _ _ _ ⟨.bl true, H, I, rfl, q⟩
  | cons _ _ => exact SeqAt.RcAt.lists_lengths t1.isList t2.isList (by simp) (by omega) _ _ _ _ ⟨.bl false, H, I, rfl, q⟩
end
end NeL

/-! ### the law's own whole numbers -/
def sp_l_is_whole (K : PySem.W.Frag) : Sp := fun vs H Q _ => ∃ (v : V) (d : PyData), vs = [v] ∧ Sh H v d ∧ Q (.bl (wholeD d)) H
theorem ok_l_is_whole (T : Tx K mg) : FnOk P w K mg base CX0 1 T.f_l_is_whole T.fd_l_is_whole ["_law_thing"] (sp_l_is_whole K) := by
  refine T.F_l_is_whole.ok sc_l_is_whole (fun vs H Q E h => ?_) (fun cdv A outer s H vs Q E hr h => ?_)
  · obtain ⟨v, d, rfl, _⟩ := h
    rfl
  · obtain ⟨v, d, rfl, sh, q⟩ := h
    refine ⟨_, (pss_one (ps_ret (pe_and (pe_callB call_isi (by rfl) T.m_isinstance (by decide +kernel) (pa_cons (pv 0) (pa_cons (pe_bltn (v := .ty "int") (u := .type "int") (by rfl) T.m_int (by decide +kernel) rfl) pa_nil))) (pe_one (pe_not (pe_callB call_isi (by rfl) T.m_isinstance (by decide +kernel) (pa_cons (pv 0) (pa_cons (pe_bltn (v := .ty "bool") (u := .type "bool") (by rfl) T.m_bool (by decide +kernel) rfl) pa_nil)))))))), ?_⟩
    refine ⟨v, rfl, _, _, _, _, _, rfl, .ty _, sh.ty, kit_ty (kitInt d), _, rfl, ite2 (fun e => ?_) (fun e => ?_)⟩
    · refine ⟨v, rfl, _, _, _, _, _, rfl, .ty _, sh.ty, kit_ty (kitBool d), _, rfl, ?_⟩
      rw [← whole_of e]
      exact q
    · rw [whole_not e] at q
      exact q

/-! ### the law's own rows -/
theorem in01 (i : Int) : inV (.int i) [V.int 0, V.int 1] = worthD (.int i) := by
  have h : ∀ j : Int, eqV (.int j) (.int i) = decide (j = i) := fun j => by
    first
      | rfl
      | simp [eqV]
  show (eqV (.int 0) (.int i) || (eqV (.int 1) (.int i) || false)) = (decide (0 ≤ i) && decide (i ≤ 1))
  rw [h, h, Bool.or_false, Bool.eq_iff_iff]
  simp only [Bool.or_eq_true, Bool.and_eq_true, decide_eq_true_eq]
  omega
theorem worth_not_whole : ∀ {d : PyData}, wholeD d = false → worthD d = false
  | .int _, h => by cases h
  | .bool _, _ => rfl
  | .none, _ => rfl
  | .str _, _ => rfl
  | .list _, _ => rfl
  | .tuple _, _ => rfl
  | .dict _, _ => rfl
theorem all_next {α : Type} {f : α → Bool} {l : List α} {j : Nat} {x : α} (h : l[j]? = some x) : (l.take (j + 1)).all f = ((l.take j).all f && f x) := by
  rw [List.take_add_one, h, List.all_append]
  show (_ && (f x && true)) = _
  rw [Bool.and_true]
def sp_lrow : Sp := fun vs H Q _ => ∃ (m : Nat) (v : V) (d : PyData), vs = [.int m, v] ∧ m ≤ 100 ∧ Sh H v d ∧ ∀ H', Same H H' → Q (.bl (isRowD m d)) H'
theorem ok_l_is_row (T : Tx K mg) : FnOk P w K mg base CX0 2 T.f_l_is_row T.fd_l_is_row ["_law_many", "_law_thing"] sp_lrow := by
  refine T.F_l_is_row.ok sc_l_is_row (fun vs H Q E h => ?_) (fun cdv A outer s H vs Q E hr h => ?_)
  · obtain ⟨m, v, d, rfl, _⟩ := h
    rfl
  · obtain ⟨m, v, d, rfl, hm, sh, q⟩ := h
    refine ⟨_, (pss_cons (ps_if (pw_or (pt_not (pt_val (pe_callB call_isi (by rfl) T.m_isinstance (by decide +kernel) (pa_cons (pv 1) (pa_cons (pe_bltn (v := .ty "tuple") (u := .type "tuple") (by rfl) T.m_tuple (by decide +kernel) rfl) pa_nil))))) (pw_or1 (pt_cmpR op_ne (pe_callB call_len_seq (by rfl) T.m_len PySem.boot_len (pa_cons (pv 1) pa_nil)) (pv 0) (nomark _)))).pt (pss_one (ps_ret pe_bl)) pss_nil) (pss_one (ps_ret (pe_cmpR (NeL.op_eqN hr.units) (pe_lc (own := [("_law_worth", 2)]) (by rfl) sc_l_is_row.nd (pi_tup (pv 1)) (blkOk_by (own := [("_law_worth", 2)]) (N := ["_law_many", "_law_thing", "_law_worth"]) (sc := defScope s_l_is_row) (by decide +kernel)) (fun _ _ _ _ _ => (pg_name (i := 2) sc_l_is_row.nd rfl (by first | exact .inl rfl | exact .inr rfl))) (fun _ _ _ _ _ => (pts_one (PW.pt (pw_or (pt_not (pt_val (pe_call (ok_l_is_whole T) (hr.mono (by decide)) (by rfl) T.g_l_is_whole T.F_l_is_whole.kp T.b_l_is_whole .nil pass0 (pa_cons (pv 2) pa_nil)))) (pw_or1 (pt_cmpR (show OpR _ _ (rIn K true) from op_notIn_seq) (pv 2) (pe_tup (pa_cons pe_int (pa_cons pe_int pa_nil))) rfl)))))) (fun _ _ _ _ _ => (pv 2))) (pe_lst pa_nil) (nomark _))))), ?_⟩
    refine ⟨v, rfl, _, _, _, _, _, rfl, .ty _, sh.ty, kit_ty (kitTup d), _, rfl, ite2 (fun nt => ?_) (fun it => ?_)⟩
    · refine ite2 (fun _ => ?_) (fun z => absurd rfl z)
      have q' := q H same_refl
      rw [row_not (by cases hb : isTupD d <;> simp_all)] at q'
      exact q'
    have it' : isTupD d = true := by
      cases hb : isTupD d
      · rw [hb] at it
        exact absurd rfl it
      · rfl
    obtain ⟨ds, rfl⟩ := tup_of it'
    obtain ⟨a, xs, rfl, ha, t⟩ : ∃ a xs, v = .ref a ∧ H a = some (.tup xs) ∧ ShAll H xs ds := by
      cases sh with
      | @tup a xs _ ha t => exact ⟨a, xs, rfl, ha, t⟩
    have lx := t.length
    refine ⟨.ref a, rfl, a, xs, rfl, .inr (SqT.of ha), .int m, rfl, rfl, _, rfl, ?_⟩
    rw [int_eqN, lx]
    refine ite2 (fun e1 => ?_) (fun e1 => ?_)
    · have q' := q H same_refl
      have : isRowD m (.tuple ds) = false := by
        show (decide (ds.length = m) && ds.all worthD) = false
        have : decide (ds.length = m) = false := by simpa using e1
        rw [this, Bool.false_and]
      rw [this] at q'
      exact q'
    have em : ds.length = m := by simpa using e1
    refine ⟨.ref a, rfl, a, rfl, ⟨_, SqT.of ha⟩, fun L nL => ?_⟩
    refine lc_tup (K := K) (a := a) (xs := xs) (fun j H' => Same H (hd1 L H') ∧ ∃ acc : List V, H' L = some (.lst acc) ∧ acc.length ≤ j ∧ acc.isEmpty = (ds.take j).all worthD) ⟨hd1_of (same_upd nL) nL, [], upd_same, Nat.le_refl _, rfl⟩ (fun j H' _ hP => SqT.of (hd1_le _ _ (hP.1 _ _ ha))) ?_ ?_
    · rintro j x H2 hx ⟨s2, acc, hL, la, ea⟩
      have hj := (List.getElem?_eq_some_iff.mp hx).1
      obtain ⟨e0, he0, sh0⟩ := t.get hx
      have s02 : Same H H2 := fun b o e => hd1_le _ _ (s2 _ _ e)
      have sh2 := sh0.same s02
      have nx := all_next (f := worthD) he0
      refine ⟨rfl, x, rfl, x, e0, rfl, sh2, _, rfl, ite2 (fun nw => ?_) (fun wh => ?_)⟩
      · refine ite2 (fun _ => ?_) (fun z => absurd rfl z)
        refine ⟨x, rfl, acc, hL, Nat.lt_of_le_of_lt la (Nat.lt_of_lt_of_le (show j < 200 by omega) (by decide)), s2.trans hd1_upd, _, upd_same, by rw [List.length_append]; simp only [List.length_cons, List.length_nil]; omega, ?_⟩
        have : worthD e0 = false := worth_not_whole (by cases hb : wholeD e0 <;> simp_all)
        rw [nx, this, Bool.and_false]
        cases acc <;> rfl
      · obtain ⟨i, rfl⟩ := whole_int (d := e0) (by cases hb : wholeD e0 <;> simp_all)
        have hxi : x = .int i := by cases sh0; rfl
        subst hxi
        refine ⟨.int i, rfl, (show 2 ≤ sizeLine by decide), fun p np => ⟨p, _, rfl, .inr (SqT.of upd_same), rfl, rfl, _, rfl, ?_⟩⟩
        have s3 := same_upd (o := HO.tup [V.int 0, .int 1]) np
        have nLp : L ≠ p := ne_of_none hL np
        show if (!inV (.int i) [V.int 0, V.int 1]) = true then _ else _
        rw [in01]
        refine ite2 (fun bad => ?_) (fun good => ?_)
        · refine ⟨.int i, rfl, acc, s3 _ _ hL, Nat.lt_of_le_of_lt la (Nat.lt_of_lt_of_le (show j < 200 by omega) (by decide)), s2.trans ((hd1_same s3).trans hd1_upd), _, upd_same, by rw [List.length_append]; simp only [List.length_cons, List.length_nil]; omega, ?_⟩
          have : worthD (.int i) = false := by cases hb : worthD (.int i) <;> simp_all
          rw [nx, this, Bool.and_false]
          cases acc <;> rfl
        · refine ⟨s2.trans (hd1_same s3), acc, s3 _ _ hL, Nat.le_succ_of_le la, ?_⟩
          have : worthD (.int i) = true := by cases hb : worthD (.int i) <;> simp_all
          rw [nx, this, Bool.and_true]
          exact ea
    · rintro H2 ⟨s2, acc, hL, la, ea⟩
      refine ⟨Nat.zero_le _, fun p np => ⟨L, p, acc, rfl, rfl, SqL.of (same_upd np _ _ hL), SqL.of upd_same, ?_⟩⟩
      have q' := q _ ((show Same H H2 from fun b o e => hd1_le _ _ (s2 _ _ e)).trans (same_upd (o := HO.lst []) np))
      have : isRowD m (.tuple ds) = acc.isEmpty := by
        show (decide (ds.length = m) && ds.all worthD) = _
        rw [ea, lx, List.take_length, decide_eq_true em, Bool.true_and]
      rw [this] at q'
      exact q'

/-! ### text.count of one sign -/
theorem spl_count (c : Nat) : ∀ (L acc : List Nat), (TL.spl [c] 0 acc L).length = L.count c + 1
  | [], acc => by rw [TL.spl_nil]; rfl
  | d :: r, acc => by
    by_cases h : d = c
    · subst h
      rw [TL.spl_hit (show TL.pre [d] (d :: r) = true from TL.pre_self [d] r), List.count_cons_self]
      show (TL.spl [d] 0 [] r).length + 1 = _
      rw [spl_count d r []]
    · rw [TL.spl_miss (TL.pre_of_head [] r h), spl_count c r _, List.count_cons_of_ne h]
theorem parts_len (x : Str) (n : Nat) : ∀ (cuts : List Nat) (a : Nat), (StrLaws.partsFrom x n a cuts).length = cuts.length + 1
  | [], _ => rfl
  | c :: r, a => by
    show (StrLaws.partsFrom x n (c + n) r).length + 1 = _
    rw [parts_len x n r]
    rfl
theorem count_sign (x : Str) (c : Nat) : Txt.count x ⟨#[c]⟩ = ((x.cps.toList.count c : Nat) : Int) := by
  have hy : TL.tl (⟨#[c]⟩ : Str) ≠ [] := by
    show [c] ≠ []
    simp
  obtain ⟨f, g, hn⟩ := StrLaws.occ_tight x ⟨#[c]⟩ (TL.len1 hy)
  have key := TL.parts_spl hy _ 0 f (Nat.zero_le _) g hn
  have e := congrArg List.length key
  rw [List.length_map, parts_len, List.drop_zero] at e
  have e2 : (TL.spl (TL.tl (⟨#[c]⟩ : Str)) 0 [] (TL.tl x)).length = (TL.tl x).count c + 1 := spl_count c _ _
  rw [e2] at e
  show (((Builtin.Str.occurrences x ⟨#[c]⟩ 0 x.length (x.length + 1)).length : Nat) : Int) = _
  have : (Builtin.Str.occurrences x ⟨#[c]⟩ 0 x.length (x.length + 1)).length = x.cps.toList.count c := by
    have e3 : (TL.tl x).count c = x.cps.toList.count c := rfl
    omega
  rw [this]

/-! ### the law's own judge of wishes -/
theorem cnt01 : ∀ L : List Nat, L.count 48 + L.count 49 ≤ L.length ∧ ((L.count 48 + L.count 49 = L.length) ↔ L.all sgB = true)
  | [] => ⟨Nat.le_refl _, ⟨fun _ => rfl, fun _ => rfl⟩⟩
  | d :: r => by
    obtain ⟨h1, h2⟩ := cnt01 r
    have z0 : sgB 48 = true := by decide +kernel
    have z1 : sgB 49 = true := by decide +kernel
    by_cases a : d = 48
    · subst a
      rw [List.count_cons_self, List.count_cons_of_ne (by decide : (48 : Nat) ≠ 49), List.length_cons, List.all_cons, z0, Bool.true_and, ← h2]
      exact ⟨by omega, by omega⟩
    by_cases b : d = 49
    · subst b
      rw [List.count_cons_self, List.count_cons_of_ne (by decide : (49 : Nat) ≠ 48), List.length_cons, List.all_cons, z1, Bool.true_and, ← h2]
      exact ⟨by omega, by omega⟩
    rw [List.count_cons_of_ne a, List.count_cons_of_ne b, List.length_cons, List.all_cons]
    have nd : sgB d = false := by
      refine decide_eq_false fun h => ?_
      have e : (Str.ofString "01").cps.toList = [48, 49] := by decide +kernel
      rw [e] at h
      simp at h
      omega
    rw [nd, Bool.false_and]
    exact ⟨by omega, fun k => by omega, fun k => by cases k⟩
theorem bT {b : Bool} (h : (!b) = true) : b = false := by cases b <;> simp_all
theorem bF {b : Bool} (h : ¬ (!b) = true) : b = true := by cases b <;> simp_all
theorem chD_row {k : Nat} (x y : PyData) : isChD k (.tuple [x, y]) = (isRowD k x && isRowD k y) := by
  show (true && (isRowD k x && (isRowD k y && true))) = _
  rw [Bool.true_and, Bool.and_true]
theorem chD_len {k : Nat} : ∀ {ds : List PyData}, ¬ ds.length = 2 → isChD k (.tuple ds) = false
  | [], _ => rfl
  | [_], _ => rfl
  | [_, _], h => absurd rfl h
  | _ :: _ :: _ :: _, _ => rfl
def sp_l_is_wish (K : PySem.W.Frag) : Sp := fun vs H Q _ => ∃ (v : V) (d : PyData), vs = [v] ∧ Sh H v d ∧ d.weight ≤ 50000 ∧ ∀ H', Same H H' → Q (.bl (isWishD d)) H'
theorem ok_l_is_wish (T : Tx K mg) : FnOk P w K mg base CX0 3 T.f_l_is_wish T.fd_l_is_wish ["_law_thing"] (sp_l_is_wish K) := by
  refine T.F_l_is_wish.ok sc_l_is_wish (fun vs H Q E h => ?_) (fun cdv A outer s H vs Q E hr h => ?_)
  · obtain ⟨v, d, rfl, _⟩ := h
    rfl
  · obtain ⟨v, d, rfl, sh, wt, q⟩ := h
    refine ⟨_, (pss_cons (ps_if (pw_or (pt_not (pt_val (pe_callB call_isi (by rfl) T.m_isinstance (by decide +kernel) (pa_cons (pv 0) (pa_cons (pe_bltn (v := .ty "tuple") (u := .type "tuple") (by rfl) T.m_tuple (by decide +kernel) rfl) pa_nil))))) (pw_or (pt_cmpR op_ne (pe_callB call_len_seq (by rfl) T.m_len PySem.boot_len (pa_cons (pv 0) pa_nil)) pe_int (nomark _)) (pw_or (pt_not (pt_val (pe_call (ok_l_is_whole T) (hr.mono (by decide)) (by rfl) T.g_l_is_whole T.F_l_is_whole.kp T.b_l_is_whole .nil pass0 (pa_cons (pe_ix ix_tup (pv 0) pe_int (fun _ _ => rfl)) pa_nil)))) (pw_or1 (pt_not (pt_chain op_lt op_lt pe_int (pe_ix ix_tup (pv 0) pe_int (fun _ _ => rfl)) pe_int)))))).pt (pss_one (ps_ret pe_bl)) pss_nil) (pss_cons (ps_asg (pv 0) (pg_tup rfl (pgs_cons (pg_name (i := 1) sc_l_is_wish.nd rfl (by first | exact .inl rfl | exact .inr rfl)) (pgs_cons (pg_name (i := 2) sc_l_is_wish.nd rfl (by first | exact .inl rfl | exact .inr rfl)) (pgs_cons (pg_name (i := 3) sc_l_is_wish.nd rfl (by first | exact .inl rfl | exact .inr rfl)) pgs_nil))))) (pss_cons (ps_if (pw_or (pt_not (pt_val (pe_callB call_isi (by rfl) T.m_isinstance (by decide +kernel) (pa_cons (pv 2) (pa_cons (pe_bltn (v := .ty "str") (u := .type "str") (by rfl) T.m_str (by decide +kernel) rfl) pa_nil))))) (pw_or (pt_cmpR op_ne (pe_callB call_len_str (by rfl) T.m_len PySem.boot_len (pa_cons (pv 2) pa_nil)) (pe_ix ix_list (pe_lst (pa_cons pe_int (pa_cons pe_int (pa_cons pe_int (pa_cons pe_int (pa_cons pe_int pa_nil)))))) (pv 1) (fun _ _ => rfl)) (nomark _)) (pw_or1 (pt_not (pt_val (pe_callB call_isi (by rfl) T.m_isinstance (by decide +kernel) (pa_cons (pv 3) (pa_cons (pe_bltn (v := .ty "tuple") (u := .type "tuple") (by rfl) T.m_tuple (by decide +kernel) rfl) pa_nil)))))))).pt (pss_one (ps_ret pe_bl)) pss_nil) (pss_cons (ps_if (pt_cmpR op_ne (pe_op op_add (pe_bm PySem.F.plainAttrs_str PySem.F.slot_str_count PySem.F.type_str_count mt_count (pv 2) (pa_cons pe_str pa_nil)) (pe_bm PySem.F.plainAttrs_str PySem.F.slot_str_count PySem.F.type_str_count mt_count (pv 2) (pa_cons pe_str pa_nil))) (pe_callB call_len_str (by rfl) T.m_len PySem.boot_len (pa_cons (pv 2) pa_nil)) (nomark _)) (pss_one (ps_ret pe_bl)) pss_nil) (pss_cons (ps_for PassesOwn.never rfl (pi_tup (pv 3)) (pg_name (i := 4) sc_l_is_wish.nd rfl (by first | exact .inl rfl | exact .inr rfl)) (pss_cons (ps_if (pw_or (pt_not (pt_val (pe_callB call_isi (by rfl) T.m_isinstance (by decide +kernel) (pa_cons (pv 4) (pa_cons (pe_bltn (v := .ty "tuple") (u := .type "tuple") (by rfl) T.m_tuple (by decide +kernel) rfl) pa_nil))))) (pw_or1 (pt_cmpR op_ne (pe_callB call_len_seq (by rfl) T.m_len PySem.boot_len (pa_cons (pv 4) pa_nil)) pe_int (nomark _)))).pt (pss_one (ps_ret pe_bl)) pss_nil) (pss_one (ps_if (pw_or (pt_not (pt_val (pe_call (ok_l_is_row T) (hr.mono (by decide)) (by rfl) T.g_l_is_row T.F_l_is_row.kp T.b_l_is_row .nil pass0 (pa_cons (pv 1) (pa_cons (pe_ix ix_tup (pv 4) pe_int (fun _ _ => rfl)) pa_nil))))) (pw_or1 (pt_not (pt_val (pe_call (ok_l_is_row T) (hr.mono (by decide)) (by rfl) T.g_l_is_row T.F_l_is_row.kp T.b_l_is_row .nil pass0 (pa_cons (pv 1) (pa_cons (pe_ix ix_tup (pv 4) pe_int (fun _ _ => rfl)) pa_nil))))))).pt (pss_one (ps_ret pe_bl)) pss_nil)))) (pss_one (ps_ret pe_bl))))))), ?_⟩
    refine ⟨v, rfl, _, _, _, _, _, rfl, .ty _, sh.ty, kit_ty (kitTup d), _, rfl, ite2 (fun e => ?_) (fun e => ?_)⟩
    · have q' := q H (Same.refl _)
      rw [wish_not (notT e)] at q'
      exact q'
    obtain ⟨ds, rfl⟩ := tup_of (notF e)
    cases sh with
    | @tup a xs _ h t =>
      have lx := t.length
      refine ⟨.ref a, rfl, a, xs, rfl, .inr (SqT.of h), rfl, _, rfl, ?_⟩
      rw [lx, len_eq3]
      refine ite2 (fun e1 => ?_) (fun e1 => ?_)
      · have q' := q H (Same.refl _)
        rw [wish_len (fun z => by rw [z] at e1; cases e1)] at q'
        exact q'
      obtain ⟨d0, d1, d2, rfl⟩ := three_of (ds := ds) (of_decide_eq_true (notF e1))
      cases t with
      | @cons v0 _ _ _ t0 t =>
        cases t with
        | @cons v1 _ _ _ t1 t =>
          cases t with
          | @cons v2 _ _ _ t2 t =>
            cases t
            replace q : ∀ H', Same H H' → Q (.bl (wishParts d0 d1 d2)) H' := q
            refine ⟨.ref a, rfl, a, _, 0, v0, rfl, rfl, SqT.of h, rfl, v0, d0, rfl, t0, _, rfl, ite2 (fun e3 => ?_) (fun e3 => ?_)⟩
            · have q' := q H (Same.refl _)
              rw [wish_int d1 d2 (notT e3)] at q'
              exact q'
            obtain ⟨m, rfl⟩ := whole_int (notF e3)
            cases t0
            replace q : ∀ H', Same H H' → Q (.bl ((decide (1 ≤ m) && decide (m ≤ 4)) && (isSignsD (2 ^ m.toNat) d1 && chsD m.toNat d2))) H' := q
            have z1 : decide (0 < m) = decide (1 ≤ m) := decide_eq_decide.mpr (by omega)
            have z4 : decide (m < 5) = decide (m ≤ 4) := decide_eq_decide.mpr (by omega)
            rw [← z1, ← z4] at q
            refine ⟨.ref a, rfl, a, _, 0, .int m, rfl, rfl, SqT.of h, rfl, 0, _, rfl, rfl, _, rfl, ite2 (fun e4 => ?_) (fun e4 => ?_)⟩
            · refine ⟨_, 5, rfl, rfl, _, rfl, ite2 (fun e5 => ?_) (fun e5 => ?_)⟩
              · have q' := q H (Same.refl _)
                rw [bT e5, Bool.and_false, Bool.false_and] at q'
                exact q'
              have e5 := bF e5
              rw [e4, e5, Bool.true_and, Bool.true_and] at q
              have m1 : 0 < m := of_decide_eq_true e4
              have m4 : m < 5 := of_decide_eq_true e5
              obtain ⟨k, rfl⟩ := Int.eq_ofNat_of_zero_le (show 0 ≤ m by omega)
              have wd1 : d1.weight ≤ 50000 := Nat.le_trans (weight_get (ds := [.int (k : Int), d1, d2]) (j := 1) rfl) wt
              rw [show ((k : Int)).toNat = k from rfl] at q
              refine ⟨.ref a, rfl, a, _, rfl, SqT.of h, rfl, _, _, rfl, _, _, rfl, _, _, rfl, rfl, ?_⟩
              refine ⟨v1, rfl, _, _, _, _, _, rfl, .ty _, t1.ty, kit_ty (kitStr d1), _, rfl, ite2 (fun e6 => ?_) (fun e6 => ?_)⟩
              · have q' := q H (Same.refl _)
                rw [signs_not (notT e6), Bool.false_and] at q'
                exact q'
              obtain ⟨x, rfl⟩ := strD_of (notF e6)
              cases t1
              replace q : ∀ H', Same H H' → Q (.bl ((decide ((x.length : Int) = (2 : Int) ^ k) && x.cps.toList.all sgB) && chsD k d2)) H' := q
              refine ⟨.str x, rfl, x, rfl, w_line wd1, (show 5 ≤ sizeLine by decide), fun p2 n2 => ?_⟩
              have s2 := same_upd (o := (HO.lst [V.int 0, V.int 2, V.int 4, V.int 8, V.int 16])) n2
              have h2 : upd H p2 (HO.lst [V.int 0, V.int 2, V.int 4, V.int 8, V.int 16]) p2 = some (HO.lst [V.int 0, V.int 2, V.int 4, V.int 8, V.int 16]) := upd_same
              generalize upd H p2 (HO.lst [V.int 0, V.int 2, V.int 4, V.int 8, V.int 16]) = H2 at s2 h2 ⊢
              have hat : atI [V.int 0, V.int 2, V.int 4, V.int 8, V.int 16] (k : Int) = some (.int ((2 : Int) ^ k)) := by
                have : k = 1 ∨ k = 2 ∨ k = 3 ∨ k = 4 := by omega
                rcases this with z | z | z | z <;> rw [z] <;> rfl
              refine ⟨.int (k : Int), rfl, p2, _, _, _, rfl, rfl, SqL.of h2, hat, rfl, _, rfl, ?_⟩
              rw [len_eqI]
              refine ite2 (fun e7 => ?_) (fun e7 => ?_)
              · have q' := q H2 s2
                rw [bT e7, Bool.false_and, Bool.false_and] at q'
                exact q'
              rw [bF e7, Bool.true_and] at q
              have t2' := t2.same s2
              refine ⟨v2, rfl, _, _, _, _, _, rfl, .ty _, t2'.ty, kit_ty (kitTup d2), _, rfl, ite2 (fun e8 => ?_) (fun e8 => ?_)⟩
              · have q' := q H2 s2
                rw [chs_not (notT e8), Bool.and_false] at q'
                exact q'
              obtain ⟨cs, rfl⟩ := tup_of (notF e8)
              cases t2' with
              | @tup b ys _ hb tb =>
                have ly := tb.length
                have z48 : Str.ofString "0" = ⟨#[48]⟩ := by decide +kernel
                have z49 : Str.ofString "1" = ⟨#[49]⟩ := by decide +kernel
                refine ⟨.str x, rfl, rfl, x, Str.ofString "0", rfl, rfl, .str x, rfl, rfl, x, Str.ofString "1", rfl, rfl, _, _, rfl, rfl, .str x, rfl, x, rfl, w_line wd1, rfl, _, rfl, ?_⟩
                rw [z48, z49, count_sign, count_sign]
                obtain ⟨cn1, cn2⟩ := cnt01 x.cps.toList
                have lxs : x.length = x.cps.toList.length := Array.length_toList.symm
                have ecn : decide (V.int ((x.cps.toList.count 48 : Nat) + (x.cps.toList.count 49 : Nat) : Int) = V.int (x.length : Int)) = x.cps.toList.all sgB := by
                  cases z : x.cps.toList.all sgB
                  · refine decide_eq_false fun k => ?_
                    have k' := V.int.inj k
                    have := cn2.mp (by omega)
                    rw [this] at z
                    cases z
                  · refine decide_eq_true ?_
                    have := cn2.mpr z
                    congr 1
                    omega
                rw [ecn]
                refine ite2 (fun e9 => ?_) (fun e9 => ?_)
                · have q' := q H2 s2
                  rw [bT e9, Bool.false_and] at q'
                  exact q'
                rw [bF e9, Bool.true_and] at q
                replace q : ∀ H', Same H H' → Q (.bl (cs.all (isChD k))) H' := q
                first | (show (_ : L2.St → Hp → Prop) [some (.ref a), some (.int (k : Int)), some (.str x), some (.ref b), none] H2) | (unfold gName; show (_ : L2.St → Hp → Prop) [some (.ref a), some (.int (k : Int)), some (.str x), some (.ref b), none] H2) | (dsimp only; show (_ : L2.St → Hp → Prop) [some (.ref a), some (.int (k : Int)), some (.str x), some (.ref b), none] H2) | (dsimp only [gName]; show (_ : L2.St → Hp → Prop) [some (.ref a), some (.int (k : Int)), some (.str x), some (.ref b), none] H2)
                refine ⟨.ref b, rfl, b, rfl, ⟨_, SqT.of hb⟩, ?_⟩
                refine for_tup (K := K) (a := b) (xs := ys) (fun j σ H' => ∃ y4, σ = [some (.ref a), some (.int (k : Int)), some (.str x), some (.ref b), y4] ∧ Same H2 H' ∧ (cs.take j).all (isChD k) = true) ⟨_, rfl, Same.refl _, rfl⟩ (fun j σ H' _ ⟨_, _, z, _⟩ => SqT.of (z _ _ hb)) ?_ ?_
                · rintro j c σ H3 hc ⟨y4, rfl, s3, ih⟩
                  obtain ⟨e0, he0, te0⟩ := tb.get hc
                  have te3 := te0.same s3
                  have s03 := s2.trans s3
                  have stop : isChD k e0 = false → Q (.bl false) H3 := fun z => by
                    have q' := q H3 s03
                    rw [all_stopR he0 (by rw [z]; exact Bool.false_ne_true)] at q'
                    exact q'
                  refine ⟨c, rfl, _, _, _, _, _, rfl, .ty _, te3.ty, kit_ty (kitTup e0), _, rfl, ite2 (fun u1 => stop (ch_not (notT u1))) (fun u1 => ?_)⟩
                  obtain ⟨es, rfl⟩ := tup_of (notF u1)
                  cases te3 with
                  | @tup ca zs _ hca tc =>
                    have lz := tc.length
                    refine ⟨.ref ca, rfl, ca, zs, rfl, .inr (SqT.of hca), rfl, _, rfl, ?_⟩
                    have e2 : decide (V.int (zs.length : Int) = V.int 2) = decide (es.length = 2) := by
                      rw [lz, len_eqI]
                      exact decide_eq_decide.mpr (by omega)
                    rw [e2]
                    refine ite2 (fun u2 => stop (chD_len (of_decide_eq_false (bT u2)))) (fun u2 => ?_)
                    obtain ⟨f0, f1, rfl⟩ := two_of (ds := es) (of_decide_eq_true (bF u2))
                    cases tc with
                    | @cons w0 _ _ _ g0 tc =>
                      cases tc with
                      | @cons w1 _ _ _ g1 tc =>
                        cases tc
                        refine ⟨.int (k : Int), rfl, .ref ca, rfl, ca, _, 0, w0, rfl, rfl, SqT.of hca, rfl, k, w0, f0, rfl, by omega, g0, fun H4 s4 => ⟨_, rfl, ite2 (fun u3 => ?_) (fun u3 => ?_)⟩⟩
                        · have q' := q H4 (s03.trans s4)
                          rw [all_stopR he0 (by rw [chD_row, bT u3, Bool.false_and]; exact Bool.false_ne_true)] at q'
                          exact q'
                        refine ⟨.int (k : Int), rfl, .ref ca, rfl, ca, _, 1, w1, rfl, rfl, SqT.of (s4 _ _ hca), rfl, k, w1, f1, rfl, by omega, g1.same s4, fun H5 s5 => ⟨_, rfl, ite2 (fun u4 => ?_) (fun u4 => ?_)⟩⟩
                        · have q' := q H5 (s03.trans (s4.trans s5))
                          rw [all_stopR he0 (by rw [chD_row, bT u4, Bool.and_false]; exact Bool.false_ne_true)] at q'
                          exact q'
                        exact ⟨_, rfl, s3.trans (s4.trans s5), all_takeR he0 ih (by rw [chD_row, bF u3, bF u4]; rfl)⟩
                · rintro σ H3 ⟨y4, rfl, s3, ih⟩
                  rw [ly, List.take_length] at ih
                  have q' := q H3 (s2.trans s3)
                  rw [ih] at q'
                  exact q'
            · have q' := q H (Same.refl _)
              have e4 : decide (0 < m) = false := by simpa using e4
              rw [e4, Bool.false_and, Bool.false_and] at q'
              exact ⟨false, rfl, iteT q'⟩

end
end Gk

set_option Elab.async false
set_option linter.all false
set_option maxRecDepth 100000
set_option maxHeartbeats 1000000
set_option pp.maxSteps 1500
set_option pp.deepTerms false
namespace Gk
open PySem PySem.Spec PyProof.Rows L2
section
variable {P : Program} {w : World} {K : PySem.W.Frag} {mg : Str → Option Value} {base : Heap}
/-! ### sizes of what is shown -/
def fineB (n m : Nat) (d : PyData) : Bool := d.showable && (d.leavesShort 200 && (decide (d.weight ≤ n) && decide (d.depth ≤ m)))
theorem fine_iff {n m : Nat} {d : PyData} : fineB n m d = true ↔ d.showable = true ∧ d.leavesShort 200 = true ∧ d.weight ≤ n ∧ d.depth ≤ m := by
  unfold fineB
  rw [Bool.and_eq_true, Bool.and_eq_true, Bool.and_eq_true, decide_eq_true_eq, decide_eq_true_eq]
theorem fine_mono {n m n' m' : Nat} {d : PyData} (h : fineB n m d = true) (a : n ≤ n') (b : m ≤ m') : fineB n' m' d = true := by
  obtain ⟨h1, h2, h3, h4⟩ := fine_iff.mp h
  exact fine_iff.mpr ⟨h1, h2, Nat.le_trans h3 a, Nat.le_trans h4 b⟩
theorem fine_fits {n m : Nat} {d : PyData} (h : fineB n m d = true) (hn : n ≤ 50000) : d.shown.length ≤ sizeLine := by
  obtain ⟨_, h2, h3, _⟩ := fine_iff.mp h
  have := PyData.shown_le 200 (by decide) d h2
  have e : sizeLine = 16777216 := by decide
  rw [e]
  omega
theorem fine_all {n m : Nat} : ∀ {ds : List PyData}, (∀ d ∈ ds, fineB n m d = true) → PyData.showableAll ds = true ∧ PyData.leavesShortAll 200 ds = true ∧ PyData.weightAll ds ≤ ds.length * (n + 1) ∧ PyData.depthAll ds ≤ m
  | [], _ => ⟨rfl, rfl, Nat.zero_le _, Nat.zero_le _⟩
  | d :: r, h => by
    obtain ⟨a1, a2, a3, a4⟩ := fine_iff.mp (h d (List.mem_cons_self ..))
    obtain ⟨b1, b2, b3, b4⟩ := fine_all (ds := r) fun x hx => h x (List.mem_cons_of_mem _ hx)
    refine ⟨?_, ?_, ?_, ?_⟩
    · unfold PyData.showableAll
      rw [a1, b1]
      rfl
    · unfold PyData.leavesShortAll
      rw [a2, b2]
      rfl
    · unfold PyData.weightAll
      rw [List.length_cons, Nat.succ_mul]
      omega
    · unfold PyData.depthAll
      omega
theorem fine_tup {n m k : Nat} {ds : List PyData} (h : ∀ d ∈ ds, fineB n m d = true) (hk : ds.length ≤ k) : fineB (k * (n + 1)) (m + 1) (.tuple ds) = true := by
  obtain ⟨b1, b2, b3, b4⟩ := fine_all h
  refine fine_iff.mpr ⟨b1, b2, ?_, ?_⟩
  · show PyData.weightAll ds ≤ _
    exact Nat.le_trans b3 (Nat.mul_le_mul_right _ hk)
  · show PyData.depthAll ds + 1 ≤ _
    omega
theorem fine_lst {n m k : Nat} {ds : List PyData} (h : ∀ d ∈ ds, fineB n m d = true) (hk : ds.length ≤ k) : fineB (k * (n + 1)) (m + 1) (.list ds) = true := by
  obtain ⟨b1, b2, b3, b4⟩ := fine_all h
  refine fine_iff.mpr ⟨b1, b2, ?_, ?_⟩
  · show PyData.weightAll ds ≤ _
    exact Nat.le_trans b3 (Nat.mul_le_mul_right _ hk)
  · show PyData.depthAll ds + 1 ≤ _
    omega

theorem str_len (x : String) : (Str.ofString x).length = x.length := PySem.ofString_length x

/-! ### what is spoilt stays small -/
mutual
def gd (B : Nat) : PyData → Bool
  | .none => true
  | .bool _ => true
  | .int i => decide (i.natAbs ≤ B)
  | .str x => x.cps.toList.all fun c => decide (c < 128)
  | .list xs => gds B xs
  | .tuple xs => gds B xs
  | .dict kvs => kvs.isEmpty
def gds (B : Nat) : List PyData → Bool
  | [] => true
  | x :: r => gd B x && gds B r
end
theorem gds_iff {B : Nat} : ∀ {l : List PyData}, gds B l = true ↔ ∀ x ∈ l, gd B x = true
  | [] => ⟨fun _ x hx => (by cases hx), fun _ => rfl⟩
  | y :: r => by
    show (gd B y && gds B r) = true ↔ _
    rw [Bool.and_eq_true, gds_iff (l := r)]
    exact ⟨fun ⟨a, b⟩ x hx => (List.mem_cons.mp hx).elim (fun e => e ▸ a) (b x), fun h => ⟨h y (List.mem_cons_self ..), fun x hx => h x (List.mem_cons_of_mem _ hx)⟩⟩
mutual
theorem gd_mono {B C : Nat} (h : B ≤ C) : ∀ {d : PyData}, gd B d = true → gd C d = true
  | .none, _ => rfl
  | .bool _, _ => rfl
  | .int _, e => decide_eq_true (Nat.le_trans (of_decide_eq_true e) h)
  | .str _, e => e
  | .list _, e => gds_mono h e
  | .tuple _, e => gds_mono h e
  | .dict _, e => e
theorem gds_mono {B C : Nat} (h : B ≤ C) : ∀ {l : List PyData}, gds B l = true → gds C l = true
  | [], _ => rfl
  | _ :: _, e => by
    have e' := Bool.and_eq_true_iff.mp e
    exact Bool.and_eq_true_iff.mpr ⟨gd_mono h e'.1, gds_mono h e'.2⟩
end
theorem small_log {i : Int} {B : Nat} (h : i.natAbs ≤ B) (hB : B < 2 ^ 190) : i.natAbs.log2 < 190 := by
  by_cases z : i.natAbs = 0
  · rw [z]; decide
  · exact (Nat.log2_lt z).mpr (Nat.lt_of_le_of_lt h hB)
mutual
theorem gd_show {B : Nat} (hB : B < 2 ^ 190) : ∀ {d : PyData}, gd B d = true → d.showable = true ∧ d.leavesShort 200 = true
  | .none, _ => ⟨rfl, rfl⟩
  | .bool _, _ => ⟨rfl, rfl⟩
  | .int i, e => by
    have l := small_log (of_decide_eq_true e) hB
    refine ⟨decide_eq_true (Nat.lt_trans l (by decide)), decide_eq_true ?_⟩
    have := PySem.int_text_length_le (a := i) (k := 190) (by decide) l
    show (Str.ofString (toString i)).length ≤ 200
    rw [str_len]
    omega
  | .str x, e => by
    refine ⟨rfl, ?_⟩
    show (x.cps.toList.all fun c => decide (c < 16 ^ 8)) = true
    refine List.all_eq_true.mpr fun c hc => decide_eq_true (Nat.lt_trans (of_decide_eq_true (List.all_eq_true.mp e c hc)) (by decide))
  | .list _, e => gds_show hB e
  | .tuple _, e => gds_show hB e
  | .dict [], _ => ⟨rfl, rfl⟩
  | .dict (_ :: _), e => by cases e
theorem gds_show {B : Nat} (hB : B < 2 ^ 190) : ∀ {l : List PyData}, gds B l = true → PyData.showableAll l = true ∧ PyData.leavesShortAll 200 l = true
  | [], _ => ⟨rfl, rfl⟩
  | _ :: _, e => by
    have e' := Bool.and_eq_true_iff.mp e
    have a := gd_show hB e'.1
    have b := gds_show hB e'.2
    exact ⟨Bool.and_eq_true_iff.mpr ⟨a.1, b.1⟩, Bool.and_eq_true_iff.mpr ⟨a.2, b.2⟩⟩
end
def Fit (B n m : Nat) (d : PyData) : Prop := gd B d = true ∧ d.weight ≤ n ∧ d.depth ≤ m
def FitL (B n m : Nat) (ds : List PyData) : Prop := gds B ds = true ∧ PyData.weightAll ds ≤ n ∧ PyData.depthAll ds ≤ m
theorem Fit.mono {B n m B' n' m' : Nat} {d : PyData} (h : Fit B n m d) (a : B ≤ B') (b : n ≤ n') (c : m ≤ m') : Fit B' n' m' d := ⟨gd_mono a h.1, Nat.le_trans h.2.1 b, Nat.le_trans h.2.2 c⟩
theorem Fit.tup {B n m : Nat} {ds : List PyData} (h : FitL B n m ds) : Fit B n (m + 1) (.tuple ds) := ⟨h.1, h.2.1, Nat.succ_le_succ h.2.2⟩
theorem Fit.lst {B n m : Nat} {ds : List PyData} (h : FitL B n m ds) : Fit B n (m + 1) (.list ds) := ⟨h.1, h.2.1, Nat.succ_le_succ h.2.2⟩
theorem Fit.inv {B n m : Nat} {ds : List PyData} (h : Fit B n (m + 1) (.tuple ds)) : FitL B n m ds := ⟨h.1, h.2.1, Nat.le_of_succ_le_succ h.2.2⟩
theorem Fit.fine {B n m : Nat} {d : PyData} (h : Fit B n m d) (hB : B < 2 ^ 190) (hn : n ≤ 50000) (hm : m ≤ 50) : d.showable = true ∧ d.shown.length ≤ sizeLine ∧ d.depth ≤ 50 := by
  have s := gd_show hB h.1
  exact ⟨s.1, fine_fits (n := n) (m := m) (fine_iff.mpr ⟨s.1, s.2, h.2.1, h.2.2⟩) hn, Nat.le_trans h.2.2 hm⟩
theorem weight_app : ∀ a b : List PyData, PyData.weightAll (a ++ b) = PyData.weightAll a + PyData.weightAll b
  | [], b => (Nat.zero_add _).symm
  | x :: r, b => by
    show x.weight + 1 + PyData.weightAll (r ++ b) = x.weight + 1 + PyData.weightAll r + PyData.weightAll b
    rw [weight_app r b]
    omega
theorem depth_app : ∀ a b : List PyData, PyData.depthAll (a ++ b) = max (PyData.depthAll a) (PyData.depthAll b)
  | [], b => (Nat.zero_max _).symm
  | x :: r, b => by
    show max x.depth (PyData.depthAll (r ++ b)) = max (max x.depth (PyData.depthAll r)) (PyData.depthAll b)
    rw [depth_app r b, Nat.max_assoc]
theorem FitL.app {B n n' m : Nat} {a b : List PyData} (h : FitL B n m a) (g : FitL B n' m b) : FitL B (n + n') m (a ++ b) := by
  refine ⟨gds_iff.mpr fun x hx => ?_, ?_, ?_⟩
  · rcases List.mem_append.mp hx with z | z
    · exact gds_iff.mp h.1 x z
    · exact gds_iff.mp g.1 x z
  · rw [weight_app]
    exact Nat.add_le_add h.2.1 g.2.1
  · rw [depth_app]
    exact Nat.max_le.mpr ⟨h.2.2, g.2.2⟩
theorem FitL.parts {B n m : Nat} {a b : List PyData} (h : FitL B n m (a ++ b)) : FitL B n m a ∧ FitL B n m b := by
  obtain ⟨h1, h2, h3⟩ := h
  rw [weight_app] at h2
  rw [depth_app] at h3
  exact ⟨⟨gds_iff.mpr fun x hx => gds_iff.mp h1 x (List.mem_append_left _ hx), by omega, by omega⟩, ⟨gds_iff.mpr fun x hx => gds_iff.mp h1 x (List.mem_append_right _ hx), by omega, by omega⟩⟩
theorem FitL.take {B n m : Nat} {a : List PyData} (h : FitL B n m a) (k : Nat) : FitL B n m (a.take k) := by
  rw [← List.take_append_drop k a] at h
  exact h.parts.1
theorem FitL.drop {B n m : Nat} {a : List PyData} (h : FitL B n m a) (k : Nat) : FitL B n m (a.drop k) := by
  rw [← List.take_append_drop k a] at h
  exact h.parts.2
theorem FitL.one {B n m : Nat} {d : PyData} (h : Fit B n m d) : FitL B (n + 1) m [d] := by
  refine ⟨gds_iff.mpr fun x hx => by rw [List.mem_singleton.mp hx]; exact h.1, ?_, ?_⟩
  · show d.weight + 1 + 0 ≤ n + 1
    have := h.2.1
    omega
  · show max d.depth 0 ≤ m
    have := h.2.2
    omega
theorem FitL.get {B n m : Nat} {ds : List PyData} (h : FitL B n m ds) {j : Nat} {d : PyData} (e : ds[j]? = some d) : Fit B n m d := by
  have s : ds = ds.take j ++ [d] ++ ds.drop (j + 1) := by
    obtain ⟨hl, e'⟩ := List.getElem?_eq_some_iff.mp e
    rw [← e', List.append_assoc, List.singleton_append, List.getElem_cons_drop, List.take_append_drop]
  rw [s] at h
  obtain ⟨h1, h2, h3⟩ := h.parts.1.parts.2
  refine ⟨gds_iff.mp h1 d (List.mem_singleton.mpr rfl), ?_, ?_⟩
  · have : d.weight + 1 + 0 ≤ n := h2
    omega
  · have : max d.depth 0 ≤ m := h3
    omega
theorem weight_rev (a : List PyData) : PyData.weightAll a.reverse = PyData.weightAll a := by
  induction a with
  | nil => rfl
  | cons x r ih =>
    rw [List.reverse_cons, weight_app, ih]
    show PyData.weightAll r + (x.weight + 1 + 0) = x.weight + 1 + PyData.weightAll r
    omega
theorem depth_rev (a : List PyData) : PyData.depthAll a.reverse = PyData.depthAll a := by
  induction a with
  | nil => rfl
  | cons x r ih =>
    rw [List.reverse_cons, depth_app, ih]
    show max (PyData.depthAll r) (max x.depth 0) = max x.depth (PyData.depthAll r)
    omega
theorem FitL.rev {B n m : Nat} {a : List PyData} (h : FitL B n m a) : FitL B n m a.reverse :=
  ⟨gds_iff.mpr fun x hx => gds_iff.mp h.1 x (List.mem_reverse.mp hx), by rw [weight_rev]; exact h.2.1, by rw [depth_rev]; exact h.2.2⟩
theorem ShAll.rev {H : Hp} : ∀ {xs : List V} {ds : List PyData}, ShAll H xs ds → ShAll H xs.reverse ds.reverse
  | _, _, .nil => .nil
  | _, _, .cons a r => by
    rw [List.reverse_cons, List.reverse_cons]
    exact (ShAll.rev r).append (.cons a .nil)

/-! ### heaps without some places -/
def hid (as : List Addr) (H : Hp) : Hp := fun b => if b ∈ as then none else H b
theorem hid_at {as : List Addr} {H : Hp} {b : Addr} (h : b ∉ as) : hid as H b = H b := if_neg h
theorem hid_in {as : List Addr} {H : Hp} {b : Addr} (h : b ∈ as) : hid as H b = none := if_pos h
theorem hid_le {as : List Addr} {H : Hp} : Same (hid as H) H := fun b o e => by
  by_cases h : b ∈ as
  · rw [hid_in h] at e; cases e
  · rw [hid_at h] at e; exact e
theorem hid_sub {as bs : List Addr} {H : Hp} (h : ∀ b ∈ bs, b ∈ as) : Same (hid as H) (hid bs H) := fun b o e => by
  by_cases ha : b ∈ as
  · rw [hid_in ha] at e; cases e
  · rw [hid_at ha] at e
    rw [hid_at (fun z => ha (h b z))]
    exact e
theorem hid_same {as : List Addr} {H H' : Hp} (s : Same H H') : Same (hid as H) (hid as H') := fun b o e => by
  by_cases ha : b ∈ as
  · rw [hid_in ha] at e; cases e
  · rw [hid_at ha] at e ⊢
    exact s _ _ e
theorem hid_fr {as : List Addr} {d l : Addr} {H H' : Hp} (f : Fr d l H H') (hd : d ∈ as) (hl : l ∈ as) : Same (hid as H) (hid as H') := fun b o e => by
  by_cases ha : b ∈ as
  · rw [hid_in ha] at e; cases e
  · rw [hid_at ha] at e ⊢
    exact f _ _ (fun z => ha (z ▸ hd)) (fun z => ha (z ▸ hl)) e
theorem hid_upd {as : List Addr} {H : Hp} {p : Addr} {o : HO} (h : p ∈ as) : Same (hid as H) (hid as (upd H p o)) := fun b x e => by
  by_cases ha : b ∈ as
  · rw [hid_in ha] at e; cases e
  · rw [hid_at ha] at e ⊢
    rw [upd_ne (show b ≠ p from fun z => ha (by rw [z]; exact h))]
    exact e

/-! ### the deck hidden -/
theorem DeckG.out {H : Hp} {d l p : Addr} {n : Int} (D : DeckG H d l n) (h : H p = none) : p ∉ [d, l] := by
  obtain ⟨a, b⟩ := D.off h
  intro z
  rcases List.mem_cons.mp z with z | z
  · exact a z
  · exact b (List.mem_singleton.mp z)
theorem in_d {d l : Addr} : d ∈ [d, l] := List.mem_cons_self ..
theorem in_l {d l : Addr} : l ∈ [d, l] := List.mem_cons_of_mem _ (List.mem_cons_self ..)
theorem pick_sh {H : Hp} {xs : List V} {ds : List PyData} {B n m : Nat} (t : ShAll H xs ds) (f : ∀ d ∈ ds, Fit B n m d) {j : Int} (h0 : 0 ≤ j) (h1 : j < xs.length) : ∃ x d, atI xs j = some x ∧ Sh H x d ∧ Fit B n m d := by
  obtain ⟨k, rfl⟩ := Int.eq_ofNat_of_zero_le h0
  have hk : k < xs.length := by omega
  obtain ⟨d, hd, td⟩ := t.get (List.getElem?_eq_getElem hk)
  exact ⟨_, d, atI_nat (List.getElem?_eq_getElem hk), td, f d (List.mem_of_getElem? hd)⟩
structure DA (as : List Addr) (H : Hp) (d l : Addr) (n : Int) : Prop where
  d1 : DeckG H d l n
  hd : d ∈ as
  hl : l ∈ as
  liv : ∀ b ∈ as, ∃ o, H b = some o ∧ ∀ xs, o ≠ HO.tup xs
theorem DA.same {as : List Addr} {H H' : Hp} {d l : Addr} {n : Int} (D : DA as H d l n) (s : Same H H') : DA as H' d l n := ⟨D.d1.same s, D.hd, D.hl, fun b hb => by
  obtain ⟨o, e, no⟩ := D.liv b hb
  exact ⟨o, s _ _ e, no⟩⟩
theorem DA.mono {as : List Addr} {H : Hp} {d l : Addr} {n m : Int} (D : DA as H d l n) (h : n ≤ m) : DA as H d l m := ⟨D.d1.mono h, D.hd, D.hl, D.liv⟩
theorem DA.off {as : List Addr} {H : Hp} {d l p : Addr} {n : Int} (D : DA as H d l n) (h : H p = none) : p ≠ d ∧ p ≠ l := D.d1.off h
theorem DA.out {as : List Addr} {H : Hp} {d l p : Addr} {n : Int} (D : DA as H d l n) (h : H p = none) : p ∉ as := fun z => by
  obtain ⟨o, e, _⟩ := D.liv p z
  rw [h] at e
  cases e
theorem DA.tupOut {as : List Addr} {H : Hp} {d l p : Addr} {n : Int} {xs : List V} (D : DA as H d l n) (h : H p = some (.tup xs)) : p ∉ as := fun z => by
  obtain ⟨o, e, no⟩ := D.liv p z
  rw [h] at e
  exact no xs (Option.some.inj e).symm
theorem DA.fr {as : List Addr} {H H' : Hp} {d l : Addr} {n m : Int} (D : DA as H d l n) (D' : DeckG H' d l m) (f : Fr d l H H') : DA as H' d l m := ⟨D', D.hd, D.hl, fun b hb => by
  obtain ⟨ne, cs, y, z, hd, hl, r⟩ := D'
  by_cases b1 : b = d
  · rw [b1]
    exact ⟨_, hd, fun xs z => by cases z⟩
  by_cases b2 : b = l
  · rw [b2]
    exact ⟨_, hl, fun xs z => by cases z⟩
  obtain ⟨o, e, no⟩ := D.liv b hb
  exact ⟨o, f _ _ b1 b2 e, no⟩⟩
theorem DeckG.da {H : Hp} {d l : Addr} {n : Int} (D : DeckG H d l n) : DA [d, l] H d l n := by
  refine ⟨D, in_d, in_l, fun b hb => ?_⟩
  obtain ⟨ne, cs, y, z, hd, hl, r⟩ := D
  rcases List.mem_cons.mp hb with b1 | b1
  · rw [b1]
    exact ⟨_, hd, fun xs z => by cases z⟩
  · rw [List.mem_singleton.mp b1]
    exact ⟨_, hl, fun xs z => by cases z⟩
theorem sh_tup {as : List Addr} {H : Hp} {d l p : Addr} {n : Int} {xs : List V} {ds : List PyData} (D : DA as H d l n) (h : H p = some (.tup xs)) (t : ShAll (hid as H) xs ds) : Sh (hid as H) (.ref p) (.tuple ds) := .tup (by rw [hid_at (D.tupOut h)]; exact h) t
theorem fit_S {B n m : Nat} {l : List Nat} (h : ∀ c ∈ l, c < 128) (hl : l.length ≤ n) : Fit B n m (.str (SX.S l)) := by
  refine ⟨List.all_eq_true.mpr fun c hc => decide_eq_true (h c (by simpa using hc)), ?_, Nat.zero_le _⟩
  show l.toArray.size ≤ n
  rw [List.size_toArray]
  exact hl
theorem nat_chars (n : Nat) : ∀ c ∈ (Nat.repr n).toList, c.toNat < 128 := by
  intro c hc
  have hc' : c ∈ Nat.toDigits 10 n := by
    have e : (Nat.repr n).toList = Nat.toDigits 10 n := by
      unfold Nat.repr
      exact String.toList_ofList
    rw [e] at hc
    exact hc
  have hd := Nat.isDigit_of_mem_toDigits (by decide) (by decide) hc'
  unfold Char.isDigit at hd
  have h2 := of_decide_eq_true (Bool.and_eq_true_iff.mp hd).2
  have h3 : c.toNat ≤ 57 := h2
  omega
theorem int_chars (i : Int) : ∀ c ∈ (toString i).toList, c.toNat < 128 := by
  cases i with
  | ofNat m => exact nat_chars m
  | negSucc m =>
    intro c hc
    have e : toString (Int.negSucc m) = "-" ++ Nat.repr (m + 1) := rfl
    rw [e, String.toList_append] at hc
    rcases List.mem_append.mp hc with h | h
    · have : c = '-' := by simpa using h
      subst this
      decide
    · exact nat_chars _ c h
theorem cutS_to (l : List Nat) (k : Nat) : cutS (SX.S l) none (some (k : Int)) = SX.S (l.take k) := by
  unfold cutS
  rw [SX.S_len, HT.sIx_none, HT.sIx_nat, List.drop_zero, Nat.sub_zero]
  show SX.S (l.take (min k l.length)) = SX.S (l.take k)
  by_cases h : k ≤ l.length
  · rw [Nat.min_eq_left h]
  · rw [Nat.min_eq_right (by omega), List.take_length, List.take_of_length_le (by omega)]
theorem cutS_from (l : List Nat) (k : Nat) : cutS (SX.S l) (some (k : Int)) none = SX.S (l.drop k) := by
  unfold cutS
  rw [SX.S_len, HT.sIx_none, HT.sIx_nat]
  show SX.S ((l.drop (min k l.length)).take (l.length - min k l.length)) = SX.S (l.drop k)
  congr 1
  by_cases h : k ≤ l.length
  · rw [Nat.min_eq_left h]
    exact List.take_of_length_le (by rw [List.length_drop]; exact Nat.le_refl _)
  · rw [Nat.min_eq_right (by omega), Nat.sub_self, List.take_zero, List.drop_eq_nil_of_le (by omega)]
theorem len_weight : ∀ ds : List PyData, ds.length ≤ PyData.weightAll ds
  | [] => Nat.le_refl _
  | x :: r => by
    show r.length + 1 ≤ x.weight + 1 + PyData.weightAll r
    have := len_weight r
    omega
theorem fit_put {B n m k : Nat} {ds : List PyData} {dk d0 : PyData} (hk : ds[k]? = some dk) (fl : FitL B n m ds) (f0 : Fit B n m d0) : Fit B (n + (n + 1)) (m + 1) (.tuple ((ds.take k ++ [d0]) ++ ds.drop (k + 1))) := by
  have e : ds = ds.take k ++ ([dk] ++ ds.drop (k + 1)) := by
    obtain ⟨hl, e'⟩ := List.getElem?_eq_some_iff.mp hk
    rw [← e', List.singleton_append, List.getElem_cons_drop, List.take_append_drop]
  have w : PyData.weightAll (ds.take k) + (PyData.weightAll [dk] + PyData.weightAll (ds.drop (k + 1))) ≤ n := by
    rw [← weight_app, ← weight_app, ← e]
    exact fl.2.1
  have one := FitL.one f0
  have a : FitL B (n + 1 + n + n) m ((ds.take k ++ [d0]) ++ ds.drop (k + 1)) := by
    have := ((fl.take k).app one).app (fl.drop (k + 1))
    exact ⟨this.1, Nat.le_trans this.2.1 (by omega), this.2.2⟩
  refine Fit.tup ⟨a.1, ?_, a.2.2⟩
  rw [weight_app, weight_app]
  have := one.2.1
  omega

/-! ### a tuple told backwards: t[::-1]; and == against nothing -/
namespace TupRev
section
open PySem.W PySem.Calls HT
variable {prog : Program} {w : World} {A : Around} {E : Value → Shared → Prop} {s : Shared}
theorem adj_rev (n : Nat) : Builtin.Slice.sliceAdjust none none (-1) (n : Int) = ((n : Int) - 1, -1) := by
  first
    | rfl
    | simp [Builtin.Slice.sliceAdjust]
theorem places_rev (n : Nat) : Builtin.Slice.slicePlaces ((n : Int) - 1) (-1) (-1) = n := by
  unfold Builtin.Slice.slicePlaces
  by_cases h : n = 0
  · subst h
    decide
  · simp
    omega
theorem applied_rev {sl : Addr} {vl vu vs : Value} {n : Nat} {Q : Int × Int × Nat → Shared → Prop} (slice : s.heap.IsSliceOf sl vl vu vs) (pl : IsPart vl none) (pu : IsPart vu none) (ps : IsPart vs (some (-1))) (fin : Q ((n : Int) - 1, -1, n) s) :
    wpAny (model prog w) A (Builtin.Slice.sliceApplied (.ref sl) (pure (n : Int))) Q E s := by
  obtain ⟨o, ho, hc, parts⟩ := id slice
  unfold Builtin.Slice.sliceApplied Builtin.Slice.sliceFields
  refine wpAny_bind (wpAny_bind (wpAny_field ho parts (x := vl) rfl (wpAny_bind (wpAny_field ho parts (x := vu) rfl (wpAny_bind (wpAny_field ho parts (x := vs) rfl (wpAny_pure ?_)))))))
  refine wpAny_bind (slicePart_ ps ?_)
  show wpAny _ _ (if ((-1 : Int) == 0) = true then _ else _) _ _ s
  rw [if_neg (show ¬ _ by decide)]
  refine wpAny_bind (slicePart_ pl (wpAny_bind (slicePart_ pu (wpAny_bind (wpAny_pure (?_))))))
  show wpAny _ _ (match Builtin.Slice.sliceAdjust none none (-1) (n : Int) with | (a, b) => pure (a, (-1 : Int), Builtin.Slice.slicePlaces a b (-1))) _ _ s
  rw [adj_rev]
  show wpAny _ _ (pure ((n : Int) - 1, (-1 : Int), Builtin.Slice.slicePlaces ((n : Int) - 1) (-1) (-1))) _ _ s
  rw [places_rev]
  exact wpAny_pure fin
theorem pick_rev (xs : Array Value) : ((List.range xs.size).filterMap fun (k : Nat) => xs[((xs.size : Int) - 1 + (k : Int) * (-1)).toNat]?).toArray = xs.toList.reverse.toArray := by
  have e : ((List.range xs.size).filterMap fun (k : Nat) => xs[((xs.size : Int) - 1 + (k : Int) * (-1)).toNat]?) = ((List.range xs.size).map fun k => xs.size - 1 - k).filterMap (xs[·]?) := by
    rw [List.filterMap_map]
    congr 1
    funext k
    show xs[((xs.size : Int) - 1 + (k : Int) * (-1)).toNat]? = xs[xs.size - 1 - k]?
    rw [show ((xs.size : Int) - 1 + (k : Int) * (-1)).toNat = xs.size - 1 - k by omega]
  rw [e, krv_range, List.filterMap_reverse, krv_all]
theorem item_rev {t sl : Addr} {xs : Array Value} {vl vu vs : Value} {Q : Value → Shared → Prop} (tup : IsTup s.heap t xs) (slice : s.heap.IsSliceOf sl vl vu vs) (pl : IsPart vl none) (pu : IsPart vu none) (ps : IsPart vs (some (-1)))
    (fin : Q (.ref s.heap.objs.size) { s with heap := s.heap.push { cls := .type "tuple", data := .seq xs.toList.reverse.toArray } }) (few : xs.size ≤ sizeLine) : wpAny (model prog w) A (getItem (.ref t) (.ref sl)) Q E s := by
  have fits : sizeOk (.seq xs.toList.reverse.toArray) := by
    show xs.toList.reverse.toArray.size ≤ sizeLine
    rw [List.size_toArray, List.length_reverse, Array.length_toList]
    exact few
  obtain ⟨o, ho, hc, parts⟩ := id slice
  have ty : s.TypeIs (.ref sl) "slice" := ⟨o, ho, hc⟩
  unfold getItem
  (try with_reducible refine wpAny_holding (?_)); (first | refine wpAny_bind (wpAny_pure (?_)) | skip)
  refine wpAny_bind (wpAny_sequenceKey tup.typeIs (by decide) ?_)
  refine wpAny_bind (wpAny_callSpecial?_slot (name := Str.ofString "__getitem__") tup.typeIs PyProof.Rows.slot_tuple_getitem (wpAny_call_entry PyProof.Rows.slot_tuple_getitem tup.typeIs entry_tuple_getitem ?_ (args_tuple_getitem _ _)))
  show wpAny _ _ (Builtin.Tuple.tupleItemsOf (Value.ref t) >>= _) _ _ s
  refine wpAny_bind (tupleItemsOf_ tup (wpAny_bind (wpAny_typeOf ty ?_)))
  rw [if_pos (show _ by decide)]
  refine wpAny_bind (applied_rev slice pl pu ps ?_)
  have no : ¬ ((((xs.size : Int) - 1) == 0 && (-1 : Int) == 1 && xs.size == xs.size) = true) := by
    intro z
    rw [Bool.and_eq_true, Bool.and_eq_true] at z
    have := z.1.2
    revert this
    decide
  show wpAny _ _ (if ((((xs.size : Int) - 1) == 0 && (-1 : Int) == 1 && xs.size == xs.size)) = true then _ else _) _ _ s
  rw [if_neg no, pick_rev]
  first
    | exact wpAny_bind (m := Builtin.Tuple.tupleExact _) (wpAny_newObj_type (wpAny_pure ⟨_, rfl, wpAny_pure fin⟩) fits)
    | exact wpAny_bind (m := Builtin.Tuple.tupleExact _) (wpAny_newObj_type (wpAny_bind (wpAny_pure (wpAny_pure ⟨_, rfl, wpAny_pure fin⟩))) fits)
    | exact wpAny_bind (wpAny_bind (m := Builtin.Tuple.tupleExact _) (wpAny_newObj_type (wpAny_pure (wpAny_pure ⟨_, rfl, wpAny_pure fin⟩)) fits))
    | exact wpAny_bind (wpAny_bind (m := Builtin.Tuple.tupleExact _) (wpAny_newObj_type (wpAny_pure ⟨_, rfl, wpAny_pure fin⟩) fits))
end
section
variable {X : Cx}
def tRevT (K : PySem.W.Frag) (te : TE) : TE := fun σ H Q => te σ H fun x H1 => ∃ a xs, x = .ref a ∧ SqT K H1 a xs ∧ ∀ p, H1 p = none → Q (.ref p) (upd H1 p (.tup xs.reverse))
theorem pe_revT {e : Expr} {te : TE} {k : Nat} {p1 p2 p3 pos : Pos} (he : PE X e te) : PE X (.Subscript e (.Slice none none (some (.UnaryOp .USub (.Constant (.int 1) k p1) p2)) p3) pos) (tRevT X.K te) := by
  refine ⟨fun pins s σ H Q I told => Subscript_ (thn (he.run pins s σ H _ I told) ?_)⟩
  rintro v s1 ⟨x, H1, I1, r1, a, xs, rfl, tup, q⟩
  cases r1
  have back : PO X (some (.UnaryOp .USub (.Constant (.int 1) k p1) p2)) (tPart (tUn (rU fun i => .int (-i)) (tC (.int 1)))) := po_some (pe_un un_neg pe_int)
  refine wpAny_Slice (thn (po_none.run pins s1 σ H1 (fun o H2 => o = none ∧ H2 = H1) I1 ⟨rfl, rfl⟩) ?_)
  rintro vl s2 ⟨l, H2, I2, pl, rfl, rfl⟩
  refine thn (po_none.run pins s2 σ H2 (fun o H3 => o = none ∧ H3 = H2) I2 ⟨rfl, rfl⟩) ?_
  rintro vu s3 ⟨u, H3, I3, pu, rfl, rfl⟩
  refine thn (back.run pins s3 σ H3 (fun o H4 => o = some (-1) ∧ H4 = H3) I3 ⟨1, rfl, -1, rfl, rfl, rfl⟩) ?_
  rintro vs s4 ⟨o, H4, I4, ps, rfl, rfl⟩
  have J : Inv X pins σ H4 { s4 with heap := s4.heap.push { cls := .type "slice", data := .fields #[vl, vu, vs] } } := I4.kept (t' := s4.toks) fun b ob z => Heap.get?_push_of_some _ z
  obtain ⟨us, r, ht, few⟩ := J.tuple tup
  have ln := r.length
  show wpAny (model X.prog X.w) X.A (subscriptTail e (.Slice none none (some (.UnaryOp .USub (.Constant (.int 1) k p1) p2)) p3) (.ref a) (.ref s4.heap.objs.size)) (EP X pins σ Q) _ _
  refine tail_any (ops := [.ref a, .ref s4.heap.objs.size]) ht.typeIs (PyProof.Rows.slot_tuple_getitem.lookup) ?_ (by with_unfolding_all rfl)
  refine item_rev ht (Heap.IsSliceOf.new _ vl vu vs) pl pu ps ?_ (by rw [List.size_toArray]; omega)
  refine ⟨.ref _, _, J.laid (t' := s4.toks) (o := .tup xs.reverse) (fun b ob z => Heap.get?_push_of_some _ z) (Nat.le_refl _) ?_, rfl, q _ (J.hok.fresh (Nat.le_refl _))⟩
  exact ⟨by rw [List.length_reverse]; exact few, _, r.reverse, IsTup.new _ _⟩
/-- t == () of any tuple -/
def rEqE (K : PySem.W.Frag) : R2 := fun x y H Q => ∃ a b xs, x = .ref a ∧ y = .ref b ∧ SqT K H a xs ∧ SqT K H b [] ∧ Q (.bl xs.isEmpty) H
theorem op_eqE (hu : X.A.units + 64 < cLine) : OpR X (compareOp .Eq) (rEqE X.K) := by
  intro pins s σ H x y v u Q I rx ry h
  obtain ⟨a, b, xs, rfl, rfl, ha, hb, q⟩ := h
  cases rx
  cases ry
  obtain ⟨us, r1, t1, _⟩ := I.tuple ha
  obtain ⟨ws, r2, t2, _⟩ := I.tuple hb
  cases r2
  refine SeqAt.eq_tupleAt (items2 := #[]) (e := fun _ => true) t1 t2 (by omega) (fun j _ h2 => absurd h2 (Nat.not_lt_zero _)) ?_
  have : ((List.range (min us.toArray.size (#[] : Array Value).size)).all (fun _ => true) && us.toArray.size == (#[] : Array Value).size) = xs.isEmpty := by
    cases r1 with
    | nil => rfl
    | cons _ _ => simp
  show EP X pins σ Q (.bool ((List.range (min us.toArray.size (#[] : Array Value).size)).all (fun _ => true) && us.toArray.size == (#[] : Array Value).size)) s
  rw [this]
  exact ⟨.bl _, H, I, rfl, q⟩
/-- l == [] of any list -/
def rEqN (K : PySem.W.Frag) : R2 := fun x y H Q => ∃ a b xs, x = .ref a ∧ y = .ref b ∧ SqL K H a xs ∧ SqL K H b [] ∧ Q (.bl xs.isEmpty) H
theorem op_eqN (hu : X.A.units + 64 < cLine) : OpR X (compareOp .Eq) (rEqN X.K) := by
  intro pins s σ H x y v u Q I rx ry h
  obtain ⟨a, b, xs, rfl, rfl, ha, hb, q⟩ := h
  cases rx
  cases ry
  obtain ⟨us, r1, t1, _⟩ := I.list ha
  obtain ⟨ws, r2, t2, _⟩ := I.list hb
  cases r2
  cases r1 with
  | nil => exact SeqAt.eq_listAt (e := fun _ => true) t1.isList t2.isList rfl (by omega) (fun j h1 _ => absurd h1 (Nat.not_lt_zero _)) ⟨.bl true, H, I, rfl, q⟩
  | cons _ _ => exact SeqAt.eq_list_lengthsAt t1.isList t2.isList (by simp) (by omega) ⟨.bl false, H, I, rfl, q⟩
end
end TupRev

/-! ### numbers, truths among them -/
namespace NumZ
section
variable {X : Cx}
def nz : V → Option Int
  | .int i => some i
  | .bl b => some (if b = true then 1 else 0)
  | _ => none
def rAddZ : R2 := fun x y H Q => ∃ i j, nz x = some i ∧ y = .int j ∧ Q (.int (i + j)) H
theorem op_addZ : OpR X (binaryOp .Add) rAddZ := by
  intro pins s σ H x y v u Q I rx ry h
  obtain ⟨i, j, hx, rfl, q⟩ := h
  cases x with
  | int k =>
    cases Option.some.inj hx
    exact op_add pins s σ H (.int i) (.int j) v u Q I rx ry ⟨i, j, rfl, rfl, q⟩
  | bl b =>
    cases Option.some.inj hx
    cases (show v = Value.bool b from rx)
    obtain ⟨t, rfl⟩ := ry
    exact PySem.IntBool.add_bool_int ⟨.int _, H, I.tok _, ⟨_, rfl⟩, q⟩
  | _ => cases hx
def rSubZ : R2 := fun x y H Q => ∃ i j, nz x = some i ∧ nz y = some j ∧ ((∃ k, x = .int k) ∨ ∃ k, y = .int k) ∧ Q (.int (i - j)) H
theorem op_subZ : OpR X (binaryOp .Sub) rSubZ := by
  intro pins s σ H x y v u Q I rx ry h
  obtain ⟨i, j, hx, hy, one, q⟩ := h
  cases x with
  | int k =>
    cases Option.some.inj hx
    cases y with
    | int m =>
      cases Option.some.inj hy
      exact op_sub pins s σ H (.int i) (.int j) v u Q I rx ry ⟨i, j, rfl, rfl, q⟩
    | bl b =>
      cases Option.some.inj hy
      obtain ⟨t, rfl⟩ := rx
      cases (show u = Value.bool b from ry)
      exact PySem.IntBool.sub_int_bool ⟨.int _, H, I.tok _, ⟨_, rfl⟩, q⟩
    | _ => cases hy
  | bl b =>
    cases Option.some.inj hx
    cases y with
    | int m =>
      cases Option.some.inj hy
      cases (show v = Value.bool b from rx)
      obtain ⟨t, rfl⟩ := ry
      exact PySem.IntBool.sub_bool_int ⟨.int _, H, I.tok _, ⟨_, rfl⟩, q⟩
    | bl c =>
      rcases one with ⟨k, z⟩ | ⟨k, z⟩ <;> cases z
    | _ => cases hy
  | _ => cases hx
def strZ : V → Str
  | .int i => toString i
  | .bl b => if b = true then Str.ofString "True" else Str.ofString "False"
  | _ => Str.empty
def rStrZ : List V → Hp → VK → Prop := fun xs H Q => ∃ x i, xs = [x] ∧ nz x = some i ∧ i.natAbs.log2 < 1920 ∧ Q (.str (strZ x)) H
theorem call_strZ : CallR X (.type "str") rStrZ := by
  intro pins s σ H xs us Q I r h
  obtain ⟨x, i, rfl, hx, small, q⟩ := h
  cases x with
  | int k =>
    cases Option.some.inj hx
    exact call_str_int pins s σ H [.int i] us Q I r ⟨i, rfl, small, q⟩
  | bl b =>
    obtain ⟨u, rfl, ru⟩ := vals1 r
    cases (show u = Value.bool b from ru)
    refine PySem.P.str_of_bool ⟨.str _, H, I.tok _, ⟨_, rfl⟩, ?_⟩
    cases b <;> exact q
  | _ => cases hx
/-- list(t), a list that is none of the interpreter's own -/
def rListN (K : PySem.W.Frag) : List V → Hp → VK → Prop := fun xs H Q => ∃ p ys, xs = [.ref p] ∧ SqT K H p ys ∧ ∀ l, H l = none → l ≠ sysModules → Q (.ref l) (upd H l (.lst ys))
theorem call_listN : CallR X (.type "list") (rListN X.K) := by
  intro pins s σ H xs us Q I r h
  obtain ⟨p, ys, rfl, src, q⟩ := h
  obtain ⟨u, rfl, rx⟩ := vals1 r
  cases rx
  obtain ⟨items, rv, ⟨o, ho, hc, n, hd⟩, few⟩ := I.tuple src
  refine call_list_seq p (.inr rfl) ho hc hd (fun hp c keep made => ?_) (by rw [List.size_toArray, ← rv.length]; exact few)
  exact ⟨.ref s.heap.objs.size, _, I.laid (t' := s.toks) keep (Nat.le_refl _) (show ObjOk X.prog X.w _ hp _ (.lst ys) from ⟨few, items, c, rv, made⟩), rfl, q _ (I.hok.fresh (Nat.le_refl _)) (Nat.ne_of_gt I.big)⟩
end
end NumZ

/-! ### more than: a number or a truth beside a number -/
namespace NumZ
section
open PySem.W PySem.Calls
theorem gives_gt_bool (a : Bool) (b : Int) (u : Tok) : Gives (Builtin.«int.__gt__» ⟨[.bool a, .int b u], []⟩) (.val (Value.bool (decide (b < (if a = true then (1 : Int) else 0))))) :=
  .of_wp fun M A E s Q h => by obtain ⟨hp, g, d, tk, os⟩ := s; wp_walk; exact ⟨_, rfl, h⟩
variable {X : Cx}
def rGtZ : R2 := fun x y H Q => ∃ i j, nz x = some i ∧ y = .int j ∧ Q (.bl (decide (j < i))) H
theorem op_gtZ : OpR X (compareOp .Gt) rGtZ := by
  intro pins s σ H x y v u Q I rx ry h
  obtain ⟨i, j, hx, rfl, q⟩ := h
  cases x with
  | int k =>
    cases Option.some.inj hx
    exact op_gt pins s σ H (.int i) (.int j) v u Q I rx ry ⟨i, j, rfl, rfl, q⟩
  | bl b =>
    cases Option.some.inj hx
    cases (show v = Value.bool b from rx)
    obtain ⟨t, rfl⟩ := ry
    show wpAny _ _ (richCompare .Gt (.bool b) (.int j t)) _ _ s
    refine SeqAt.rc_left_or rfl (typeIs_int s j t) (by decide) F.sub_int_bool F.slot_bool_gt
      (call_gives F.slot_bool_gt rfl F.entry_int_gt (F.args_int_gt_2 _ _) (gives_gt_bool b j t) ⟨nofun, ?_⟩) (.inl rfl)
    exact ⟨.bl _, H, I, rfl, q⟩
  | _ => cases hx
end
end NumZ
/-- a slice between two places -/
theorem cut_mid {xs : List V} {k j : Nat} : cutV xs (some (k : Int)) (some ((k + j : Nat) : Int)) = (xs.drop k).take j := by
  unfold cutV
  rw [HT.sIx_nat, HT.sIx_nat]
  by_cases h : k ≤ xs.length
  · rw [Nat.min_eq_left h]
    by_cases h2 : k + j ≤ xs.length
    · rw [Nat.min_eq_left h2, Nat.add_sub_cancel_left]
    · rw [Nat.min_eq_right (by omega), List.take_of_length_le (by rw [List.length_drop]; exact Nat.le_refl _), List.take_of_length_le (by rw [List.length_drop]; omega)]
  · rw [Nat.min_eq_right (by omega), Nat.min_eq_right (by omega), Nat.sub_self, List.take_zero, List.drop_eq_nil_of_le (by omega), List.take_nil]

/-! ### lists and dicts -/
def isLoD : PyData → Bool
  | .list _ => true
  | .dict _ => true
  | _ => false
theorem kitLo {K : PySem.W.Frag} : ∀ d : PyData, PySem.W.kitAny K (.type (tyD d)) [.type "list", .type "dict"] = some (isLoD d)
  | .none => kitAny_cons (b := false) (kit_ty (by decide +kernel : kitB "NoneType" "list" = some false)) (fun z => kitAny_cons (b := false) (kit_ty (by decide +kernel : kitB "NoneType" "dict" = some false)) (fun _ => rfl) (fun z => nomatch z)) (fun z => nomatch z)
  | .bool _ => kitAny_cons (b := false) (kit_ty (by decide +kernel : kitB "bool" "list" = some false)) (fun z => kitAny_cons (b := false) (kit_ty (by decide +kernel : kitB "bool" "dict" = some false)) (fun _ => rfl) (fun z => nomatch z)) (fun z => nomatch z)
  | .int _ => kitAny_cons (b := false) (kit_ty (by decide +kernel : kitB "int" "list" = some false)) (fun z => kitAny_cons (b := false) (kit_ty (by decide +kernel : kitB "int" "dict" = some false)) (fun _ => rfl) (fun z => nomatch z)) (fun z => nomatch z)
  | .str _ => kitAny_cons (b := false) (kit_ty (by decide +kernel : kitB "str" "list" = some false)) (fun z => kitAny_cons (b := false) (kit_ty (by decide +kernel : kitB "str" "dict" = some false)) (fun _ => rfl) (fun z => nomatch z)) (fun z => nomatch z)
  | .list _ => kitAny_cons (b := true) (kit_ty (by decide +kernel : kitB "list" "list" = some true)) (fun z => nomatch z) (fun z => rfl)
  | .tuple _ => kitAny_cons (b := false) (kit_ty (by decide +kernel : kitB "tuple" "list" = some false)) (fun z => kitAny_cons (b := false) (kit_ty (by decide +kernel : kitB "tuple" "dict" = some false)) (fun _ => rfl) (fun z => nomatch z)) (fun z => nomatch z)
  | .dict _ => kitAny_cons (b := false) (kit_ty (by decide +kernel : kitB "dict" "list" = some false)) (fun z => kitAny_cons (b := true) (kit_ty (by decide +kernel : kitB "dict" "dict" = some true)) (fun z => nomatch z) (fun z => rfl)) (fun z => nomatch z)

/-! ### texts of numbers, cuts of texts -/
theorem isInt_of : ∀ {d : PyData}, isIntD d = true → (∃ i, d = .int i) ∨ ∃ b, d = .bool b
  | .int i, _ => .inl ⟨i, rfl⟩
  | .bool b, _ => .inr ⟨b, rfl⟩
  | .str _, h => by cases h
  | .none, h => by cases h
  | .tuple _, h => by cases h
  | .list _, h => by cases h
  | .dict _, h => by cases h
theorem fit_strZ {B n m k : Nat} {v : V} {i : Int} (hv : NumZ.nz v = some i) (hk : 4 ≤ k) (h : i.natAbs.log2 < k) (hn : k + 1 ≤ n) : Fit B n m (.str (NumZ.strZ v)) := by
  cases v with
  | int j =>
    cases Option.some.inj hv
    have e : NumZ.strZ (.int i) = SX.S ((toString i).toList.map Char.toNat) := Str.ofString_eq_toList _
    rw [e]
    refine fit_S (fun c hc => ?_) ?_
    · obtain ⟨a, ha, rfl⟩ := List.mem_map.mp hc
      exact int_chars i a ha
    · have := PySem.int_text_length_le (a := i) (k := k) (by omega) h
      rw [List.length_map]
      exact Nat.le_trans this hn
  | bl b =>
    cases b
    · have e : NumZ.strZ (.bl false) = SX.S [70, 97, 108, 115, 101] := by decide +kernel
      rw [e]
      exact fit_S (by decide) (show 5 ≤ n by omega)
    · have e : NumZ.strZ (.bl true) = SX.S [84, 114, 117, 101] := by decide +kernel
      rw [e]
      exact fit_S (by decide) (show 4 ≤ n by omega)
  | _ => cases hv
end
end Gk

set_option Elab.async false
set_option linter.all false
set_option maxRecDepth 100000
set_option maxHeartbeats 1000000
set_option pp.maxSteps 1500
set_option pp.deepTerms false
namespace Gk
open PySem PySem.Spec PyProof.Rows L2
section
variable {P : Program} {w : World} {K : PySem.W.Frag} {mg : Str → Option Value} {base : Heap}
/-! ### something put otherwise, in one step -/
theorem s12_S : Str.ofString "01-01- 2aA~x" = SX.S [48, 49, 45, 48, 49, 45, 32, 50, 97, 65, 126, 120] := by decide +kernel
theorem it12 (k : Nat) (h : k < 12) : ∃ c, [48, 49, 45, 48, 49, 45, 32, 50, 97, 65, 126, 120][k]? = some c ∧ c < 128 := by
  have : k = 0 ∨ k = 1 ∨ k = 2 ∨ k = 3 ∨ k = 4 ∨ k = 5 ∨ k = 6 ∨ k = 7 ∨ k = 8 ∨ k = 9 ∨ k = 10 ∨ k = 11 := by omega
  rcases this with rfl | rfl | rfl | rfl | rfl | rfl | rfl | rfl | rfl | rfl | rfl | rfl <;> exact ⟨_, rfl, by decide⟩
theorem FitL.mono {B n m B' n' m' : Nat} {ds : List PyData} (h : FitL B n m ds) (a : B ≤ B') (b : n ≤ n') (c : m ≤ m') : FitL B' n' m' ds := ⟨gds_iff.mpr fun x hx => gd_mono a (gds_iff.mp h.1 x hx), Nat.le_trans h.2.1 b, Nat.le_trans h.2.2 c⟩
theorem FitL.split {B n m : Nat} {ds : List PyData} (h : FitL B n m ds) (k : Nat) : ∃ a b, a + b ≤ n ∧ FitL B a m (ds.take k) ∧ FitL B b m (ds.drop k) := by
  refine ⟨PyData.weightAll (ds.take k), PyData.weightAll (ds.drop k), ?_, ⟨(h.take k).1, Nat.le_refl _, (h.take k).2.2⟩, ⟨(h.drop k).1, Nat.le_refl _, (h.drop k).2.2⟩⟩
  rw [← weight_app, List.take_append_drop]
  exact h.2.1
theorem fit_int {B N M : Nat} {i : Int} (h : i.natAbs ≤ B) (hB : B < 2 ^ 190) (hN : 200 ≤ N) : Fit B N M (.int i) := by
  refine ⟨decide_eq_true h, ?_, Nat.zero_le _⟩
  show (if i == 0 then 0 else i.natAbs.log2 + 1) ≤ _
  split
  · exact Nat.zero_le _
  · have := small_log h hB
    omega
theorem seven {a b c d e f g : PyData} {B N M : Nat} (ha : Fit B N M a) (hb : Fit B N M b) (hc : Fit B N M c) (hd : Fit B N M d) (he : Fit B N M e) (hf : Fit B N M f) (hg : Fit B N M g) : ∀ x ∈ [a, b, c, d, e, f, g], Fit B N M x := by
  intro x hx
  simp only [List.mem_cons, List.not_mem_nil, or_false] at hx
  rcases hx with rfl | rfl | rfl | rfl | rfl | rfl | rfl <;> assumption
def sp_step_off (K : PySem.W.Frag) : Sp := fun vs H Q _ => ∃ (as : List Addr) (d l : Addr) (n : Int) (v : V) (dd : PyData) (B N M : Nat), vs = [.ref d, v] ∧ DA as H d l n ∧ n < 1000000 ∧ Sh (hid as H) v dd ∧ Fit B N M dd ∧ B < 2 ^ 180 ∧ N ≤ 10000 ∧
  ∀ v' H' dd', DA as H' d l (n + 3) → Fr d l H H' → Sh (hid as H') v' dd' → Fit (B + 9) (2 * N + 250) (M + 3) dd' → Q v' H'
theorem ok_step_off (T : Tx K mg) : FnOk P w K mg base CX0 2 T.f_step_off T.fd_step_off ["_law_deck_here", "_law_thing"] (sp_step_off K) := by
  refine T.F_step_off.ok sc_step_off (fun vs H Q E h => ?_) (fun cdv A outer s H vs Q E hr h => ?_)
  · obtain ⟨as, d, l, n, v, dd, B, N, M, rfl, _⟩ := h
    rfl
  · obtain ⟨as, d, l, n, v, dd, B, N, M, rfl, D, hn, sh, fit, hB, hN, q⟩ := h
    have B9 : B + 9 < 2 ^ 190 := by omega
    refine ⟨_, (pss_cons (ps_set (i := 2) sc_step_off.nd rfl (by first | exact .inl rfl | exact .inr rfl) (pe_call (ok_next T) (hr.mono (by decide)) (by rfl) T.g_next T.F_next.kp T.b_next .nil pass0 (pa_cons (pv 0) (pa_cons pe_int pa_nil)))) (pss_cons (ps_if (pt_val (pe_callB call_isi (by rfl) T.m_isinstance (by decide +kernel) (pa_cons (pv 1) (pa_cons (pe_bltn (v := .ty "str") (u := .type "str") (by rfl) T.m_str (by decide +kernel) rfl) pa_nil)))) (pss_cons (ps_set (i := 3) sc_step_off.nd rfl (by first | exact .inl rfl | exact .inr rfl) (pe_call (ok_next T) (hr.mono (by decide)) (by rfl) T.g_next T.F_next.kp T.b_next .nil pass0 (pa_cons (pv 0) (pa_cons (pe_op op_add (pe_callB call_len_str (by rfl) T.m_len PySem.boot_len (pa_cons (pv 1) pa_nil)) pe_int) pa_nil)))) (pss_cons (ps_set (i := 4) sc_step_off.nd rfl (by first | exact .inl rfl | exact .inr rfl) (pe_item_str pe_str (pe_call (ok_next T) (hr.mono (by decide)) (by rfl) T.g_next T.F_next.kp T.b_next .nil pass0 (pa_cons (pv 0) (pa_cons pe_int pa_nil))) (fun _ _ => rfl))) (pss_cons (ps_set (i := 5) sc_step_off.nd rfl (by first | exact .inl rfl | exact .inr rfl) (pe_lst (pa_cons (pe_op op_add_str (pe_op op_add_str (pe_slice sl_str (pv 1) po_none (po_some (pv 3))) (pv 4)) (pe_slice sl_str (pv 1) (po_some (pv 3)) po_none)) (pa_cons (pe_op op_add_str (pe_op op_add_str (pe_slice sl_str (pv 1) po_none (po_some (pv 3))) (pv 4)) (pe_slice sl_str (pv 1) (po_some (pe_op op_add (pv 3) pe_int)) po_none)) (pa_cons (pe_op op_add_str (pe_slice sl_str (pv 1) po_none (po_some (pv 3))) (pe_slice sl_str (pv 1) (po_some (pe_op op_add (pv 3) pe_int)) po_none)) pa_nil))))) (pss_one (ps_ret (pe_ix ix_list (pv 5) (pe_op op_mod (pv 2) pe_int) (fun _ _ => rfl))))))) pss_nil) (pss_cons (ps_if (pt_val (pe_callB call_isi (by rfl) T.m_isinstance (by decide +kernel) (pa_cons (pv 1) (pa_cons (pe_bltn (v := .ty "int") (u := .type "int") (by rfl) T.m_int (by decide +kernel) rfl) pa_nil)))) (pss_one (ps_ret (pe_ix ix_list (pe_lst (pa_cons (pe_op NumZ.op_addZ (pv 1) pe_int) (pa_cons (pe_op NumZ.op_subZ (pv 1) pe_int) (pa_cons (pe_op NumZ.op_subZ pe_int (pv 1)) (pa_cons (pe_op NumZ.op_subZ (pe_un un_neg pe_int) (pv 1)) (pa_cons (pe_cmpR NumZ.op_gtZ (pv 1) pe_int (nomark _)) (pa_cons (pe_callTy NumZ.call_strZ (by rfl) T.m_str (by decide +kernel) (pa_cons (pv 1) pa_nil)) (pa_cons pe_non pa_nil)))))))) (pv 2) (fun _ _ => rfl)))) pss_nil) (pss_cons (ps_if (pt_cut (pw_or (pt_val (pe_callB call_isiT (by rfl) T.m_isinstance (by decide +kernel) (pa_cons (pv 1) (pa_cons (pe_tup (pa_cons (pe_bltn (v := .ty "list") (u := .type "list") (by rfl) T.m_list (by decide +kernel) rfl) (pa_cons (pe_bltn (v := .ty "dict") (u := .type "dict") (by rfl) T.m_dict (by decide +kernel) rfl) pa_nil))) pa_nil)))) (pw_or1 (pt_cmpR op_isN (pv 1) pe_non (nomark _)))).pt) (pss_one (ps_ret (pe_ix ix_list (pe_lst (pa_cons (pe_tup pa_nil) (pa_cons (pe_cut (pe_callTy call_tuple_of (by rfl) T.m_tuple (by decide +kernel) (pa_cons (pe_orT (pv 1) (pe_one (pe_tup pa_nil))) pa_nil))) pa_nil))) (pe_op op_mod (pv 2) pe_int) (fun _ _ => rfl)))) pss_nil) (pss_cons (ps_set (i := 3) sc_step_off.nd rfl (by first | exact .inl rfl | exact .inr rfl) (pe_call (ok_next T) (hr.mono (by decide)) (by rfl) T.g_next T.F_next.kp T.b_next .nil pass0 (pa_cons (pv 0) (pa_cons (pe_op op_add (pe_callB call_len_seq (by rfl) T.m_len PySem.boot_len (pa_cons (pv 1) pa_nil)) pe_int) pa_nil)))) (pss_cons (ps_set (i := 5) sc_step_off.nd rfl (by first | exact .inl rfl | exact .inr rfl) (pe_lst (pa_cons (pe_op op_catA (pe_slice sl_tupA (pv 1) po_none (po_some (pv 3))) (pe_slice sl_tupA (pv 1) (po_some (pe_op op_add (pv 3) pe_int)) po_none)) (pa_cons (pe_op op_catA (pe_op op_catA (pe_slice sl_tupA (pv 1) po_none (po_some (pv 3))) (pe_slice sl_tupA (pv 1) (po_some (pv 3)) (po_some (pe_op op_add (pv 3) pe_int)))) (pe_slice sl_tupA (pv 1) (po_some (pv 3)) po_none)) (pa_cons (pe_callTy NumZ.call_listN (by rfl) T.m_list (by decide +kernel) (pa_cons (pv 1) pa_nil)) (pa_cons (pe_op op_catA (pv 1) (pe_tup (pa_cons (pe_tup pa_nil) pa_nil))) pa_nil)))))) (pss_cons (ps_set (i := 5) sc_step_off.nd rfl (by first | exact .inl rfl | exact .inr rfl) (pe_op op_cat (pv 5) (pe_lst (pa_cons (pe_op op_catA (pe_op op_catA (pe_slice sl_tupA (pv 1) po_none (po_some (pv 3))) (TupRev.pe_revT (pe_slice sl_tupA (pv 1) (po_some (pv 3)) (po_some (pe_op op_add (pv 3) pe_int))))) (pe_slice sl_tupA (pv 1) (po_some (pe_op op_add (pv 3) pe_int)) po_none)) (pa_cons (pe_op op_catA (pe_op op_catA (pe_slice sl_tupA (pv 1) po_none (po_some (pv 3))) (pe_tup (pa_cons pe_non pa_nil))) (pe_slice sl_tupA (pv 1) (po_some (pe_op op_add (pv 3) pe_int)) po_none)) (pa_cons pe_dnewK pa_nil)))))) (pss_one (ps_ret (pe_ix ix_list (pv 5) (pv 2) (fun _ _ => rfl))))))))))), ?_⟩
    refine ⟨.ref d, rfl, d, l, 7, _, rfl, D.d1, by omega, by decide, by decide, fun H1 way D1 fr1 w0 w1 => ?_⟩
    replace D1 := D.fr D1 fr1
    have sh1 : Sh (hid as H1) v dd := sh.same (hid_fr fr1 D.hd D.hl)
    have shH : Sh H1 v dd := sh1.same hid_le
    have fin : ∀ v' H' dd' m, DA as H' d l (n + m) → m ≤ 3 → Fr d l H H' → Sh (hid as H') v' dd' → Fit (B + 9) (2 * N + 250) (M + 3) dd' → Q v' H' := fun v' H' dd' m a b c e f => q v' H' dd' (a.mono (by omega)) c e f
    refine ⟨v, rfl, _, _, _, _, _, rfl, .ty _, shH.ty, kit_ty (kitStr dd), _, rfl, ite2 (fun e => ?_) (fun e => ?_)⟩
    · -- a text
      obtain ⟨z, rfl⟩ := strD_of e
      have hv : v = .str z := by cases shH; rfl
      subst hv
      obtain ⟨ls, rfl⟩ : ∃ ls, z = SX.S ls := ⟨z.cps.toList, (SX.S_tl z).symm⟩
      have c128 : ∀ c ∈ ls, c < 128 := fun c hc => of_decide_eq_true (List.all_eq_true.mp fit.1 c (by simpa using hc))
      have ll : ls.length ≤ N := by
        have := fit.2.1
        have : ls.toArray.size ≤ N := this
        rw [List.size_toArray] at this
        exact this
      have zl : (SX.S ls).length ≤ sizeLine := by
        rw [SX.S_len]
        exact Nat.le_trans (Nat.le_trans ll hN) (by decide)
      have big : ∀ k : Nat, k ≤ 3 * N + 100 → k ≤ sizeLine := fun k hk => Nat.le_trans hk (Nat.le_trans (show 3 * N + 100 ≤ 40000 by omega) (by decide))
      refine ⟨.ref d, rfl, .str (SX.S ls), rfl, _, rfl, zl, _, _, rfl, rfl, ?_⟩
      rw [SX.S_len]
      refine ⟨d, l, _, _, rfl, D1.d1, by omega, by omega, by omega, fun H2 a2 D2 fr2 a0 a1 => ?_⟩
      replace D2 := D1.fr D2 fr2
      obtain ⟨k, rfl⟩ := Int.eq_ofNat_of_zero_le a0
      refine ⟨.ref d, rfl, d, l, 12, _, rfl, D2.d1, by omega, by decide, by decide, fun H3 c D3 fr3 c0 c1 => ?_⟩
      replace D3 := D2.fr D3 fr3
      obtain ⟨cn, rfl⟩ := Int.eq_ofNat_of_zero_le c0
      obtain ⟨cc, hcc, c128'⟩ := it12 cn (by omega)
      refine ⟨Str.ofString "01-01- 2aA~x", (cn : Int), cc, rfl, rfl, by omega, by omega, by rw [s12_S, SX.S_len]; exact c1, by rw [s12_S]; show ([48, 49, 45, 48, 49, 45, 32, 50, 97, 65, 126, 120] : List Nat).toArray[cn]? = some cc; rw [List.getElem?_toArray]; exact hcc, ?_⟩
      have mem1 : ∀ (a b : List Nat), (∀ x ∈ a, x < 128) → (∀ x ∈ b, x < 128) → ∀ x ∈ a ++ b, x < 128 := fun a b ha hb x hx => (List.mem_append.mp hx).elim (ha x) (hb x)
      have tk : ∀ j, ∀ x ∈ ls.take j, x < 128 := fun j x hx => c128 x (List.mem_of_mem_take hx)
      have dr : ∀ j, ∀ x ∈ ls.drop j, x < 128 := fun j x hx => c128 x (List.mem_of_mem_drop hx)
      have on : ∀ x ∈ [cc], x < 128 := fun x hx => by rw [List.mem_singleton.mp hx]; exact c128'
      have tkl : ∀ j, (ls.take j).length ≤ N := fun j => by rw [List.length_take]; omega
      have drl : ∀ j, (ls.drop j).length ≤ N := fun j => Nat.le_trans (by rw [List.length_drop]; exact Nat.sub_le _ _) ll
      refine ⟨.str (SX.S ls), rfl, .int (k : Nat), rfl, (k : Int), rfl, SX.S ls, rfl, zl, .str ⟨#[cc]⟩, rfl, _, _, rfl, rfl, ?_, ?_⟩
      · rw [cutS_to, SX.S_len]
        have := tkl k
        exact big _ (show (ls.take k).length + 1 ≤ _ by omega)
      refine ⟨.str (SX.S ls), rfl, .int (k : Nat), rfl, (k : Int), rfl, ?_⟩
      refine ⟨SX.S ls, rfl, zl, _, _, rfl, rfl, ?_, ?_⟩
      · rw [cutS_to, cutS_from, show (⟨#[cc]⟩ : Str) = SX.S [cc] from rfl, SX.S_cat, SX.S_len, SX.S_len, List.length_append]
        have := tkl k
        have := drl k
        exact big _ (show (ls.take k).length + 1 + (ls.drop k).length ≤ _ by omega)
      refine ⟨.str (SX.S ls), rfl, .int (k : Nat), rfl, (k : Int), rfl, SX.S ls, rfl, zl, .str ⟨#[cc]⟩, rfl, _, _, rfl, rfl, ?_, ?_⟩
      · rw [cutS_to, SX.S_len]
        have := tkl k
        exact big _ (show (ls.take k).length + 1 ≤ _ by omega)
      refine ⟨.str (SX.S ls), rfl, .int (k : Nat), rfl, _, _, rfl, rfl, ((k + 1 : Nat) : Int), rfl, ?_⟩
      refine ⟨SX.S ls, rfl, zl, _, _, rfl, rfl, ?_, ?_⟩
      · rw [cutS_to, cutS_from, show (⟨#[cc]⟩ : Str) = SX.S [cc] from rfl, SX.S_cat, SX.S_len, SX.S_len, List.length_append]
        have := tkl k
        have := drl (k + 1)
        exact big _ (show (ls.take k).length + 1 + (ls.drop (k + 1)).length ≤ _ by omega)
      refine ⟨.str (SX.S ls), rfl, .int (k : Nat), rfl, (k : Int), rfl, SX.S ls, rfl, zl, .str (SX.S ls), rfl, .int (k : Nat), rfl, _, _, rfl, rfl, ((k + 1 : Nat) : Int), rfl, ?_⟩
      refine ⟨SX.S ls, rfl, zl, _, _, rfl, rfl, ?_, sl3, fun p1 n1 => ?_⟩
      · rw [cutS_to, cutS_from, SX.S_len, SX.S_len]
        have := tkl k
        have := drl (k + 1)
        exact big _ (show (ls.take k).length + (ls.drop (k + 1)).length ≤ _ by omega)
      have l1 : (⟨#[cc]⟩ : Str) = SX.S [cc] := rfl
      rw [cutS_to, cutS_from, cutS_from, l1, SX.S_cat, SX.S_cat, SX.S_cat, SX.S_cat]
      have s9 := same_upd (o := (HO.lst [V.str (SX.S ((ls.take k ++ [cc]) ++ ls.drop k)), .str (SX.S ((ls.take k ++ [cc]) ++ ls.drop (k + 1))), .str (SX.S (ls.take k ++ ls.drop (k + 1)))])) n1
      have e9 : upd H3 p1 (HO.lst [V.str (SX.S ((ls.take k ++ [cc]) ++ ls.drop k)), .str (SX.S ((ls.take k ++ [cc]) ++ ls.drop (k + 1))), .str (SX.S (ls.take k ++ ls.drop (k + 1)))]) p1 = some (HO.lst [V.str (SX.S ((ls.take k ++ [cc]) ++ ls.drop k)), .str (SX.S ((ls.take k ++ [cc]) ++ ls.drop (k + 1))), .str (SX.S (ls.take k ++ ls.drop (k + 1)))]) := upd_same
      generalize upd H3 p1 (HO.lst [V.str (SX.S ((ls.take k ++ [cc]) ++ ls.drop k)), .str (SX.S ((ls.take k ++ [cc]) ++ ls.drop (k + 1))), .str (SX.S (ls.take k ++ ls.drop (k + 1)))]) = H9 at s9 e9 ⊢
      have f0 : ∀ (l' : List Nat), (∀ x ∈ l', x < 128) → l'.length ≤ 2 * N + 1 → Fit (B + 9) (2 * N + 250) (M + 3) (.str (SX.S l')) := fun l' h1 h2 => fit_S h1 (by omega)
      have all : ShAll (hid as H9) [V.str (SX.S ((ls.take k ++ [cc]) ++ ls.drop k)), .str (SX.S ((ls.take k ++ [cc]) ++ ls.drop (k + 1))), .str (SX.S (ls.take k ++ ls.drop (k + 1)))] [.str (SX.S ((ls.take k ++ [cc]) ++ ls.drop k)), .str (SX.S ((ls.take k ++ [cc]) ++ ls.drop (k + 1))), .str (SX.S (ls.take k ++ ls.drop (k + 1)))] :=
        .cons (.str _) (.cons (.str _) (.cons (.str _) .nil))
      have fits : ∀ dd ∈ [PyData.str (SX.S ((ls.take k ++ [cc]) ++ ls.drop k)), .str (SX.S ((ls.take k ++ [cc]) ++ ls.drop (k + 1))), .str (SX.S (ls.take k ++ ls.drop (k + 1)))], Fit (B + 9) (2 * N + 250) (M + 3) dd := by
        have a1 := tkl k
        have a2 := drl k
        have a3 := drl (k + 1)
        intro dd hdd
        simp only [List.mem_cons, List.not_mem_nil, or_false] at hdd
        rcases hdd with rfl | rfl | rfl
        · exact f0 _ (mem1 _ _ (mem1 _ _ (tk k) on) (dr k)) (by rw [List.length_append, List.length_append, List.length_take, List.length_drop]; simp only [List.length_cons, List.length_nil]; omega)
        · exact f0 _ (mem1 _ _ (mem1 _ _ (tk k) on) (dr (k + 1))) (by rw [List.length_append, List.length_append, List.length_take, List.length_drop]; simp only [List.length_cons, List.length_nil]; omega)
        · exact f0 _ (mem1 _ _ (tk k) (dr (k + 1))) (by rw [List.length_append, List.length_take, List.length_drop]; omega)
      obtain ⟨x, dx, hx, sx, fx⟩ := pick_sh all fits (j := way % 3) (by omega) (show way % 3 < 3 by omega)
      refine ⟨.ref p1, rfl, .int way, rfl, _, _, rfl, rfl, (show (0 : Int) < 3 by decide), p1, _, way % 3, x, rfl, rfl, SqL.of e9, hx, ?_⟩
      exact fin x _ dx 3 ((D3.same s9).mono (by omega)) (by decide) (((fr1.trans fr2).trans fr3).trans (Fr.of s9)) sx fx
    refine ⟨v, rfl, _, _, _, _, _, rfl, .ty _, shH.ty, kit_ty (kitInt dd), _, rfl, ite2 (fun ei => ?_) (fun ei => ?_)⟩
    · -- a number
      obtain ⟨i, hi, bi⟩ : ∃ i, NumZ.nz v = some i ∧ i.natAbs ≤ B + 1 := by
        rcases isInt_of ei with ⟨i, rfl⟩ | ⟨b, rfl⟩
        · have hv : v = .int i := by cases shH; rfl
          subst hv
          exact ⟨i, rfl, Nat.le_trans (of_decide_eq_true fit.1) (Nat.le_succ _)⟩
        · have hv : v = .bl b := by cases shH; rfl
          subst hv
          refine ⟨_, rfl, ?_⟩
          cases b <;> simp
      have lg : i.natAbs.log2 < 1920 := Nat.lt_trans (small_log (B := B + 1) bi (by omega)) (by decide)
      refine ⟨v, rfl, i, 1, hi, rfl, v, rfl, i, 1, hi, rfl, .inr ⟨_, rfl⟩, v, rfl, 1, i, rfl, hi, .inl ⟨_, rfl⟩, 1, rfl, v, rfl, -1, i, rfl, hi, .inl ⟨_, rfl⟩, v, rfl, i, 0, hi, rfl, v, rfl, v, i, rfl, hi, lg, (show 7 ≤ sizeLine by decide), fun p2 n2 => ?_⟩
      have s9 := same_upd (o := (HO.lst [V.int (i + 1), .int (i - 1), .int (1 - i), .int (-1 - i), .bl (decide (0 < i)), .str (NumZ.strZ v), .non])) n2
      have e9 : upd H1 p2 (HO.lst [V.int (i + 1), .int (i - 1), .int (1 - i), .int (-1 - i), .bl (decide (0 < i)), .str (NumZ.strZ v), .non]) p2 = some (HO.lst [V.int (i + 1), .int (i - 1), .int (1 - i), .int (-1 - i), .bl (decide (0 < i)), .str (NumZ.strZ v), .non]) := upd_same
      generalize upd H1 p2 (HO.lst [V.int (i + 1), .int (i - 1), .int (1 - i), .int (-1 - i), .bl (decide (0 < i)), .str (NumZ.strZ v), .non]) = H9 at s9 e9 ⊢
      have all : ShAll (hid as H9) [V.int (i + 1), .int (i - 1), .int (1 - i), .int (-1 - i), .bl (decide (0 < i)), .str (NumZ.strZ v), .non] [.int (i + 1), .int (i - 1), .int (1 - i), .int (-1 - i), .bool (decide (0 < i)), .str (NumZ.strZ v), .none] :=
        .cons (.int _) (.cons (.int _) (.cons (.int _) (.cons (.int _) (.cons (.bl _) (.cons (.str _) (.cons .non .nil))))))
      have fits := seven (a := PyData.int (i + 1)) (b := .int (i - 1)) (c := .int (1 - i)) (d := .int (-1 - i)) (e := .bool (decide (0 < i))) (f := .str (NumZ.strZ v)) (g := .none) (B := B + 9) (N := 2 * N + 250) (M := M + 3)
        (fit_int (by omega) B9 (by omega)) (fit_int (by omega) B9 (by omega)) (fit_int (by omega) B9 (by omega)) (fit_int (by omega) B9 (by omega)) ⟨rfl, Nat.zero_le _, Nat.zero_le _⟩
        (fit_strZ (k := 200) hi (by decide) (by have := small_log (B := B + 1) bi (by omega); omega) (by omega)) ⟨rfl, Nat.zero_le _, Nat.zero_le _⟩
      obtain ⟨x, dx, hx, sx, fx⟩ := pick_sh all fits (j := way) w0 w1
      refine ⟨.int way, rfl, p2, _, way, x, rfl, rfl, SqL.of e9, hx, ?_⟩
      exact fin x _ dx 1 (D1.same s9) (by decide) (fr1.trans (Fr.of s9)) sx fx
    have f0 : Fit (B + 9) (2 * N + 250) (M + 3) (.tuple []) := ⟨rfl, Nat.zero_le _, by show 0 + 1 ≤ M + 3; omega⟩
    have few : isLoD dd = true ∨ v = .non → (v = .non ∨ (∃ a, v = .ref a ∧ H1 a = some (.dK [])) ∨ ∃ a xs ds, v = .ref a ∧ H1 a = some (.lst xs) ∧ dd = .list ds ∧ ShAll (hid as H1) xs ds) := by
      intro h
      cases sh1 with
      | non => exact .inl rfl
      | bl b => exact absurd rfl ei
      | int i => exact absurd rfl ei
      | str x => exact absurd rfl e
      | lst ha _ t => exact .inr (.inr ⟨_, _, _, rfl, hid_le _ _ ha, rfl, t⟩)
      | tup ha t =>
        rcases h with h | h
        · cases h
        · cases h
      | @dic a kvs ds ha t =>
        have := fit.1
        cases kvs with
        | nil => exact .inr (.inl ⟨_, rfl, hid_le _ _ ha⟩)
        | cons y r =>
          cases t
          cases this
    refine ⟨fun b H' => Same H1 H' ∧ (b = true → isLoD dd = true ∨ v = .non) ∧ (b = false → isTupD dd = true), ?_, ?_⟩
    · refine ⟨v, rfl, sl2, fun tp ntp => ?_⟩
      have s2 := same_upd (o := (HO.tup [V.ty "list", V.ty "dict"])) ntp
      have h2 : upd H1 tp (HO.tup [V.ty "list", V.ty "dict"]) tp = some (HO.tup [V.ty "list", V.ty "dict"]) := upd_same
      generalize upd H1 tp (HO.tup [V.ty "list", V.ty "dict"]) = H2 at s2 h2 ⊢
      have shH2 := (sh1.same (hid_same s2)).same hid_le
      refine ⟨v, tp, _, _, _, _, rfl, h2, .cons (.ty _) (.cons (.ty _) .nil), shH2.ty, kitLo dd, _, rfl, ite2 (fun el => ⟨s2, fun _ => .inl el, fun z => by cases z⟩) (fun el => ?_)⟩
      refine ⟨v, rfl, rfl, _, rfl, s2, fun z => .inr (of_decide_eq_true z), fun z => ?_⟩
      cases shH with
      | non => exact absurd rfl (of_decide_eq_false z)
      | bl b => exact absurd rfl ei
      | int i => exact absurd rfl ei
      | str x => exact absurd rfl e
      | lst ha _ t => exact absurd rfl el
      | tup ha t => rfl
      | dic ha t => exact absurd rfl el
    rintro b H2 ⟨s2, hb1, hb0⟩
    have D2 := D1.same s2
    have fr2 := fr1.trans (Fr.of s2)
    refine ite2 (fun eb => ?_) (fun eb => ?_)
    · -- a list, a dict, none
      refine ⟨Nat.zero_le _, fun p1 n1 => ?_⟩
      have s3 := same_upd (o := (HO.tup [])) n1
      have h3 : upd H2 p1 (HO.tup []) p1 = some (HO.tup []) := upd_same
      generalize upd H2 p1 (HO.tup []) = H3 at s3 h3 ⊢
      have s23 := s2.trans s3
      refine ⟨fun u H' => ∃ p3 xs ds, u = .ref p3 ∧ Same H3 H' ∧ H' p3 = some (.tup xs) ∧ ShAll (hid as H') xs ds ∧ Fit (B + 9) (2 * N + 250) (M + 3) (.tuple ds), ?_, ?_⟩
      · have none_ : ∀ (σ : L2.St) (k : Bool), k = false → TruV K v H3 k → ∃ k, TruV K v H3 k ∧ if k = true then (∃ p ys, [v] = [V.ref p] ∧ ((SqL K H3 p ys ∧ ∀ l, H3 l = none → ∃ p3 xs ds, V.ref l = .ref p3 ∧ Same H3 (upd H3 l (.tup ys)) ∧ (upd H3 l (.tup ys)) p3 = some (.tup xs) ∧ ShAll (hid as (upd H3 l (.tup ys))) xs ds ∧ Fit (B + 9) (2 * N + 250) (M + 3) (.tuple ds)) ∨ (SqT K H3 p ys ∧ ∃ p3 xs ds, V.ref p = .ref p3 ∧ Same H3 H3 ∧ H3 p3 = some (.tup xs) ∧ ShAll (hid as H3) xs ds ∧ Fit (B + 9) (2 * N + 250) (M + 3) (.tuple ds)))) else 0 ≤ sizeLine ∧ ∀ p, H3 p = none → (∃ q ys, [V.ref p] = [V.ref q] ∧ ((SqL K (upd H3 p (.tup [])) q ys ∧ ∀ l, (upd H3 p (.tup [])) l = none → ∃ p3 xs ds, V.ref l = .ref p3 ∧ Same H3 (upd (upd H3 p (.tup [])) l (.tup ys)) ∧ (upd (upd H3 p (.tup [])) l (.tup ys)) p3 = some (.tup xs) ∧ ShAll (hid as (upd (upd H3 p (.tup [])) l (.tup ys))) xs ds ∧ Fit (B + 9) (2 * N + 250) (M + 3) (.tuple ds)) ∨ (SqT K (upd H3 p (.tup [])) q ys ∧ ∃ p3 xs ds, V.ref q = .ref p3 ∧ Same H3 (upd H3 p (.tup [])) ∧ (upd H3 p (.tup [])) p3 = some (.tup xs) ∧ ShAll (hid as (upd H3 p (.tup []))) xs ds ∧ Fit (B + 9) (2 * N + 250) (M + 3) (.tuple ds)))) := by
          rintro _ k rfl tv
          exact ⟨false, tv, iteF ⟨Nat.zero_le _, fun p np => ⟨p, [], rfl, .inr ⟨SqT.of upd_same, p, [], [], rfl, same_upd np, upd_same, .nil, f0⟩⟩⟩⟩
        rcases few (hb1 eb) with rfl | ⟨a, rfl, ha⟩ | ⟨a, xs, ds, rfl, ha, rfl, t⟩
        · exact ⟨_, rfl, none_ [] false rfl rfl⟩
        · exact ⟨_, rfl, none_ [] false rfl (.inr (.inr ⟨_, s23 _ _ ha, rfl⟩))⟩
        · have ha3 := s23 _ _ ha
          have t3 := t.same (hid_same s23)
          cases xs with
          | nil => exact ⟨_, rfl, none_ [] false rfl (.inl ⟨_, SqL.of ha3, rfl⟩)⟩
          | cons y r =>
            refine ⟨_, rfl, true, .inl ⟨_, SqL.of ha3, rfl⟩, iteT ⟨a, _, rfl, .inl ⟨SqL.of ha3, fun l nl => ⟨l, _, ds, rfl, same_upd nl, upd_same, t3.same (hid_same (same_upd nl)), ?_⟩⟩⟩⟩
            exact Fit.mono (B := B) (n := N) (m := M) ⟨fit.1, fit.2.1, fit.2.2⟩ (by omega) (by omega) (by omega)
      rintro u H4 ⟨p3, xs, ds, rfl, s4, h4, t4, f4⟩
      refine ⟨sl2, fun p4 n4 => ?_⟩
      have s5 := same_upd (o := (HO.lst [V.ref p1, .ref p3])) n4
      have h5 : upd H4 p4 (HO.lst [V.ref p1, .ref p3]) p4 = some (HO.lst [V.ref p1, .ref p3]) := upd_same
      generalize upd H4 p4 (HO.lst [V.ref p1, .ref p3]) = H5 at s5 h5 ⊢
      have D5 := ((D2.same s3).same s4).same s5
      have all : ShAll (hid as H5) [V.ref p1, .ref p3] [.tuple [], .tuple ds] := .cons (sh_tup D5 (s5 _ _ (s4 _ _ h3)) .nil) (.cons (sh_tup D5 (s5 _ _ h4) (t4.same (hid_same s5))) .nil)
      have fits : ∀ x ∈ [PyData.tuple [], .tuple ds], Fit (B + 9) (2 * N + 250) (M + 3) x := by
        intro x hx
        rcases List.mem_cons.mp hx with rfl | hx
        · exact f0
        · rw [List.mem_singleton.mp hx]; exact f4
      obtain ⟨x, dx, hx, sx, fx⟩ := pick_sh all fits (j := way % 2) (by omega) (show way % 2 < 2 by omega)
      exact ⟨.int way, rfl, _, _, rfl, rfl, (show (0 : Int) < 2 by decide), p4, _, way % 2, x, rfl, rfl, SqL.of h5, hx, fin x _ dx 1 D5 (by decide) (fr2.trans (Fr.of ((s3.trans s4).trans s5))) sx fx⟩
    -- a tuple
    obtain ⟨ds, rfl⟩ := tup_of (hb0 (by cases b <;> simp_all))
    have sh2 := sh1.same (hid_same s2)
    cases sh2 with
    | @tup a xs _ ha0 t =>
      have ha2 : H2 a = some (.tup xs) := hid_le _ _ ha0
      have oa := D2.tupOut ha2
      have oad : a ≠ d := fun z => oa (by rw [z]; exact D.hd)
      have oal : a ≠ l := fun z => oa (by rw [z]; exact D.hl)
      obtain ⟨m, rfl⟩ : ∃ m, M = m + 1 := by
        cases M with
        | zero => exact absurd fit.2.2 (Nat.not_succ_le_zero _)
        | succ m => exact ⟨m, rfl⟩
      have fl : FitL B N m ds := fit.inv
      have lx := t.length
      have lN : xs.length ≤ N := by
        rw [lx]
        exact Nat.le_trans (len_weight ds) fl.2.1
      have big : ∀ k : Nat, k ≤ 3 * N + 100 → k ≤ sizeLine := fun k hk => Nat.le_trans hk (Nat.le_trans (show 3 * N + 100 ≤ 40000 by omega) (by decide))
      have tkl : ∀ j, (xs.take j).length ≤ N := fun j => by rw [List.length_take]; omega
      have drl : ∀ j, (xs.drop j).length ≤ N := fun j => Nat.le_trans (by rw [List.length_drop]; exact Nat.sub_le _ _) lN
      have mdl : ∀ i j, ((xs.drop i).take j).length ≤ N := fun i j => Nat.le_trans (by rw [List.length_take]; exact Nat.min_le_right _ _) (drl i)
      refine ⟨.ref d, rfl, .ref a, rfl, a, xs, rfl, .inr (SqT.of ha2), _, _, rfl, rfl, d, l, _, _, rfl, D2.d1, by omega, by omega, by omega, fun H3 ki D3 fr3 k0 k1 => ?_⟩
      replace D3 := D2.fr D3 fr3
      obtain ⟨k, rfl⟩ := Int.eq_ofNat_of_zero_le k0
      have ha3 : H3 a = some (.tup xs) := fr3 _ _ oad oal ha2
      have t3 : ShAll (hid as H3) xs ds := t.same (hid_fr fr3 D.hd D.hl)
      have frA := fr2.trans fr3
      -- t[:at] + t[at + 1:]
      refine ⟨.ref a, rfl, .int k, rfl, (k : Int), rfl, slA ha3 fun q1 H4 s4 h4 => ?_⟩
      rw [cut_to] at h4
      refine ⟨.ref a, rfl, .int k, rfl, _, _, rfl, rfl, ((k + 1 : Nat) : Int), rfl, slAn (s4 _ _ ha3) fun q2 H5 s5 h5 => ?_⟩
      rw [cut_from] at h5
      refine catA (s5 _ _ h4) h5 ?_ fun o1 H6 s6 r1 => ?_
      · have := tkl k
        have := drl (k + 1)
        exact big _ (by omega)
      have g6 := (s4.trans s5).trans s6
      -- t[:at] + t[at:at + 1] + t[at:]
      refine ⟨.ref a, rfl, .int k, rfl, (k : Int), rfl, slA (g6 _ _ ha3) fun q4 H7 s7 h7 => ?_⟩
      rw [cut_to] at h7
      have g7 := g6.trans s7
      refine ⟨.ref a, rfl, .int k, rfl, (k : Int), rfl, .int k, rfl, _, _, rfl, rfl, ((k + 1 : Nat) : Int), rfl, slA (g7 _ _ ha3) fun q5 H8 s8 h8 => ?_⟩
      rw [cut_mid] at h8
      refine catA (s8 _ _ h7) h8 ?_ fun q6 H9 s9 h9 => ?_
      · have := tkl k
        have := mdl k 1
        exact big _ (by omega)
      have g9 := g7.trans (s8.trans s9)
      refine ⟨.ref a, rfl, .int k, rfl, (k : Int), rfl, slAn (g9 _ _ ha3) fun q7 H10 s10 h10 => ?_⟩
      rw [cut_from] at h10
      refine catA (s10 _ _ h9) h10 ?_ fun o2 H11 s11 r2 => ?_
      · have := tkl k
        have := mdl k 1
        have := drl k
        rw [List.length_append]
        exact big _ (by omega)
      have g11 := g9.trans (s10.trans s11)
      -- list(t)
      refine ⟨.ref a, rfl, a, xs, rfl, SqT.of (g11 _ _ ha3), fun o3 n3 m3 => ?_⟩
      have u3 := (D3.same g11).out n3
      have s12 := same_upd (o := (HO.lst xs)) n3
      have r3 : upd H11 o3 (HO.lst xs) o3 = some (HO.lst xs) := upd_same
      generalize upd H11 o3 (HO.lst xs) = H12 at s12 r3 ⊢
      have g12 := g11.trans s12
      -- t + ((),)
      refine ⟨.ref a, rfl, Nat.zero_le _, fun e4 ne4 => ?_⟩
      have s13 := same_upd (o := (HO.tup [])) ne4
      have w4 : upd H12 e4 (HO.tup []) e4 = some (HO.tup []) := upd_same
      generalize upd H12 e4 (HO.tup []) = H13 at s13 w4 ⊢
      refine ⟨sl1, fun e5 ne5 => ?_⟩
      have s14 := same_upd (o := (HO.tup [.ref e4])) ne5
      have w5 : upd H13 e5 (HO.tup [.ref e4]) e5 = some (HO.tup [.ref e4]) := upd_same
      generalize upd H13 e5 (HO.tup [.ref e4]) = H14 at s14 w5 ⊢
      have g14 := g12.trans (s13.trans s14)
      refine catA (g14 _ _ ha3) w5 ?_ fun o4 H15 s15 r4 => ?_
      · exact big _ (show xs.length + 1 ≤ _ by omega)
      have g15 := g14.trans s15
      refine ⟨sl4, fun L1 nL1 => ?_⟩
      have s16 := same_upd (o := (HO.lst [V.ref o1, .ref o2, .ref o3, .ref o4])) nL1
      have hL1 : upd H15 L1 (HO.lst [V.ref o1, .ref o2, .ref o3, .ref o4]) L1 = some (HO.lst [V.ref o1, .ref o2, .ref o3, .ref o4]) := upd_same
      generalize upd H15 L1 (HO.lst [V.ref o1, .ref o2, .ref o3, .ref o4]) = H16 at s16 hL1 ⊢
      have g16 := g15.trans s16
      refine ⟨.ref L1, rfl, ?_⟩
      -- t[:at] + t[at:at + 2][::-1] + t[at + 2:]
      refine ⟨.ref a, rfl, .int k, rfl, (k : Int), rfl, slA (g16 _ _ ha3) fun q8 J1 z1 y1 => ?_⟩
      rw [cut_to] at y1
      have j1 := g16.trans z1
      refine ⟨.ref a, rfl, .int k, rfl, (k : Int), rfl, .int k, rfl, _, _, rfl, rfl, ((k + 2 : Nat) : Int), rfl, slA (j1 _ _ ha3) fun q9 J2 z2 y2 => ?_⟩
      rw [cut_mid] at y2
      refine ⟨q9, _, rfl, SqT.of y2, fun q10 n10 => ?_⟩
      have z3 := same_upd (o := (HO.tup ((xs.drop k).take 2).reverse)) n10
      have y3 : upd J2 q10 (HO.tup ((xs.drop k).take 2).reverse) q10 = some (HO.tup ((xs.drop k).take 2).reverse) := upd_same
      generalize upd J2 q10 (HO.tup ((xs.drop k).take 2).reverse) = J3 at z3 y3 ⊢
      refine catA (z3 _ _ (z2 _ _ y1)) y3 ?_ fun q11 J4 z4 y4 => ?_
      · have := tkl k
        have := mdl k 2
        rw [List.length_reverse]
        exact big _ (by omega)
      have j4 := j1.trans ((z2.trans z3).trans z4)
      refine ⟨.ref a, rfl, .int k, rfl, _, _, rfl, rfl, ((k + 2 : Nat) : Int), rfl, slAn (j4 _ _ ha3) fun q12 J5 z5 y5 => ?_⟩
      rw [cut_from] at y5
      refine catA (z5 _ _ y4) y5 ?_ fun o5 J6 z6 r5 => ?_
      · have := tkl k
        have := mdl k 2
        have := drl (k + 2)
        rw [List.length_append, List.length_reverse]
        exact big _ (by omega)
      have j6 := j4.trans (z5.trans z6)
      -- t[:at] + (None,) + t[at + 1:]
      refine ⟨.ref a, rfl, .int k, rfl, (k : Int), rfl, slA (j6 _ _ ha3) fun q13 J7 z7 y7 => ?_⟩
      rw [cut_to] at y7
      refine ⟨sl1, fun q14 n14 => ?_⟩
      have z8 := same_upd (o := (HO.tup [.non])) n14
      have y8 : upd J7 q14 (HO.tup [.non]) q14 = some (HO.tup [.non]) := upd_same
      generalize upd J7 q14 (HO.tup [.non]) = J8 at z8 y8 ⊢
      refine catA (z8 _ _ y7) y8 ?_ fun q15 J9 z9 y9 => ?_
      · have := tkl k
        exact big _ (show (xs.take k).length + 1 ≤ _ by omega)
      have j9 := j6.trans ((z7.trans z8).trans z9)
      refine ⟨.ref a, rfl, .int k, rfl, _, _, rfl, rfl, ((k + 1 : Nat) : Int), rfl, slAn (j9 _ _ ha3) fun q16 J10 z10 y10 => ?_⟩
      rw [cut_from] at y10
      refine catA (z10 _ _ y9) y10 ?_ fun o6 J11 z11 r6 => ?_
      · have := tkl k
        have := drl (k + 1)
        rw [List.length_append]
        exact big _ (show (xs.take k).length + 1 + (xs.drop (k + 1)).length ≤ _ by omega)
      have j11 := j9.trans (z10.trans z11)
      refine fun o7 n7 => ?_
      have u7 := (D3.same j11).out n7
      have z12 := same_upd (o := (HO.dK [])) n7
      have r7 : upd J11 o7 (HO.dK []) o7 = some (HO.dK []) := upd_same
      generalize upd J11 o7 (HO.dK []) = J12 at z12 r7 ⊢
      refine ⟨sl3, fun L2 nL2 => ?_⟩
      have z13 := same_upd (o := (HO.lst [V.ref o5, .ref o6, .ref o7])) nL2
      have hL2 : upd J12 L2 (HO.lst [V.ref o5, .ref o6, .ref o7]) L2 = some (HO.lst [V.ref o5, .ref o6, .ref o7]) := upd_same
      generalize upd J12 L2 (HO.lst [V.ref o5, .ref o6, .ref o7]) = J13 at z13 hL2 ⊢
      have e16 : Same H16 J13 := (((z1.trans z2).trans (z3.trans z4)).trans ((z5.trans z6).trans (z7.trans z8))).trans (((z9.trans z10).trans z11).trans (z12.trans z13))
      refine ⟨L1, L2, _, _, rfl, rfl, e16 _ _ hL1, hL2, show 7 ≤ sizeLine by decide, fun L3 nL3 => ?_⟩
      have z14 := same_upd (o := (HO.lst ([V.ref o1, .ref o2, .ref o3, .ref o4] ++ [V.ref o5, .ref o6, .ref o7]))) nL3
      have hL3 : upd J13 L3 (HO.lst ([V.ref o1, .ref o2, .ref o3, .ref o4] ++ [V.ref o5, .ref o6, .ref o7])) L3 = some (HO.lst ([V.ref o1, .ref o2, .ref o3, .ref o4] ++ [V.ref o5, .ref o6, .ref o7])) := upd_same
      generalize upd J13 L3 (HO.lst ([V.ref o1, .ref o2, .ref o3, .ref o4] ++ [V.ref o5, .ref o6, .ref o7])) = J14 at z14 hL3 ⊢
      have eF : Same H16 J14 := e16.trans z14
      have e15 := s16.trans eF
      have e12 := (s13.trans s14).trans (s15.trans e15)
      have e11 := s12.trans e12
      have e6 := (s7.trans s8).trans ((s9.trans s10).trans (s11.trans e11))
      have e13 := z13.trans z14
      have eJ11 := z12.trans e13
      have eJ6 := ((z7.trans z8).trans (z9.trans z10)).trans (z11.trans eJ11)
      have gA := g6.trans e6
      have DF := D3.same gA
      have tF := t3.same (hid_same gA)
      have a1 : Sh (hid as J14) (.ref o1) _ := sh_tup DF (e6 _ _ r1) ((tF.take k).append (tF.drop (k + 1)))
      have a2 : Sh (hid as J14) (.ref o2) _ := sh_tup DF (e11 _ _ r2) (((tF.take k).append ((tF.drop k).take 1)).append (tF.drop k))
      have a3 : Sh (hid as J14) (.ref o3) (.list ds) := .lst (by rw [hid_at u3]; exact e12 _ _ r3) m3 tF
      have a4 : Sh (hid as J14) (.ref o4) _ := sh_tup DF (e15 _ _ r4) (tF.append (.cons (sh_tup DF ((s14.trans (s15.trans e15)) _ _ w4) .nil) .nil))
      have a5 : Sh (hid as J14) (.ref o5) _ := sh_tup DF (eJ6 _ _ r5) (((tF.take k).append ((tF.drop k).take 2).rev).append (tF.drop (k + 2)))
      have a6 : Sh (hid as J14) (.ref o6) _ := sh_tup DF (eJ11 _ _ r6) (((tF.take k).append (.cons .non .nil)).append (tF.drop (k + 1)))
      have a7 : Sh (hid as J14) (.ref o7) (.dict []) := .dic (kvs := []) (by rw [hid_at u7]; exact e13 _ _ r7) .nil
      have all := ShAll.cons a1 (.cons a2 (.cons a3 (.cons a4 (.cons a5 (.cons a6 (.cons a7 .nil))))))
      obtain ⟨wa, wb, wab, fa, fb⟩ := fl.split k
      have d1 : ds.drop (k + 1) = (ds.drop k).drop 1 := by rw [List.drop_drop]
      have d2 : ds.drop (k + 2) = (ds.drop k).drop 2 := by rw [List.drop_drop]
      have fb1 : FitL B wb m (ds.drop (k + 1)) := by rw [d1]; exact fb.drop 1
      have fb2 : FitL B wb m (ds.drop (k + 2)) := by rw [d2]; exact fb.drop 2
      have up : ∀ {es : List PyData} {w : Nat}, FitL B w m es → w ≤ 2 * N + 250 → Fit (B + 9) (2 * N + 250) (m + 1 + 3) (.tuple es) := fun f hw => (Fit.tup f).mono (by omega) hw (by omega)
      have fits := seven (B := B + 9) (N := 2 * N + 250) (M := m + 1 + 3)
        (up (fa.app fb1) (by omega))
        (up ((fa.app (fb.take 1)).app fb) (by omega))
        ((Fit.lst fl).mono (show B ≤ B + 9 by omega) (show N ≤ 2 * N + 250 by omega) (show m + 1 ≤ m + 1 + 3 by omega))
        ((Fit.tup ((fl.mono (Nat.le_refl _) (Nat.le_refl _) (show m ≤ m + 1 by omega)).app (FitL.one (⟨rfl, Nat.le_refl _, by show 0 + 1 ≤ m + 1; omega⟩ : Fit B 0 (m + 1) (.tuple []))))).mono (show B ≤ B + 9 by omega) (by omega) (by omega))
        (up ((fa.app (fb.take 2).rev).app fb2) (by omega))
        (up ((fa.app (FitL.one (⟨rfl, Nat.le_refl _, Nat.zero_le _⟩ : Fit B 0 m .none))).app fb1) (by omega))
        (⟨rfl, Nat.zero_le _, by show 0 + 1 ≤ m + 1 + 3; omega⟩ : Fit (B + 9) (2 * N + 250) (m + 1 + 3) (.dict []))
      obtain ⟨x, dx, hx, sx, fx⟩ := pick_sh all fits (j := way) w0 w1
      refine ⟨.ref L3, rfl, .int way, rfl, L3, _, way, x, rfl, rfl, SqL.of hL3, hx, ?_⟩
      exact fin x _ dx 2 (DF.mono (by omega)) (by decide) (frA.trans (Fr.of gA)) sx fx

end
end Gk

set_option Elab.async false
set_option linter.all false
set_option maxRecDepth 100000
set_option maxHeartbeats 1000000
set_option pp.maxSteps 1500
set_option pp.deepTerms false
namespace Gk
open PySem PySem.Spec PyProof.Rows L2
section
variable {P : Program} {w : World} {K : PySem.W.Frag} {mg : Str → Option Value} {base : Heap}
/-! ### something spoilt within, at any depth -/
theorem fit_put3 {B N m k : Nat} {ds : List PyData} {dk d0 : PyData} (hk : ds[k]? = some dk) (fl : FitL B N m ds) (f0 : Fit (B + 9) (2 * dk.weight + 250) (m + 3) d0) : Fit (B + 9) (2 * N + 250) (m + 1 + 3) (.tuple ((ds.take k ++ [d0]) ++ ds.drop (k + 1))) := by
  have e : ds = ds.take k ++ ([dk] ++ ds.drop (k + 1)) := by
    obtain ⟨hl, e'⟩ := List.getElem?_eq_some_iff.mp hk
    rw [← e', List.singleton_append, List.getElem_cons_drop, List.take_append_drop]
  have w : PyData.weightAll (ds.take k) + (dk.weight + 1 + PyData.weightAll (ds.drop (k + 1))) ≤ N := by
    have h := fl.2.1
    rw [e, weight_app, weight_app] at h
    have : PyData.weightAll [dk] = dk.weight + 1 := rfl
    omega
  have up : ∀ {es : List PyData}, FitL B N m es → FitL (B + 9) (PyData.weightAll es) (m + 3) es := fun f => ⟨gds_iff.mpr fun x hx => gd_mono (by omega) (gds_iff.mp f.1 x hx), Nat.le_refl _, Nat.le_trans f.2.2 (by omega)⟩
  have a := ((up (fl.take k)).app (FitL.one f0)).app (up (fl.drop (k + 1)))
  exact (Fit.tup a).mono (Nat.le_refl _) (by omega) (by omega)
def sp_spoilt (K : PySem.W.Frag) (e : Nat) : Sp := fun vs H Q _ => ∃ (as : List Addr) (d l : Addr) (n : Int) (v : V) (dd : PyData) (B N M : Nat), vs = [.ref d, v] ∧ DA as H d l n ∧ n + 10 * (e : Int) < 900000 ∧ M < e ∧ Sh (hid as H) v dd ∧ Fit B N M dd ∧ B < 2 ^ 180 ∧ N ≤ 10000 ∧
  ∀ v' H' dd', DA as H' d l (n + 3 + 2 * (e : Int)) → Fr d l H H' → Sh (hid as H') v' dd' → Fit (B + 9) (2 * N + 250) (M + 3) dd' → Q v' H'
theorem ok_spoiltE (T : Tx K mg) : ∀ e : Nat, FnOk P w K mg base CX0 (e + 2) T.f_spoilt T.fd_spoilt ["_law_deck_here", "_law_thing"] (sp_spoilt K e)
  | 0 => ⟨fun _ _ _ _ h => by obtain ⟨_, _, _, _, _, _, _, _, M, _, _, _, h, _⟩ := h; omega, fun _ _ _ _ _ _ _ _ _ _ _ _ _ h => by obtain ⟨_, _, _, _, _, _, _, _, M, _, _, _, h, _⟩ := h; omega⟩
  | e + 1 => by
    have ih := ok_spoiltE T e
    refine T.F_spoilt.ok sc_spoilt (fun vs H Q E h => ?_) (fun cdv A outer s H vs Q E hr h => ?_)
    · obtain ⟨as, d, l, n, v, dd, B, N, M, rfl, _⟩ := h
      rfl
    · obtain ⟨as, d, l, n, v, dd, B, N, M, rfl, D, hn, hM, sh, fit, hB, hN, q⟩ := h
      push_cast at hn q
      refine ⟨_, (pss_cons (ps_if (pw_or (pt_not (pt_val (pe_callB call_isi (by rfl) T.m_isinstance (by decide +kernel) (pa_cons (pv 1) (pa_cons (pe_bltn (v := .ty "tuple") (u := .type "tuple") (by rfl) T.m_tuple (by decide +kernel) rfl) pa_nil))))) (pw_or (pt_cmpR (TupRev.op_eqE hr.units) (pv 1) (pe_tup pa_nil) (nomark _)) (pw_or1 (pt_cmpR op_eq (pe_call (ok_next T) (hr.mono (by omega)) (by rfl) T.g_next T.F_next.kp T.b_next .nil pass0 (pa_cons (pv 0) (pa_cons pe_int pa_nil))) pe_int (nomark _))))).pt (pss_one (ps_ret (pe_call (ok_step_off T) (hr.mono (by omega)) (by rfl) T.g_step_off T.F_step_off.kp T.b_step_off .nil pass0 (pa_cons (pv 0) (pa_cons (pv 1) pa_nil))))) pss_nil) (pss_cons (ps_set (i := 2) sc_spoilt.nd rfl (by first | exact .inl rfl | exact .inr rfl) (pe_call (ok_next T) (hr.mono (by omega)) (by rfl) T.g_next T.F_next.kp T.b_next .nil pass0 (pa_cons (pv 0) (pa_cons (pe_callB call_len_seq (by rfl) T.m_len PySem.boot_len (pa_cons (pv 1) pa_nil)) pa_nil)))) (pss_one (ps_ret (pe_op op_catA (pe_op op_catA (pe_slice sl_tupA (pv 1) po_none (po_some (pv 2))) (pe_tup (pa_cons (pe_call (ih) (hr.mono (by omega)) (by rfl) T.g_spoilt T.F_spoilt.kp T.b_spoilt .nil pass0 (pa_cons (pv 0) (pa_cons (pe_ix ix_tup (pv 1) (pv 2) (fun _ _ => rfl)) pa_nil))) pa_nil))) (pe_slice sl_tupA (pv 1) (po_some (pe_op op_add (pv 2) pe_int)) po_none)))))), ?_⟩
      have oth : ∀ H1 (j : Int) X, DA as H1 d l (n + j) → 0 ≤ j → j ≤ 1 → Fr d l H H1 → Sh (hid as H1) v dd → sp_step_off K [.ref d, v] H1 Q X := fun H1 j X D1 j0 j1 fr1 sh1 =>
        ⟨as, d, l, n + j, v, dd, B, N, M, rfl, D1, by omega, sh1, fit, hB, hN, fun v' H' dd' D' fr' sh' fit' => q v' H' dd' (D'.mono (by omega)) (fr1.trans fr') sh' fit'⟩
      have shH : Sh H v dd := sh.same hid_le
      refine ⟨v, rfl, _, _, _, _, _, rfl, .ty _, shH.ty, kit_ty (kitTup dd), _, rfl, ite2 (fun nt => ?_) (fun it => ?_)⟩
      · refine ite2 (fun _ => ?_) (fun z => absurd rfl z)
        exact ⟨.ref d, rfl, v, rfl, oth H 0 E0 (D.mono (by omega)) (by decide) (by decide) (fun _ _ _ _ e => e) sh⟩
      obtain ⟨ds, rfl⟩ := tup_of (notF it)
      obtain ⟨a, xs, rfl, ha0, t⟩ : ∃ a xs, v = .ref a ∧ hid as H a = some (.tup xs) ∧ ShAll (hid as H) xs ds := by
        cases sh with
        | @tup a xs _ ha0 t => exact ⟨a, xs, rfl, ha0, t⟩
      have ha : H a = some (.tup xs) := hid_le _ _ ha0
      have oa := D.tupOut ha
      have oad : a ≠ d := fun z => oa (by rw [z]; exact D.hd)
      have oal : a ≠ l := fun z => oa (by rw [z]; exact D.hl)
      refine ⟨.ref a, rfl, Nat.zero_le _, fun p0 n0 => ⟨a, p0, xs, rfl, rfl, SqT.of (same_upd n0 _ _ ha), SqT.of upd_same, _, rfl, ?_⟩⟩
      have s0 := same_upd (o := HO.tup []) n0
      generalize hh2 : upd H p0 _ = H2
      replace s0 : Same H H2 := by rw [← hh2]; exact s0
      clear hh2
      have D2 := D.same s0
      refine ite2 (fun em => ?_) (fun ne => ?_)
      · refine ite2 (fun _ => ?_) (fun z => absurd rfl z)
        exact ⟨.ref d, rfl, .ref a, rfl, oth H2 0 E0 (D2.mono (by omega)) (by decide) (by decide) (Fr.of s0) (sh.same (hid_same s0))⟩
      refine ⟨.ref d, rfl, d, l, 6, _, rfl, D2.d1, by omega, by decide, by decide, fun H3 u D3 fr3 u0 u1 => ⟨rfl, _, rfl, ?_⟩⟩
      replace D3 := D2.fr D3 fr3
      have f3 := (Fr.of s0).trans fr3
      have sh3 := sh.same (hid_fr f3 D.hd D.hl)
      refine ite2 (fun _ => ?_) (fun _ => ?_)
      · exact ⟨.ref d, rfl, .ref a, rfl, oth H3 1 E0 D3 (by decide) (by decide) f3 sh3⟩
      have pos : 0 < xs.length := by
        cases xs with
        | nil => exact absurd rfl ne
        | cons y r => exact Nat.succ_pos _
      obtain ⟨m, rfl⟩ : ∃ m, M = m + 1 := by
        cases M with
        | zero => exact absurd fit.2.2 (Nat.not_succ_le_zero _)
        | succ m => exact ⟨m, rfl⟩
      have fl : FitL B N m ds := fit.inv
      have lx := t.length
      have lN : xs.length ≤ N := by
        rw [lx]
        exact Nat.le_trans (len_weight ds) fl.2.1
      have ha3 : H3 a = some (.tup xs) := f3 _ _ oad oal ha
      refine ⟨.ref d, rfl, .ref a, rfl, a, xs, rfl, .inr (SqT.of ha3), d, l, _, _, rfl, D3.d1, by omega, by omega, by omega, fun H4 ki D4 fr4 k0 k1 => ?_⟩
      replace D4 := D3.fr D4 fr4
      obtain ⟨k, rfl⟩ := Int.eq_ofNat_of_zero_le k0
      have hk : k < xs.length := by omega
      have f4 := f3.trans fr4
      have ha4 : H4 a = some (.tup xs) := f4 _ _ oad oal ha
      obtain ⟨xk, hxk⟩ : ∃ xk, xs[k]? = some xk := ⟨_, List.getElem?_eq_getElem hk⟩
      refine ⟨.ref a, rfl, .int k, rfl, (k : Int), rfl, slA ha4 fun q1 H5 s5 h5 => ?_⟩
      rw [cut_to] at h5
      have D5 := D4.same s5
      have f5 := f4.trans (Fr.of s5)
      have ha5 := s5 _ _ ha4
      obtain ⟨dk, hdk, sdk⟩ := (t.same (hid_fr f5 D.hd D.hl)).get hxk
      have fk := fl.get hdk
      have wk : dk.weight ≤ N := fk.2.1
      refine ⟨.ref d, rfl, .ref a, rfl, .int k, rfl, a, xs, (k : Int), xk, rfl, rfl, SqT.of ha5, atI_nat hxk, ?_⟩
      refine ⟨as, d, l, _, xk, dk, B, dk.weight, m, rfl, D5, by omega, by omega, sdk, ⟨fk.1, Nat.le_refl _, fk.2.2⟩, hB, by omega, fun v' H6 dd' D6 fr6 sh6 fit6 => ?_⟩
      have f6 := f5.trans fr6
      have h6 := Ts.frG D5.d1 fr6 _ _ h5
      have ha6 := Ts.frG D5.d1 fr6 _ _ ha5
      refine ⟨sl1, fun q2 n2 => ?_⟩
      have s7 := same_upd (o := (HO.tup [v'])) n2
      have h7 : upd H6 q2 (HO.tup [v']) q2 = some (HO.tup [v']) := upd_same
      generalize upd H6 q2 (HO.tup [v']) = H7 at s7 h7 ⊢
      have few : ∀ j, (xs.take j).length + 1 + (xs.drop (j + 1)).length ≤ sizeLine := fun j => by
        rw [List.length_take, List.length_drop]
        exact Nat.le_trans (show _ ≤ 30000 by omega) (by decide)
      refine catA (s7 _ _ h6) h7 (Nat.le_trans (Nat.le_add_right _ _) (few k)) fun q3 H8 s8 h8 => ?_
      refine ⟨.ref a, rfl, .int k, rfl, _, _, rfl, rfl, ((k + 1 : Nat) : Int), rfl, slAn ((s7.trans s8) _ _ ha6) fun q4 H9 s9 h9 => ?_⟩
      rw [cut_from] at h9
      refine catA (s9 _ _ h8) h9 (by rw [List.length_append]; exact few k) fun r HA sA hA => ?_
      have g := (s7.trans s8).trans (s9.trans sA)
      have DA' := D6.same g
      have fA := f6.trans (Fr.of g)
      have tA := t.same (hid_fr fA D.hd D.hl)
      exact q _ _ _ (DA'.mono (by omega)) fA (sh_tup DA' hA (((tA.take k).append (.cons (sh6.same (hid_same g)) .nil)).append (tA.drop (k + 1)))) (fit_put3 hdk fl fit6)
theorem ok_spoilt (T : Tx K mg) : FnOk P w K mg base CX0 12 T.f_spoilt T.fd_spoilt ["_law_deck_here", "_law_thing"] (sp_spoilt K 10) := ok_spoiltE T 10

end
end Gk

set_option Elab.async false
set_option linter.all false
set_option maxRecDepth 100000
set_option maxHeartbeats 1000000
set_option pp.maxSteps 1500
set_option pp.deepTerms false
namespace Gk
open PySem PySem.Spec PyProof.Rows L2
/-- tuple * int, the int from 1 on: by 1 it is the tuple itself -/
theorem tuple_mul1 (l : Addr) (items : Array Value) (n : Nat) (dd : Option Addr) (sl : Array (Option Value)) (u : Tok) :
    Meets (Builtin.«tuple.__mul__» ⟨[.ref l, .int 1 u], []⟩) (fun _ R s => s.heap.get? l = some { cls := .type "tuple", dict := dd, data := .seq items n, slots := sl } ∧ R (.ok (.ret (Value.ref l))) s) :=
  .of_wp fun prog w A R s h => by
    obtain ⟨hp, g, d, tk, os⟩ := s
    obtain ⟨hl, h⟩ := h
    have f1 := AutoSeq1.idx_int
    have c1 : (items.isEmpty || (1 : Int) == 1) = true := by simp
    wp_walk using wpAny_loadPart' hl
    repeat (first
      | (refine wpAny_ite_false (decide_eq_false (by decide)) ?_; wp_walk using wpAny_loadPart' hl)
      | (refine wpAny_ite_true (decide_eq_true c1) ?_; wp_walk using wpAny_loadPart' hl))
    exact ⟨_, rfl, h⟩
def rRepT1 (K : PySem.W.Frag) : R2 := fun x y H Q => ∃ l k xs, x = .ref l ∧ y = .int k ∧ SqT K H l xs ∧ xs ≠ [] ∧ 1 ≤ k ∧ k ≤ 1000 ∧ xs.length ≤ 1000 ∧ (k = 1 → Q (.ref l) H) ∧ (2 ≤ k → ∀ p, H p = none → Q (.ref p) (upd H p (.tup (List.replicate k.toNat xs).flatten)))
theorem op_repT1 {X : Cx} : OpR X (binaryOp .Mult) (rRepT1 X.K) := by
  intro pins s σ H x y v u Q I rx ry h
  obtain ⟨l, k, xs, ex, ey, hT, full, one, most, few, q1, q2⟩ := h
  by_cases hk : k = 1
  · subst hk
    subst ex ey
    cases rx
    obtain ⟨tk, rfl⟩ := ry
    obtain ⟨its, r, ⟨ob, hob, hcl, c, hdt⟩, _⟩ := I.tuple hT
    obtain ⟨cls, dd, data, sl⟩ := ob
    cases (show cls = Value.type "tuple" from hcl)
    cases (show data = Data.seq its.toArray c from hdt)
    exact wpAny_binaryOp_repeat_ref (T := "tuple") (U := "int") (by decide) ⟨_, hob, rfl⟩ (fun z => typeIs_int z 1 tk) noFill_tuple_mul F.fills_int_mul F.slot_int_rmul repeat_tuple F.slot_int_index.lookup
      (call_meets F.slot_int_rmul (typeIs_int s 1 tk) F.entry_int_rmul (F.args_int_rmul_2 _ _) (int_rmul_tuple 1 tk l its.toArray c dd sl) ⟨hob, rfl, ⟨_, hob, rfl⟩,
        call_meets F.slot_tuple_mul ⟨_, hob, rfl⟩ F.entry_tuple_mul (F.args_tuple_mul_2 _ _) (tuple_mul1 l its.toArray c dd sl tk) ⟨hob, ⟨.ref l, H, I, rfl, q1 rfl⟩⟩⟩)
  · exact op_repT pins s σ H x y v u Q I rx ry ⟨l, k, xs, ex, ey, hT, full, by omega, most, few, q2 (by omega)⟩
theorem repA {K : PySem.W.Frag} {l : Addr} {xs : List V} {k : Int} {H : Hp} {Q : VK} (h : H l = some (.tup xs)) (ne : xs ≠ []) (k1 : 1 ≤ k) (k2 : k ≤ 1000) (hl : xs.length ≤ 1000) (q : ∀ p H', Same H H' → H' p = some (.tup (List.replicate k.toNat xs).flatten) → Q (.ref p) H') : rRepT1 K (.ref l) (.int k) H Q :=
  ⟨l, k, xs, rfl, rfl, SqT.of h, ne, k1, k2, hl, fun e => q l H (fun _ _ z => z) (by rw [h, e]; show _ = some (HO.tup (List.replicate 1 xs).flatten); simp), fun _ p np => q p _ (same_upd np) upd_same⟩

/-! ### tuple(x), list(x) of a text -/
namespace TSt
open PySem PySem.Spec PyProof.Rows L2
section
variable {X : Cx}
def sgs (x : PySem.Str) : List V := x.cps.toList.map fun c => V.str ⟨#[c]⟩
def rTupS : List V → Hp → VK → Prop := fun vs H Q => ∃ x : PySem.Str, vs = [.str x] ∧ x.length ≤ sizeLine ∧ ∀ p, H p = none → Q (.ref p) (upd H p (.tup (sgs x)))
def rLstS : List V → Hp → VK → Prop := fun vs H Q => ∃ x : PySem.Str, vs = [.str x] ∧ x.length ≤ sizeLine ∧ ∀ p, H p = none → p ≠ sysModules → Q (.ref p) (upd H p (.lst (sgs x)))
theorem vals_at : ∀ {xs : List V} {us : List Value}, xs.length = us.length → (∀ (j : Nat) (x : V) (u : Value), xs[j]? = some x → us[j]? = some u → RelV x u) → Vals xs us
  | [], [], _, _ => .nil
  | x :: r, u :: t, hl, h => .cons (h 0 x u rfl rfl) (vals_at (by simpa using hl) fun j a b e1 e2 => h (j + 1) a b e1 e2)
theorem sg_vals {x : PySem.Str} {acc : Array Value} (h : ItemsOf (SignAt x) acc x.cps.size) : Vals (sgs x) acc.toList := by
  obtain ⟨hs, hi⟩ := h
  refine vals_at (by unfold sgs; rw [List.length_map, Array.length_toList, Array.length_toList, hs]) fun j v u e1 e2 => ?_
  obtain ⟨c, t, hc, rfl⟩ := hi j u (by rw [Array.getElem?_toList] at e2; exact e2)
  unfold sgs at e1
  rw [List.getElem?_map, Array.getElem?_toList, hc] at e1
  cases Option.some.inj e1
  exact ⟨t, rfl⟩
theorem call_tupS (hc : X.calm = true) : CallR X (.type "tuple") rTupS := by
  intro pins s σ H vs us Q I r h
  obtain ⟨x, rfl, hz, q⟩ := h
  obtain ⟨u, rfl, ru⟩ := vals1 r
  obtain ⟨t, rfl⟩ := (show ∃ t, u = Value.str x t from ru)
  refine call_tuple_str (I.ok.hd hc) x t (fun h' tk acc kp hi => ?_) hz
  have hv := sg_vals hi
  have J := I.kept (t' := tk) kp
  refine ⟨.ref h'.objs.size, upd H h'.objs.size (.tup (sgs x)), J.laid (t' := tk) (fun b o e => Heap.get?_push_of_some _ e) (Nat.le_refl _) ⟨by unfold sgs; rw [List.length_map, Array.length_toList]; exact hz, acc.toList, hv, ?_⟩, rfl, q _ (J.hok.fresh (Nat.le_refl _))⟩
  exact ⟨_, Heap.get?_push_size _ rfl, rfl, 0, by simp⟩
theorem call_lstS (hc : X.calm = true) : CallR X (.type "list") rLstS := by
  intro pins s σ H vs us Q I r h
  obtain ⟨x, rfl, hz, q⟩ := h
  obtain ⟨u, rfl, ru⟩ := vals1 r
  obtain ⟨t, rfl⟩ := (show ∃ t, u = Value.str x t from ru)
  refine call_list_str (I.ok.hd hc) x t (hn := hz) fun h' tk acc c kp hS hi => ?_
  have hv := sg_vals hi
  refine ⟨.ref s.heap.objs.size, upd H s.heap.objs.size (.lst (sgs x)), I.laid (t' := tk) kp (Nat.le_refl _) ⟨by unfold sgs; rw [List.length_map, Array.length_toList]; exact hz, acc.toList, c, hv, by simpa using hS⟩, rfl, q _ (I.hok.fresh (Nat.le_refl _)) (Nat.ne_of_gt I.big)⟩
end
end TSt

section
variable {P : Program} {w : World} {K : PySem.W.Frag} {mg : Str → Option Value} {base : Heap}
mutual
theorem Tk.shH {as : List Addr} {H : Hp} {d l : Addr} {n : Int} (D : DA as H d l n) : ∀ {v : V} {dd : PyData}, Tk H v dd → noL dd = true → Sh (hid as H) v dd
  | _, _, .bl b, _ => .bl b
  | _, _, .int i, _ => .int i
  | _, _, .str x, _ => .str x
  | _, _, .lst h t, n => by cases n
  | _, _, .tup h t, n => sh_tup D h (t.shH D n)
theorem TkAll.shH {as : List Addr} {H : Hp} {d l : Addr} {n : Int} (D : DA as H d l n) : ∀ {vs : List V} {ds : List PyData}, TkAll H vs ds → noLs ds = true → ShAll (hid as H) vs ds
  | _, _, .nil, _ => .nil
  | _, _, .cons h t, n => .cons (h.shH D (Bool.and_eq_true_iff.mp n).1) (t.shH D (Bool.and_eq_true_iff.mp n).2)
end

/-! ### numbers shown -/
theorem int_weight {i : Int} {k : Nat} (h : i.natAbs < 2 ^ k) : (PyData.int i).weight ≤ k := by
  show (if i == 0 then 0 else i.natAbs.log2 + 1) ≤ k
  by_cases z : i = 0
  · rw [if_pos (by rw [z]; rfl)]
    exact Nat.zero_le _
  · rw [if_neg (by simpa using z)]
    exact (Nat.log2_lt (by omega)).mpr h
def Lit32 (i : Int) : Prop := -100000000000000000000000000000000 ≤ i ∧ i ≤ 100000000000000000000000000000000
theorem fit_i32 {i : Int} {M : Nat} (h : Lit32 i) : Fit (10 ^ 32) 107 M (.int i) := by
  have e : i.natAbs ≤ 10 ^ 32 := by
    have := h.1
    have := h.2
    omega
  exact ⟨decide_eq_true e, int_weight (Nat.lt_of_le_of_lt e (by decide)), Nat.zero_le _⟩
theorem fit_is32 {M : Nat} : ∀ ts : List Int, (∀ x ∈ ts, Lit32 x) → FitL (10 ^ 32) (108 * ts.length) M (ts.map PyData.int)
  | [], _ => ⟨rfl, Nat.le_refl _, Nat.zero_le _⟩
  | x :: r, h => by
    have a := FitL.one (fit_i32 (M := M) (h x (List.mem_cons_self ..)))
    have b := fit_is32 (M := M) r fun y hy => h y (List.mem_cons_of_mem _ hy)
    have c := a.app b
    exact ⟨c.1, Nat.le_trans c.2.1 (by rw [List.length_cons]; omega), c.2.2⟩
theorem sh_is {H : Hp} : ∀ ts : List Int, ShAll H (ts.map V.int) (ts.map PyData.int)
  | [] => .nil
  | x :: r => .cons (.int x) (sh_is r)
theorem fit_bent {f : Int} {ds : List PyData} {n : Nat} (hf : Lit32 f) (h : FitL (10 ^ 32) n 2 ds) (hn : n ≤ 29000) : Fit (10 ^ 32) 30000 4 (.tuple [.int f, .tuple ds]) := by
  have := (FitL.one (fit_i32 (M := 3) hf)).app (FitL.one (Fit.tup h))
  exact (Fit.tup this).mono (Nat.le_refl _) (by omega) (Nat.le_refl _)
theorem FitL.upN {B n n' m : Nat} {a : List PyData} (h : FitL B n m a) (le : n ≤ n') : FitL B n' m a := ⟨h.1, Nat.le_trans h.2.1 le, h.2.2⟩

/-! ### other things than wishes -/
abbrev B0 : Nat := 10 ^ 39
theorem fit_n {i : Int} {k M : Nat} (h : i.natAbs < 2 ^ k) (hk : k ≤ 8) : Fit B0 k M (.int i) := by
  have : (2 : Nat) ^ k ≤ 2 ^ 8 := Nat.pow_le_pow_right (by decide) hk
  exact ⟨decide_eq_true (Nat.le_trans (show i.natAbs ≤ 256 by omega) (by decide)), int_weight (by omega), Nat.zero_le _⟩
theorem FitL.map {α : Type} {f : α → PyData} {B n M : Nat} : ∀ l : List α, (∀ x ∈ l, Fit B n M (f x)) → FitL B ((n + 1) * l.length) M (l.map f)
  | [], _ => ⟨rfl, Nat.le_refl _, Nat.zero_le _⟩
  | x :: r, h => by
    have a := (FitL.one (h x (List.mem_cons_self ..))).app (FitL.map (f := f) r fun y hy => h y (List.mem_cons_of_mem _ hy))
    exact ⟨a.1, Nat.le_trans a.2.1 (by rw [List.length_cons, Nat.mul_succ]; omega), a.2.2⟩
theorem fit_row4 {r : List Int} (h : Row01' r) (hl : r.length ≤ 4) {M : Nat} : Fit B0 8 (M + 1) (rowD r) := by
  have f := FitL.map (f := PyData.int) (B := B0) (n := 1) (M := M) r fun x hx => by
    rcases h x hx with rfl | rfl
    · exact fit_n (by decide) (by decide)
    · exact fit_n (by decide) (by decide)
  exact (Fit.tup f).mono (Nat.le_refl _) (by omega) (Nat.le_refl _)
theorem fit_pair {a b : PyData} {B n n' M : Nat} (fa : Fit B n M a) (fb : Fit B n' M b) : Fit B (n + n' + 2) (M + 1) (.tuple [a, b]) :=
  (Fit.tup ((FitL.one fa).app (FitL.one fb))).mono (Nat.le_refl _) (by omega) (Nat.le_refl _)
theorem fit3 {a b c : PyData} {B na nb nc M : Nat} (fa : Fit B na M a) (fb : Fit B nb M b) (fc : Fit B nc M c) : Fit B (na + nb + nc + 3) (M + 1) (.tuple [a, b, c]) :=
  (Fit.tup (((FitL.one fa).app (FitL.one fb)).app (FitL.one fc))).mono (Nat.le_refl _) (by omega) (Nat.le_refl _)
theorem fit_tab {bs : List Bool} {N M : Nat} (h : bs.length ≤ N) : Fit B0 N M (.str (tabOf bs)) := by
  refine ⟨List.all_eq_true.mpr fun c hc => decide_eq_true ?_, ?_, Nat.zero_le _⟩
  · have : c ∈ bs.map fun b => if b = true then 49 else 48 := by simpa [tabOf] using hc
    obtain ⟨b, _, rfl⟩ := List.mem_map.mp this
    split <;> decide
  · show (tabOf bs).length ≤ N
    rw [tab_len]
    exact h
theorem fit_lit {x : PySem.Str} {N M : Nat} (h : gd B0 (.str x) = true) (hl : x.length ≤ N) : Fit B0 N M (.str x) := ⟨h, hl, Nat.zero_le _⟩
theorem fit_chs {m : Nat} {cs : List Ch} (m4 : m ≤ 4) (ok : ∀ c ∈ cs, ChOk m c.1 c.2) (l : cs.length ≤ 64) : Fit B0 1216 3 (.tuple (cs.map cD)) := by
  have f := FitL.map (f := cD) (B := B0) (n := 18) (M := 2) cs fun c hc => by
    have o := ok c hc
    exact fit_pair (fit_row4 (M := 0) o.oa (by rw [o.la]; exact m4)) (fit_row4 (M := 0) o.ob (by rw [o.lb]; exact m4))
  exact (Fit.tup f).mono (Nat.le_refl _) (by omega) (Nat.le_refl _)
theorem fit_wish {m : Nat} {bs : List Bool} {cs : List Ch} (ok : WishOk m bs cs) : Fit B0 1300 4 (wishD m bs cs) := by
  have m4 := ok.m4
  have lb : bs.length ≤ 16 := by rw [ok.lb]; exact Nat.le_trans (Nat.pow_le_pow_right (by decide) m4) (by decide)
  exact (fit3 (fit_n (i := (m : Int)) (k := 3) (by show m < 8; omega) (by decide)) (fit_tab lb) (fit_chs m4 ok.oc ok.lc)).mono (Nat.le_refl _) (by decide) (by decide)
theorem sh_rep {H : Hp} {v : V} {d : PyData} (h : Sh H v d) : ∀ k : Nat, ShAll H (List.replicate k [v]).flatten (List.replicate k d)
  | 0 => .nil
  | k + 1 => by
    rw [List.replicate_succ, List.replicate_succ, List.flatten_cons]
    exact .cons h (sh_rep h k)
theorem fit_rep {d : PyData} {B n M : Nat} (h : Fit B n M d) (k : Nat) : FitL B ((n + 1) * k) M (List.replicate k d) := by
  have f := FitL.map (f := fun _ : Unit => d) (B := B) (n := n) (M := M) (List.replicate k ()) fun _ _ => h
  rw [List.map_replicate, List.length_replicate] at f
  exact f
theorem sh_sgs {H : Hp} (x : PySem.Str) : ShAll H (TSt.sgs x) (x.cps.toList.map fun c => PyData.str ⟨#[c]⟩) := by
  unfold TSt.sgs
  induction x.cps.toList with
  | nil => exact .nil
  | cons c r ih => exact .cons (.str _) ih
def sp_odd (K : PySem.W.Frag) : Sp := fun vs H Q _ => ∃ (as : List Addr) (d l wa : Addr) (n : Int) (m : Nat) (bs : List Bool) (cs : List Ch), vs = [.ref d, .ref wa] ∧ DA as H d l n ∧ n < 900000 ∧ Tk H (.ref wa) (wishD m bs cs) ∧ WishOk m bs cs ∧ ∀ v H' dd, DA as H' d l (n + 1) → Fr d l H H' → Sh (hid as H') v dd → Fit B0 2600 6 dd → Q v H'
theorem ok_odd (T : Tx K mg) : FnOk P w K mg base CX0 2 T.f_odd T.fd_odd ["_law_deck_here", "_law_wish_here"] (sp_odd K) := by
  refine T.F_odd.ok sc_odd (fun vs H Q E h => ?_) (fun cdv A outer s H vs Q E hr h => ?_)
  · obtain ⟨as, d, l, wa, n, m, bs, cs, rfl, _⟩ := h
    rfl
  · obtain ⟨as, d, l, wa, n, m, bs, cs, rfl, D, hn, tw, ok, q⟩ := h
    have m1 := ok.m1
    have m4 := ok.m4
    have lb : bs.length ≤ 16 := by rw [ok.lb]; exact Nat.le_trans (Nat.pow_le_pow_right (by decide) m4) (by decide)
    obtain ⟨_, t, xs, e, hw, ht, tx⟩ := tw.wish_inv
    cases e
    refine ⟨_, (pss_cons (ps_asg (pv 1) (pg_tup rfl (pgs_cons (pg_name (i := 2) sc_odd.nd rfl (by first | exact .inl rfl | exact .inr rfl)) (pgs_cons (pg_name (i := 3) sc_odd.nd rfl (by first | exact .inl rfl | exact .inr rfl)) (pgs_cons (pg_name (i := 4) sc_odd.nd rfl (by first | exact .inl rfl | exact .inr rfl)) pgs_nil))))) (pss_cons (ps_set (i := 5) sc_odd.nd rfl (by first | exact .inl rfl | exact .inr rfl) (pe_lst (pa_cons pe_non (pa_cons (pe_tup pa_nil) (pa_cons pe_int (pa_cons pe_str (pa_cons (pe_lstN pa_nil) (pa_cons pe_dnewK (pa_cons (pe_tup (pa_cons (pv 2) (pa_cons (pv 3) pa_nil))) (pa_cons (pe_tup (pa_cons pe_int (pa_cons pe_str (pa_cons (pe_tup pa_nil) pa_nil)))) (pa_cons (pe_tup (pa_cons pe_int (pa_cons (pe_op op_repS pe_str pe_int) (pa_cons (pe_tup pa_nil) pa_nil)))) (pa_cons (pe_tup (pa_cons pe_bl (pa_cons pe_str (pa_cons (pe_tup pa_nil) pa_nil)))) pa_nil)))))))))))) (pss_cons (ps_set (i := 5) sc_odd.nd rfl (by first | exact .inl rfl | exact .inr rfl) (pe_op op_cat (pv 5) (pe_lst (pa_cons (pe_tup (pa_cons (pv 2) (pa_cons (pv 3) (pa_cons (pv 4) (pa_cons (pe_tup pa_nil) pa_nil))))) (pa_cons (pe_tup (pa_cons (pe_op op_add (pv 2) pe_int) (pa_cons (pv 3) (pa_cons (pv 4) pa_nil)))) (pa_cons (pe_tup (pa_cons (pv 2) (pa_cons (pe_op op_add_str (pv 3) (pv 3)) (pa_cons (pv 4) pa_nil)))) (pa_cons (pe_callTy NumZ.call_listN (by rfl) T.m_list (by decide +kernel) (pa_cons (pv 1) pa_nil)) pa_nil))))))) (pss_cons (ps_set (i := 5) sc_odd.nd rfl (by first | exact .inl rfl | exact .inr rfl) (pe_op op_cat (pv 5) (pe_lst (pa_cons (pe_tup (pa_cons (pv 2) (pa_cons (pe_callTy (TSt.call_tupS rfl) (by rfl) T.m_tuple (by decide +kernel) (pa_cons (pv 3) pa_nil)) (pa_cons (pv 4) pa_nil)))) (pa_cons (pe_tup (pa_cons (pv 2) (pa_cons (pv 3) (pa_cons pe_non pa_nil)))) (pa_cons (pe_tup (pa_cons (pv 2) (pa_cons (pv 3) (pa_cons (pe_tup (pa_cons (pe_tup (pa_cons (pe_op op_repT1 (pe_tup (pa_cons pe_int pa_nil)) (pv 2)) pa_nil)) pa_nil)) pa_nil)))) pa_nil)))))) (pss_cons (ps_set (i := 5) sc_odd.nd rfl (by first | exact .inl rfl | exact .inr rfl) (pe_op op_cat (pv 5) (pe_lst (pa_cons (pe_tup (pa_cons (pe_op op_pow pe_int pe_int) (pa_cons pe_str (pa_cons (pe_tup pa_nil) pa_nil)))) (pa_cons (pe_tup (pa_cons (pv 2) (pa_cons pe_str (pa_cons (pe_tup pa_nil) pa_nil)))) (pa_cons (pe_tup (pa_cons pe_int (pa_cons pe_str (pa_cons (pe_tup pa_nil) pa_nil)))) pa_nil)))))) (pss_cons (ps_expr (pe_bm PySem.F.plainAttrs_list PySem.F.slot_list_append PySem.F.type_list_append mt_append (pv 5) (pa_cons (pe_tup (pa_cons (pv 2) (pa_cons (pv 3) (pa_cons (pe_op op_repT1 (pe_tup (pa_cons (pe_tup (pa_cons (pe_op op_repT1 (pe_tup (pa_cons pe_int pa_nil)) (pv 2)) (pa_cons (pe_op op_repT1 (pe_tup (pa_cons pe_int pa_nil)) (pv 2)) pa_nil))) pa_nil)) pe_int) pa_nil)))) pa_nil))) (pss_one (ps_ret (pe_ix ix_list (pv 5) (pe_call (ok_next T) (hr.mono (by decide)) (by rfl) T.g_next T.F_next.kp T.b_next .nil pass0 (pa_cons (pv 0) (pa_cons (pe_callB call_len_seq (by rfl) T.m_len PySem.boot_len (pa_cons (pv 5) pa_nil)) pa_nil))) (fun _ _ => rfl)))))))))), ?_⟩
    refine ⟨.ref wa, rfl, wa, _, rfl, SqT.of hw, rfl, _, _, rfl, _, _, rfl, _, _, rfl, rfl, ?_⟩
    first | (show (_ : L2.St → Hp → Prop) [some (.ref d), some (.ref wa), some (.int m), some (.str (tabOf bs)), some (.ref t), none] H) | (unfold gName; show (_ : L2.St → Hp → Prop) [some (.ref d), some (.ref wa), some (.int m), some (.str (tabOf bs)), some (.ref t), none] H) | (dsimp only; show (_ : L2.St → Hp → Prop) [some (.ref d), some (.ref wa), some (.int m), some (.str (tabOf bs)), some (.ref t), none] H) | (dsimp only [gName]; show (_ : L2.St → Hp → Prop) [some (.ref d), some (.ref wa), some (.int m), some (.str (tabOf bs)), some (.ref t), none] H)
    refine ⟨Nat.zero_le _, fun p2 n2 => ?_⟩
    have s1 := same_upd (o := (HO.tup [])) n2
    have h2 : upd H p2 (HO.tup []) p2 = some (HO.tup []) := upd_same
    generalize upd H p2 (HO.tup []) = H1 at s1 h2 ⊢
    refine ⟨Nat.zero_le _, fun p5 n5 m5 => ?_⟩
    have u5 := (D.same s1).out n5
    have s2 := same_upd (o := (HO.lst [])) n5
    have h5 : upd H1 p5 (HO.lst []) p5 = some (HO.lst []) := upd_same
    generalize upd H1 p5 (HO.lst []) = H2 at s2 h5 ⊢
    refine fun p6 n6 => ?_
    have u6 := ((D.same s1).same s2).out n6
    have s3 := same_upd (o := (HO.dK [])) n6
    have h6 : upd H2 p6 (HO.dK []) p6 = some (HO.dK []) := upd_same
    generalize upd H2 p6 (HO.dK []) = H3 at s3 h6 ⊢
    refine ⟨.int m, rfl, .str (tabOf bs), rfl, sl2, fun p7 n7 => ?_⟩
    have s4 := same_upd (o := (HO.tup [.int m, .str (tabOf bs)])) n7
    have h7 : upd H3 p7 (HO.tup [.int m, .str (tabOf bs)]) p7 = some (HO.tup [.int m, .str (tabOf bs)]) := upd_same
    generalize upd H3 p7 (HO.tup [.int m, .str (tabOf bs)]) = H4 at s4 h7 ⊢
    refine ⟨Nat.zero_le _, fun e8 ne8 => ?_⟩
    have s5 := same_upd (o := (HO.tup [])) ne8
    have k8 : upd H4 e8 (HO.tup []) e8 = some (HO.tup []) := upd_same
    generalize upd H4 e8 (HO.tup []) = H5 at s5 k8 ⊢
    refine ⟨sl3, fun p8 n8 => ?_⟩
    have s6 := same_upd (o := (HO.tup [.int 0, .str (Str.ofString "1"), .ref e8])) n8
    have h8 : upd H5 p8 (HO.tup [.int 0, .str (Str.ofString "1"), .ref e8]) p8 = some (HO.tup [.int 0, .str (Str.ofString "1"), .ref e8]) := upd_same
    generalize upd H5 p8 (HO.tup [.int 0, .str (Str.ofString "1"), .ref e8]) = H6 at s6 h8 ⊢
    refine ⟨Str.ofString "01", 16, rfl, rfl, by decide +kernel, by decide, by decide, Nat.zero_le _, fun e9 ne9 => ?_⟩
    have s7 := same_upd (o := (HO.tup [])) ne9
    have k9 : upd H6 e9 (HO.tup []) e9 = some (HO.tup []) := upd_same
    generalize upd H6 e9 (HO.tup []) = H7 at s7 k9 ⊢
    refine ⟨sl3, fun p9 n9 => ?_⟩
    have s8 := same_upd (o := (HO.tup [.int 5, .str (Txt.mul (Str.ofString "01") 16), .ref e9])) n9
    have h9 : upd H7 p9 (HO.tup [.int 5, .str (Txt.mul (Str.ofString "01") 16), .ref e9]) p9 = some (HO.tup [.int 5, .str (Txt.mul (Str.ofString "01") 16), .ref e9]) := upd_same
    generalize upd H7 p9 (HO.tup [.int 5, .str (Txt.mul (Str.ofString "01") 16), .ref e9]) = H8 at s8 h9 ⊢
    refine ⟨Nat.zero_le _, fun e10 ne10 => ?_⟩
    have s9 := same_upd (o := (HO.tup [])) ne10
    have k10 : upd H8 e10 (HO.tup []) e10 = some (HO.tup []) := upd_same
    generalize upd H8 e10 (HO.tup []) = H9 at s9 k10 ⊢
    refine ⟨sl3, fun p10 n10 => ?_⟩
    have s10 := same_upd (o := (HO.tup [.bl true, .str (Str.ofString "01"), .ref e10])) n10
    have h10 : upd H9 p10 (HO.tup [.bl true, .str (Str.ofString "01"), .ref e10]) p10 = some (HO.tup [.bl true, .str (Str.ofString "01"), .ref e10]) := upd_same
    generalize upd H9 p10 (HO.tup [.bl true, .str (Str.ofString "01"), .ref e10]) = H10 at s10 h10 ⊢
    refine ⟨show 10 ≤ sizeLine by decide, fun l1 nl1 => ?_⟩
    have a1 := same_upd (o := (HO.lst [.non, .ref p2, .int 3, .str (Str.ofString "wish"), .ref p5, .ref p6, .ref p7, .ref p8, .ref p9, .ref p10])) nl1
    have g1 : upd H10 l1 (HO.lst [.non, .ref p2, .int 3, .str (Str.ofString "wish"), .ref p5, .ref p6, .ref p7, .ref p8, .ref p9, .ref p10]) l1 = some (HO.lst [.non, .ref p2, .int 3, .str (Str.ofString "wish"), .ref p5, .ref p6, .ref p7, .ref p8, .ref p9, .ref p10]) := upd_same
    generalize upd H10 l1 (HO.lst [.non, .ref p2, .int 3, .str (Str.ofString "wish"), .ref p5, .ref p6, .ref p7, .ref p8, .ref p9, .ref p10]) = A1 at a1 g1 ⊢
    have z1 : Same H A1 := (((s1.trans s2).trans (s3.trans s4)).trans ((s5.trans s6).trans (s7.trans s8))).trans ((s9.trans s10).trans a1)
    first | (show (_ : L2.St → Hp → Prop) [some (.ref d), some (.ref wa), some (.int m), some (.str (tabOf bs)), some (.ref t), some (.ref l1)] A1) | (unfold gName; show (_ : L2.St → Hp → Prop) [some (.ref d), some (.ref wa), some (.int m), some (.str (tabOf bs)), some (.ref t), some (.ref l1)] A1) | (dsimp only; show (_ : L2.St → Hp → Prop) [some (.ref d), some (.ref wa), some (.int m), some (.str (tabOf bs)), some (.ref t), some (.ref l1)] A1) | (dsimp only [gName]; show (_ : L2.St → Hp → Prop) [some (.ref d), some (.ref wa), some (.int m), some (.str (tabOf bs)), some (.ref t), some (.ref l1)] A1)
    refine ⟨.ref l1, rfl, .int m, rfl, .str (tabOf bs), rfl, .ref t, rfl, Nat.zero_le _, fun e11 ne11 => ?_⟩
    have a2 := same_upd (o := (HO.tup [])) ne11
    have k11 : upd A1 e11 (HO.tup []) e11 = some (HO.tup []) := upd_same
    generalize upd A1 e11 (HO.tup []) = A2 at a2 k11 ⊢
    refine ⟨sl4, fun p11 n11 => ?_⟩
    have a3 := same_upd (o := (HO.tup [.int m, .str (tabOf bs), .ref t, .ref e11])) n11
    have h11 : upd A2 p11 (HO.tup [.int m, .str (tabOf bs), .ref t, .ref e11]) p11 = some (HO.tup [.int m, .str (tabOf bs), .ref t, .ref e11]) := upd_same
    generalize upd A2 p11 (HO.tup [.int m, .str (tabOf bs), .ref t, .ref e11]) = A3 at a3 h11 ⊢
    refine ⟨.int m, rfl, _, _, rfl, rfl, .str (tabOf bs), rfl, .ref t, rfl, sl3, fun p12 n12 => ?_⟩
    have a4 := same_upd (o := (HO.tup [.int ((m : Int) + 1), .str (tabOf bs), .ref t])) n12
    have h12 : upd A3 p12 (HO.tup [.int ((m : Int) + 1), .str (tabOf bs), .ref t]) p12 = some (HO.tup [.int ((m : Int) + 1), .str (tabOf bs), .ref t]) := upd_same
    generalize upd A3 p12 (HO.tup [.int ((m : Int) + 1), .str (tabOf bs), .ref t]) = A4 at a4 h12 ⊢
    refine ⟨.int m, rfl, .str (tabOf bs), rfl, .str (tabOf bs), rfl, _, _, rfl, rfl, ?_, .ref t, rfl, sl3, fun p13 n13 => ?_⟩
    · rw [tab_len]
      exact Nat.le_trans (show bs.length + bs.length ≤ 64 by omega) (by decide)
    rw [show tabOf bs ++ tabOf bs = tabOf (bs ++ bs) from by show (⟨_ ++ _⟩ : PySem.Str) = ⟨_⟩; congr 1; simp [tabOf]]
    have a5 := same_upd (o := (HO.tup [.int m, .str (tabOf (bs ++ bs)), .ref t])) n13
    have h13 : upd A4 p13 (HO.tup [.int m, .str (tabOf (bs ++ bs)), .ref t]) p13 = some (HO.tup [.int m, .str (tabOf (bs ++ bs)), .ref t]) := upd_same
    generalize upd A4 p13 (HO.tup [.int m, .str (tabOf (bs ++ bs)), .ref t]) = A5 at a5 h13 ⊢
    have z5 := z1.trans ((a2.trans a3).trans (a4.trans a5))
    refine ⟨.ref wa, rfl, wa, _, rfl, SqT.of (z5 _ _ hw), fun p14 n14 m14 => ?_⟩
    have u14 := (D.same z5).out n14
    have a6 := same_upd (o := (HO.lst [.int m, .str (tabOf bs), .ref t])) n14
    have h14 : upd A5 p14 (HO.lst [.int m, .str (tabOf bs), .ref t]) p14 = some (HO.lst [.int m, .str (tabOf bs), .ref t]) := upd_same
    generalize upd A5 p14 (HO.lst [.int m, .str (tabOf bs), .ref t]) = A6 at a6 h14 ⊢
    refine ⟨sl4, fun l2 nl2 => ?_⟩
    have a7 := same_upd (o := (HO.lst [.ref p11, .ref p12, .ref p13, .ref p14])) nl2
    have g2 : upd A6 l2 (HO.lst [.ref p11, .ref p12, .ref p13, .ref p14]) l2 = some (HO.lst [.ref p11, .ref p12, .ref p13, .ref p14]) := upd_same
    generalize upd A6 l2 (HO.lst [.ref p11, .ref p12, .ref p13, .ref p14]) = A7 at a7 g2 ⊢
    have w1 : Same A1 A7 := ((a2.trans a3).trans (a4.trans a5)).trans (a6.trans a7)
    refine ⟨l1, l2, _, _, rfl, rfl, w1 _ _ g1, g2, show 14 ≤ sizeLine by decide, fun l3 nl3 => ?_⟩
    have b1 := same_upd (o := (HO.lst ([V.non, .ref p2, .int 3, .str (Str.ofString "wish"), .ref p5, .ref p6, .ref p7, .ref p8, .ref p9, .ref p10] ++ [V.ref p11, .ref p12, .ref p13, .ref p14]))) nl3
    have g3 : upd A7 l3 (HO.lst ([V.non, .ref p2, .int 3, .str (Str.ofString "wish"), .ref p5, .ref p6, .ref p7, .ref p8, .ref p9, .ref p10] ++ [V.ref p11, .ref p12, .ref p13, .ref p14])) l3 = some (HO.lst ([V.non, .ref p2, .int 3, .str (Str.ofString "wish"), .ref p5, .ref p6, .ref p7, .ref p8, .ref p9, .ref p10] ++ [V.ref p11, .ref p12, .ref p13, .ref p14])) := upd_same
    generalize upd A7 l3 (HO.lst ([V.non, .ref p2, .int 3, .str (Str.ofString "wish"), .ref p5, .ref p6, .ref p7, .ref p8, .ref p9, .ref p10] ++ [V.ref p11, .ref p12, .ref p13, .ref p14])) = B1 at b1 g3 ⊢
    have zB := z1.trans (w1.trans b1)
    first | (show (_ : L2.St → Hp → Prop) [some (.ref d), some (.ref wa), some (.int m), some (.str (tabOf bs)), some (.ref t), some (.ref l3)] B1) | (unfold gName; show (_ : L2.St → Hp → Prop) [some (.ref d), some (.ref wa), some (.int m), some (.str (tabOf bs)), some (.ref t), some (.ref l3)] B1) | (dsimp only; show (_ : L2.St → Hp → Prop) [some (.ref d), some (.ref wa), some (.int m), some (.str (tabOf bs)), some (.ref t), some (.ref l3)] B1) | (dsimp only [gName]; show (_ : L2.St → Hp → Prop) [some (.ref d), some (.ref wa), some (.int m), some (.str (tabOf bs)), some (.ref t), some (.ref l3)] B1)
    refine ⟨.ref l3, rfl, .int m, rfl, .str (tabOf bs), rfl, tabOf bs, rfl, ?_, fun e15 ne15 => ?_⟩
    · rw [tab_len]
      exact Nat.le_trans lb (by decide)
    have b2 := same_upd (o := (HO.tup (TSt.sgs (tabOf bs)))) ne15
    have k15 : upd B1 e15 (HO.tup (TSt.sgs (tabOf bs))) e15 = some (HO.tup (TSt.sgs (tabOf bs))) := upd_same
    generalize upd B1 e15 (HO.tup (TSt.sgs (tabOf bs))) = B2 at b2 k15 ⊢
    refine ⟨.ref t, rfl, sl3, fun p15 n15 => ?_⟩
    have b3 := same_upd (o := (HO.tup [.int m, .ref e15, .ref t])) n15
    have h15 : upd B2 p15 (HO.tup [.int m, .ref e15, .ref t]) p15 = some (HO.tup [.int m, .ref e15, .ref t]) := upd_same
    generalize upd B2 p15 (HO.tup [.int m, .ref e15, .ref t]) = B3 at b3 h15 ⊢
    refine ⟨.int m, rfl, .str (tabOf bs), rfl, sl3, fun p16 n16 => ?_⟩
    have b4 := same_upd (o := (HO.tup [.int m, .str (tabOf bs), .non])) n16
    have h16 : upd B3 p16 (HO.tup [.int m, .str (tabOf bs), .non]) p16 = some (HO.tup [.int m, .str (tabOf bs), .non]) := upd_same
    generalize upd B3 p16 (HO.tup [.int m, .str (tabOf bs), .non]) = B4 at b4 h16 ⊢
    refine ⟨.int m, rfl, .str (tabOf bs), rfl, sl1, fun e17 ne17 => ?_⟩
    have b5 := same_upd (o := (HO.tup [.int 0])) ne17
    have k17 : upd B4 e17 (HO.tup [.int 0]) e17 = some (HO.tup [.int 0]) := upd_same
    generalize upd B4 e17 (HO.tup [.int 0]) = B5 at b5 k17 ⊢
    refine ⟨.int m, rfl, repA k17 (by simp) (by omega) (by omega) (show 1 ≤ 1000 by decide) fun f17 B6 b6 kk17 => ?_⟩
    refine ⟨sl1, fun i17 ni17 => ?_⟩
    have b7 := same_upd (o := (HO.tup [.ref f17])) ni17
    have j17 : upd B6 i17 (HO.tup [.ref f17]) i17 = some (HO.tup [.ref f17]) := upd_same
    generalize upd B6 i17 (HO.tup [.ref f17]) = B7 at b7 j17 ⊢
    refine ⟨sl1, fun j' nj => ?_⟩
    have b8 := same_upd (o := (HO.tup [.ref i17])) nj
    have jj17 : upd B7 j' (HO.tup [.ref i17]) j' = some (HO.tup [.ref i17]) := upd_same
    generalize upd B7 j' (HO.tup [.ref i17]) = B8 at b8 jj17 ⊢
    refine ⟨sl3, fun p17 n17 => ?_⟩
    have b9 := same_upd (o := (HO.tup [.int m, .str (tabOf bs), .ref j'])) n17
    have h17 : upd B8 p17 (HO.tup [.int m, .str (tabOf bs), .ref j']) p17 = some (HO.tup [.int m, .str (tabOf bs), .ref j']) := upd_same
    generalize upd B8 p17 (HO.tup [.int m, .str (tabOf bs), .ref j']) = B9 at b9 h17 ⊢
    refine ⟨sl3, fun l4 nl4 => ?_⟩
    have b10 := same_upd (o := (HO.lst [.ref p15, .ref p16, .ref p17])) nl4
    have g4 : upd B9 l4 (HO.lst [.ref p15, .ref p16, .ref p17]) l4 = some (HO.lst [.ref p15, .ref p16, .ref p17]) := upd_same
    generalize upd B9 l4 (HO.lst [.ref p15, .ref p16, .ref p17]) = B10 at b10 g4 ⊢
    have w2 : Same B1 B10 := ((b2.trans b3).trans (b4.trans b5)).trans (((b6.trans b7).trans (b8.trans b9)).trans b10)
    refine ⟨l3, l4, _, _, rfl, rfl, w2 _ _ g3, g4, show 17 ≤ sizeLine by decide, fun l5 nl5 => ?_⟩
    have c1 := same_upd (o := (HO.lst (([V.non, .ref p2, .int 3, .str (Str.ofString "wish"), .ref p5, .ref p6, .ref p7, .ref p8, .ref p9, .ref p10] ++ [V.ref p11, .ref p12, .ref p13, .ref p14]) ++ [V.ref p15, .ref p16, .ref p17]))) nl5
    have g5 : upd B10 l5 (HO.lst (([V.non, .ref p2, .int 3, .str (Str.ofString "wish"), .ref p5, .ref p6, .ref p7, .ref p8, .ref p9, .ref p10] ++ [V.ref p11, .ref p12, .ref p13, .ref p14]) ++ [V.ref p15, .ref p16, .ref p17])) l5 = some (HO.lst (([V.non, .ref p2, .int 3, .str (Str.ofString "wish"), .ref p5, .ref p6, .ref p7, .ref p8, .ref p9, .ref p10] ++ [V.ref p11, .ref p12, .ref p13, .ref p14]) ++ [V.ref p15, .ref p16, .ref p17])) := upd_same
    generalize upd B10 l5 (HO.lst (([V.non, .ref p2, .int 3, .str (Str.ofString "wish"), .ref p5, .ref p6, .ref p7, .ref p8, .ref p9, .ref p10] ++ [V.ref p11, .ref p12, .ref p13, .ref p14]) ++ [V.ref p15, .ref p16, .ref p17])) = C1 at c1 g5 ⊢
    have zC := zB.trans (w2.trans c1)
    first | (show (_ : L2.St → Hp → Prop) [some (.ref d), some (.ref wa), some (.int m), some (.str (tabOf bs)), some (.ref t), some (.ref l5)] C1) | (unfold gName; show (_ : L2.St → Hp → Prop) [some (.ref d), some (.ref wa), some (.int m), some (.str (tabOf bs)), some (.ref t), some (.ref l5)] C1) | (dsimp only; show (_ : L2.St → Hp → Prop) [some (.ref d), some (.ref wa), some (.int m), some (.str (tabOf bs)), some (.ref t), some (.ref l5)] C1) | (dsimp only [gName]; show (_ : L2.St → Hp → Prop) [some (.ref d), some (.ref wa), some (.int m), some (.str (tabOf bs)), some (.ref t), some (.ref l5)] C1)
    refine ⟨.ref l5, rfl, _, _, rfl, rfl, ⟨by decide, by decide, by decide⟩, Nat.zero_le _, fun e18 ne18 => ?_⟩
    have c2 := same_upd (o := (HO.tup [])) ne18
    have k18 : upd C1 e18 (HO.tup []) e18 = some (HO.tup []) := upd_same
    generalize upd C1 e18 (HO.tup []) = C2 at c2 k18 ⊢
    refine ⟨sl3, fun p18 n18 => ?_⟩
    have c3 := same_upd (o := (HO.tup [(fun i j : Int => V.int (i ^ j.toNat)) 10 39, V.str (Str.ofString "01"), V.ref e18])) n18
    have h18 : upd C2 p18 (HO.tup [(fun i j : Int => V.int (i ^ j.toNat)) 10 39, V.str (Str.ofString "01"), V.ref e18]) p18 = some (HO.tup [(fun i j : Int => V.int (i ^ j.toNat)) 10 39, V.str (Str.ofString "01"), V.ref e18]) := upd_same
    generalize upd C2 p18 (HO.tup [(fun i j : Int => V.int (i ^ j.toNat)) 10 39, V.str (Str.ofString "01"), V.ref e18]) = C3 at c3 h18 ⊢
    replace h18 : C3 p18 = some (.tup [.int (10 ^ 39), .str (Str.ofString "01"), .ref e18]) := h18
    refine ⟨.int m, rfl, Nat.zero_le _, fun e19 ne19 => ?_⟩
    have c4 := same_upd (o := (HO.tup [])) ne19
    have k19 : upd C3 e19 (HO.tup []) e19 = some (HO.tup []) := upd_same
    generalize upd C3 e19 (HO.tup []) = C4 at c4 k19 ⊢
    refine ⟨sl3, fun p19 n19 => ?_⟩
    have c5 := same_upd (o := (HO.tup [.int m, .str (Str.ofString ""), .ref e19])) n19
    have h19 : upd C4 p19 (HO.tup [.int m, .str (Str.ofString ""), .ref e19]) p19 = some (HO.tup [.int m, .str (Str.ofString ""), .ref e19]) := upd_same
    generalize upd C4 p19 (HO.tup [.int m, .str (Str.ofString ""), .ref e19]) = C5 at c5 h19 ⊢
    refine ⟨Nat.zero_le _, fun e20 ne20 => ?_⟩
    have c6 := same_upd (o := (HO.tup [])) ne20
    have k20 : upd C5 e20 (HO.tup []) e20 = some (HO.tup []) := upd_same
    generalize upd C5 e20 (HO.tup []) = C6 at c6 k20 ⊢
    refine ⟨sl3, fun p20 n20 => ?_⟩
    have c7 := same_upd (o := (HO.tup [.int 1, .str (Str.ofString "01"), .ref e20])) n20
    have h20 : upd C6 p20 (HO.tup [.int 1, .str (Str.ofString "01"), .ref e20]) p20 = some (HO.tup [.int 1, .str (Str.ofString "01"), .ref e20]) := upd_same
    generalize upd C6 p20 (HO.tup [.int 1, .str (Str.ofString "01"), .ref e20]) = C7 at c7 h20 ⊢
    refine ⟨sl3, fun l6 nl6 => ?_⟩
    have c8 := same_upd (o := (HO.lst [.ref p18, .ref p19, .ref p20])) nl6
    have g6 : upd C7 l6 (HO.lst [.ref p18, .ref p19, .ref p20]) l6 = some (HO.lst [.ref p18, .ref p19, .ref p20]) := upd_same
    generalize upd C7 l6 (HO.lst [.ref p18, .ref p19, .ref p20]) = C8 at c8 g6 ⊢
    have w3 : Same C1 C8 := ((c2.trans c3).trans (c4.trans c5)).trans ((c6.trans c7).trans c8)
    refine ⟨l5, l6, _, _, rfl, rfl, w3 _ _ g5, g6, show 20 ≤ sizeLine by decide, fun l7 nl7 => ?_⟩
    have oL := (D.same (zC.trans w3)).off nl7
    have nL0 : H l7 = none := by
      cases z : H l7 with
      | none => rfl
      | some o => rw [(zC.trans w3) _ _ z] at nl7; cases nl7
    have d1 := same_upd (o := (HO.lst ((([V.non, .ref p2, .int 3, .str (Str.ofString "wish"), .ref p5, .ref p6, .ref p7, .ref p8, .ref p9, .ref p10] ++ [V.ref p11, .ref p12, .ref p13, .ref p14]) ++ [V.ref p15, .ref p16, .ref p17]) ++ [V.ref p18, .ref p19, .ref p20]))) nl7
    have g7 : upd C8 l7 (HO.lst ((([V.non, .ref p2, .int 3, .str (Str.ofString "wish"), .ref p5, .ref p6, .ref p7, .ref p8, .ref p9, .ref p10] ++ [V.ref p11, .ref p12, .ref p13, .ref p14]) ++ [V.ref p15, .ref p16, .ref p17]) ++ [V.ref p18, .ref p19, .ref p20])) l7 = some (HO.lst ((([V.non, .ref p2, .int 3, .str (Str.ofString "wish"), .ref p5, .ref p6, .ref p7, .ref p8, .ref p9, .ref p10] ++ [V.ref p11, .ref p12, .ref p13, .ref p14]) ++ [V.ref p15, .ref p16, .ref p17]) ++ [V.ref p18, .ref p19, .ref p20])) := upd_same
    generalize upd C8 l7 (HO.lst ((([V.non, .ref p2, .int 3, .str (Str.ofString "wish"), .ref p5, .ref p6, .ref p7, .ref p8, .ref p9, .ref p10] ++ [V.ref p11, .ref p12, .ref p13, .ref p14]) ++ [V.ref p15, .ref p16, .ref p17]) ++ [V.ref p18, .ref p19, .ref p20])) = D1 at d1 g7 ⊢
    have zD := zC.trans (w3.trans d1)
    first | (show (_ : L2.St → Hp → Prop) [some (.ref d), some (.ref wa), some (.int m), some (.str (tabOf bs)), some (.ref t), some (.ref l7)] D1) | (unfold gName; show (_ : L2.St → Hp → Prop) [some (.ref d), some (.ref wa), some (.int m), some (.str (tabOf bs)), some (.ref t), some (.ref l7)] D1) | (dsimp only; show (_ : L2.St → Hp → Prop) [some (.ref d), some (.ref wa), some (.int m), some (.str (tabOf bs)), some (.ref t), some (.ref l7)] D1) | (dsimp only [gName]; show (_ : L2.St → Hp → Prop) [some (.ref d), some (.ref wa), some (.int m), some (.str (tabOf bs)), some (.ref t), some (.ref l7)] D1)
    refine ⟨.ref l7, rfl, .inl ⟨rfl, _, SqL.of g7⟩, .int m, rfl, .str (tabOf bs), rfl, sl1, fun e21 ne21 => ?_⟩
    have d2 := same_upd (o := (HO.tup [.int 0])) ne21
    have k21 : upd D1 e21 (HO.tup [.int 0]) e21 = some (HO.tup [.int 0]) := upd_same
    generalize upd D1 e21 (HO.tup [.int 0]) = D2 at d2 k21 ⊢
    refine ⟨.int m, rfl, repA k21 (by simp) (by omega) (by omega) (show 1 ≤ 1000 by decide) fun f21 D3 d3 kk21 => ?_⟩
    refine ⟨sl1, fun e22 ne22 => ?_⟩
    have d4 := same_upd (o := (HO.tup [.int 1])) ne22
    have k22 : upd D3 e22 (HO.tup [.int 1]) e22 = some (HO.tup [.int 1]) := upd_same
    generalize upd D3 e22 (HO.tup [.int 1]) = D4 at d4 k22 ⊢
    refine ⟨.int m, rfl, repA k22 (by simp) (by omega) (by omega) (show 1 ≤ 1000 by decide) fun f22 D5 d5 kk22 => ?_⟩
    refine ⟨sl2, fun q21 nq21 => ?_⟩
    have d6 := same_upd (o := (HO.tup [.ref f21, .ref f22])) nq21
    have r21 : upd D5 q21 (HO.tup [.ref f21, .ref f22]) q21 = some (HO.tup [.ref f21, .ref f22]) := upd_same
    generalize upd D5 q21 (HO.tup [.ref f21, .ref f22]) = D6 at d6 r21 ⊢
    refine ⟨sl1, fun q22 nq22 => ?_⟩
    have d7 := same_upd (o := (HO.tup [.ref q21])) nq22
    have r22 : upd D6 q22 (HO.tup [.ref q21]) q22 = some (HO.tup [.ref q21]) := upd_same
    generalize upd D6 q22 (HO.tup [.ref q21]) = D7 at d7 r22 ⊢
    dsimp only [tC]
    refine repA (k := 65) r22 (by simp) (by decide) (by decide) (show 1 ≤ 1000 by decide) fun q23 D8 d8 r23 => ?_
    refine ⟨sl3, fun p21 n21 => ?_⟩
    have d9 := same_upd (o := (HO.tup [.int m, .str (tabOf bs), .ref q23])) n21
    have h21 : upd D8 p21 (HO.tup [.int m, .str (tabOf bs), .ref q23]) p21 = some (HO.tup [.int m, .str (tabOf bs), .ref q23]) := upd_same
    generalize upd D8 p21 (HO.tup [.int m, .str (tabOf bs), .ref q23]) = D9 at d9 h21 ⊢
    have w4 : Same D1 D9 := ((d2.trans d3).trans (d4.trans d5)).trans ((d6.trans d7).trans (d8.trans d9))
    refine ⟨l7, _, _, rfl, rfl, w4 _ _ g7, show 20 < sizeLine by decide, ?_⟩
    obtain ⟨F, eF⟩ : ∃ F, F = upd D9 l7 (.lst (((([V.non, .ref p2, .int 3, .str (Str.ofString "wish"), .ref p5, .ref p6, .ref p7, .ref p8, .ref p9, .ref p10] ++ [V.ref p11, .ref p12, .ref p13, .ref p14]) ++ [V.ref p15, .ref p16, .ref p17]) ++ [V.ref p18, .ref p19, .ref p20]) ++ [V.ref p21])) := ⟨_, rfl⟩
    have gF : F l7 = some (.lst (((([V.non, .ref p2, .int 3, .str (Str.ofString "wish"), .ref p5, .ref p6, .ref p7, .ref p8, .ref p9, .ref p10] ++ [V.ref p11, .ref p12, .ref p13, .ref p14]) ++ [V.ref p15, .ref p16, .ref p17]) ++ [V.ref p18, .ref p19, .ref p20]) ++ [V.ref p21])) := by rw [eF]; exact upd_same
    have lst9 := w4 _ _ g7
    have oT : ∀ {b : Addr} {ys : List V}, D9 b = some (.tup ys) → F b = some (.tup ys) := fun {b ys} e => by
      rw [eF, upd_ne (ne_of e lst9 (by intro z; cases z))]
      exact e
    have sC8 : Same C8 F := fun b o e => by
      rw [eF, upd_ne (ne_of_none e nl7)]
      exact (d1.trans w4) _ _ e
    have eC8 : Same C8 F := sC8
    have eC7 : Same C7 F := c8.trans eC8
    have eC6 : Same C6 F := c7.trans eC7
    have eC5 : Same C5 F := c6.trans eC6
    have eC4 : Same C4 F := c5.trans eC5
    have eC3 : Same C3 F := c4.trans eC4
    have eC2 : Same C2 F := c3.trans eC3
    have eC1 : Same C1 F := c2.trans eC2
    have eB10 : Same B10 F := c1.trans eC1
    have eB9 : Same B9 F := b10.trans eB10
    have eB8 : Same B8 F := b9.trans eB9
    have eB7 : Same B7 F := b8.trans eB8
    have eB6 : Same B6 F := b7.trans eB7
    have eB5 : Same B5 F := b6.trans eB6
    have eB4 : Same B4 F := b5.trans eB5
    have eB3 : Same B3 F := b4.trans eB4
    have eB2 : Same B2 F := b3.trans eB3
    have eB1 : Same B1 F := b2.trans eB2
    have eA7 : Same A7 F := b1.trans eB1
    have eA6 : Same A6 F := a7.trans eA7
    have eA5 : Same A5 F := a6.trans eA6
    have eA4 : Same A4 F := a5.trans eA5
    have eA3 : Same A3 F := a4.trans eA4
    have eA2 : Same A2 F := a3.trans eA3
    have eA1 : Same A1 F := a2.trans eA2
    have eH10 : Same H10 F := a1.trans eA1
    have eH9 : Same H9 F := s10.trans eH10
    have eH8 : Same H8 F := s9.trans eH9
    have eH7 : Same H7 F := s8.trans eH8
    have eH6 : Same H6 F := s7.trans eH7
    have eH5 : Same H5 F := s6.trans eH6
    have eH4 : Same H4 F := s5.trans eH5
    have eH3 : Same H3 F := s4.trans eH4
    have eH2 : Same H2 F := s3.trans eH3
    have eH1 : Same H1 F := s2.trans eH2
    have eH : Same H F := s1.trans eH1
    have DF : DA as F d l n := by
      refine (D.same (zC.trans w3)).same sC8
    have frF : Fr d l H F := Fr.of eH
    have tup : ∀ {p : Addr} {ys : List V} {es : List PyData}, F p = some (.tup ys) → ShAll (hid as F) ys es → Sh (hid as F) (.ref p) (.tuple es) := fun e s => sh_tup DF e s
    have nil : ∀ {p : Addr}, F p = some (.tup []) → Sh (hid as F) (.ref p) (.tuple []) := fun e => sh_tup DF e .nil
    have sC : Sh (hid as F) (.ref t) (.tuple (cs.map cD)) := sh_tup DF (eH _ _ ht) ((tx.same eH).shH DF (noL_chs cs))
    have em : ((m : Int)).toNat = m := rfl
    rw [em] at kk17 kk21 kk22
    have all : ShAll (hid as F) [V.non, .ref p2, .int 3, .str (Str.ofString "wish"), .ref p5, .ref p6, .ref p7, .ref p8, .ref p9, .ref p10, .ref p11, .ref p12, .ref p13, .ref p14, .ref p15, .ref p16, .ref p17, .ref p18, .ref p19, .ref p20, .ref p21] [PyData.none, .tuple [], .int 3, .str (Str.ofString "wish"), .list [], .dict [], .tuple [.int m, .str (tabOf bs)], .tuple [.int 0, .str (Str.ofString "1"), .tuple []], .tuple [.int 5, .str (Txt.mul (Str.ofString "01") 16), .tuple []], .tuple [.bool true, .str (Str.ofString "01"), .tuple []], .tuple [.int m, .str (tabOf bs), .tuple (cs.map cD), .tuple []], .tuple [.int ((m : Int) + 1), .str (tabOf bs), .tuple (cs.map cD)], .tuple [.int m, .str (tabOf (bs ++ bs)), .tuple (cs.map cD)], .list [.int m, .str (tabOf bs), .tuple (cs.map cD)], .tuple [.int m, .tuple ((tabOf bs).cps.toList.map fun c => PyData.str ⟨#[c]⟩), .tuple (cs.map cD)], .tuple [.int m, .str (tabOf bs), .none], .tuple [.int m, .str (tabOf bs), .tuple [.tuple [.tuple (List.replicate m (.int 0))]]], .tuple [.int (10 ^ 39), .str (Str.ofString "01"), .tuple []], .tuple [.int m, .str (Str.ofString ""), .tuple []], .tuple [.int 1, .str (Str.ofString "01"), .tuple []], .tuple [.int m, .str (tabOf bs), .tuple (List.replicate 65 (.tuple [.tuple (List.replicate m (.int 0)), .tuple (List.replicate m (.int 1))]))]] := (.cons (.non) (.cons (nil (eH1 _ _ h2)) (.cons (.int 3) (.cons (.str _) (.cons (.lst (by rw [hid_at u5]; exact eH2 _ _ h5) m5 .nil) (.cons (.dic (kvs := []) (by rw [hid_at u6]; exact eH3 _ _ h6) .nil) (.cons (tup (eH4 _ _ h7) (.cons (.int _) (.cons (.str _) .nil))) (.cons (tup (eH6 _ _ h8) (.cons (.int _) (.cons (.str _) (.cons (nil (eH5 _ _ k8)) .nil)))) (.cons (tup (eH8 _ _ h9) (.cons (.int _) (.cons (.str _) (.cons (nil (eH7 _ _ k9)) .nil)))) (.cons (tup (eH10 _ _ h10) (.cons (.bl _) (.cons (.str _) (.cons (nil (eH9 _ _ k10)) .nil)))) (.cons (tup (eA3 _ _ h11) (.cons (.int _) (.cons (.str _) (.cons sC (.cons (nil (eA2 _ _ k11)) .nil))))) (.cons (tup (eA4 _ _ h12) (.cons (.int _) (.cons (.str _) (.cons sC .nil)))) (.cons (tup (eA5 _ _ h13) (.cons (.int _) (.cons (.str _) (.cons sC .nil)))) (.cons (.lst (by rw [hid_at u14]; exact eA6 _ _ h14) m14 (.cons (.int _) (.cons (.str _) (.cons sC .nil)))) (.cons (tup (eB3 _ _ h15) (.cons (.int _) (.cons (tup (eB2 _ _ k15) (sh_sgs _)) (.cons sC .nil)))) (.cons (tup (eB4 _ _ h16) (.cons (.int _) (.cons (.str _) (.cons .non .nil)))) (.cons (tup (eB9 _ _ h17) (.cons (.int _) (.cons (.str _) (.cons (tup (eB8 _ _ jj17) (.cons (tup (eB7 _ _ j17) (.cons (tup (eB6 _ _ kk17) (sh_rep (.int 0) m)) .nil)) .nil)) .nil)))) (.cons (tup (eC3 _ _ h18) (.cons (.int _) (.cons (.str _) (.cons (nil (eC2 _ _ k18)) .nil)))) (.cons (tup (eC5 _ _ h19) (.cons (.int _) (.cons (.str _) (.cons (nil (eC4 _ _ k19)) .nil)))) (.cons (tup (eC7 _ _ h20) (.cons (.int _) (.cons (.str _) (.cons (nil (eC6 _ _ k20)) .nil)))) (.cons (tup (oT h21) (.cons (.int _) (.cons (.str _) (.cons (tup (oT ((d9) _ _ r23)) (sh_rep (tup (oT (((d7.trans d8).trans d9) _ _ r21)) (.cons (tup (oT ((((d4.trans d5).trans (d6.trans d7)).trans (d8.trans d9)) _ _ kk21)) (sh_rep (.int 0) m)) (.cons (tup (oT (((d6.trans d7).trans (d8.trans d9)) _ _ kk22)) (sh_rep (.int 1) m)) .nil))) 65)) .nil)))) .nil)))))))))))))))))))))
    have f0 : Fit B0 2600 6 (.tuple []) := ⟨rfl, Nat.zero_le _, by decide⟩
    have fe : Fit B0 0 3 (.tuple []) := ⟨rfl, Nat.zero_le _, by decide⟩
    have fm : Fit B0 3 3 (.int (m : Int)) := fit_n (by show m < 8; omega) (by decide)
    have fm1 : Fit B0 3 3 (.int ((m : Int) + 1)) := fit_n (by show m + 1 < 8; omega) (by decide)
    have ft : Fit B0 16 3 (.str (tabOf bs)) := fit_tab lb
    have fc : Fit B0 1216 3 (.tuple (cs.map cD)) := fit_chs m4 ok.oc ok.lc
    have fz : Fit B0 8 1 (.tuple (List.replicate m (.int 0))) := (Fit.tup (fit_rep (fit_n (i := 0) (k := 1) (M := 0) (by decide) (by decide)) m)).mono (Nat.le_refl _) (by omega) (Nat.le_refl _)
    have fo : Fit B0 8 1 (.tuple (List.replicate m (.int 1))) := (Fit.tup (fit_rep (fit_n (i := 1) (k := 1) (M := 0) (by decide) (by decide)) m)).mono (Nat.le_refl _) (by omega) (Nat.le_refl _)
    have fsg : Fit B0 64 3 (.tuple ((tabOf bs).cps.toList.map fun c => PyData.str ⟨#[c]⟩)) := by
      have f := FitL.map (f := fun c => PyData.str ⟨#[c]⟩) (B := B0) (n := 1) (M := 2) (tabOf bs).cps.toList fun c hc => by
        refine ⟨List.all_eq_true.mpr fun c' hc' => decide_eq_true ?_, Nat.le_refl _, Nat.zero_le _⟩
        have e1 : c' = c := by simpa using hc'
        have : c ∈ bs.map fun b => if b = true then 49 else 48 := by simpa [tabOf] using hc
        obtain ⟨b, _, rfl⟩ := List.mem_map.mp this
        rw [e1]
        split <;> decide
      have el : (tabOf bs).cps.toList.length = bs.length := by rw [← tab_len bs]; simp [Str.length]
      rw [el] at f
      exact (Fit.tup f).mono (Nat.le_refl _) (by omega) (by decide)
    have up : ∀ {x : PyData} {N M : Nat}, Fit B0 N M x → (hN : N ≤ 2600 := by decide) → (hM : M ≤ 6 := by decide) → Fit B0 2600 6 x := fun f hN hM => f.mono (Nat.le_refl _) hN hM
    have fits : ∀ x ∈ ([PyData.none, .tuple [], .int 3, .str (Str.ofString "wish"), .list [], .dict [], .tuple [.int m, .str (tabOf bs)], .tuple [.int 0, .str (Str.ofString "1"), .tuple []], .tuple [.int 5, .str (Txt.mul (Str.ofString "01") 16), .tuple []], .tuple [.bool true, .str (Str.ofString "01"), .tuple []], .tuple [.int m, .str (tabOf bs), .tuple (cs.map cD), .tuple []], .tuple [.int ((m : Int) + 1), .str (tabOf bs), .tuple (cs.map cD)], .tuple [.int m, .str (tabOf (bs ++ bs)), .tuple (cs.map cD)], .list [.int m, .str (tabOf bs), .tuple (cs.map cD)], .tuple [.int m, .tuple ((tabOf bs).cps.toList.map fun c => PyData.str ⟨#[c]⟩), .tuple (cs.map cD)], .tuple [.int m, .str (tabOf bs), .none], .tuple [.int m, .str (tabOf bs), .tuple [.tuple [.tuple (List.replicate m (.int 0))]]], .tuple [.int (10 ^ 39), .str (Str.ofString "01"), .tuple []], .tuple [.int m, .str (Str.ofString ""), .tuple []], .tuple [.int 1, .str (Str.ofString "01"), .tuple []], .tuple [.int m, .str (tabOf bs), .tuple (List.replicate 65 (.tuple [.tuple (List.replicate m (.int 0)), .tuple (List.replicate m (.int 1))]))]] : List PyData), Fit B0 2600 6 x := by
      intro x hx
      simp only [List.mem_cons, List.not_mem_nil, or_false] at hx
      rcases hx with rfl | rfl | rfl | rfl | rfl | rfl | rfl | rfl | rfl | rfl | rfl | rfl | rfl | rfl | rfl | rfl | rfl | rfl | rfl | rfl | rfl
      · exact ⟨rfl, Nat.zero_le _, Nat.zero_le _⟩
      · exact f0
      · exact up (fit_n (k := 2) (M := 0) (by decide) (by decide))
      · exact up (fit_lit (N := 4) (M := 0) (by decide +kernel) (by decide +kernel))
      · exact ⟨rfl, Nat.zero_le _, by decide⟩
      · exact ⟨rfl, Nat.zero_le _, by decide⟩
      · exact up (fit_pair fm ft)
      · exact up (fit3 (fit_n (k := 2) (M := 3) (by decide) (by decide)) (fit_lit (N := 4) (by decide +kernel) (by decide +kernel)) fe)
      · exact up (fit3 (fit_n (k := 3) (M := 3) (by decide) (by decide)) (fit_lit (N := 40) (by decide +kernel) (by decide +kernel)) fe)
      · exact up (fit3 (a := .bool true) (na := 0) ⟨rfl, Nat.zero_le _, Nat.zero_le _⟩ (fit_lit (N := 4) (by decide +kernel) (by decide +kernel)) fe)
      · exact (Fit.tup ((((FitL.one fm).app (FitL.one ft)).app (FitL.one fc)).app (FitL.one fe))).mono (Nat.le_refl _) (by decide) (by decide)
      · exact up (fit3 fm1 ft fc)
      · exact up (fit3 fm (fit_tab (N := 32) (by rw [List.length_append]; omega)) fc)
      · exact (Fit.lst (((FitL.one fm).app (FitL.one ft)).app (FitL.one fc))).mono (Nat.le_refl _) (by decide) (by decide)
      · exact up (fit3 fm fsg fc)
      · exact up (fit3 (c := .none) (nc := 0) fm ft ⟨rfl, Nat.zero_le _, Nat.zero_le _⟩)
      · exact up (fit3 fm ft ((Fit.tup (FitL.one (Fit.tup (FitL.one fz)))).mono (Nat.le_refl _) (Nat.le_refl _) (by decide)))
      · exact up (fit3 (na := 130) (M := 3) ⟨by decide +kernel, by decide +kernel, Nat.zero_le _⟩ (fit_lit (N := 4) (by decide +kernel) (by decide +kernel)) fe)
      · exact up (fit3 fm (fit_lit (N := 4) (by decide +kernel) (by decide +kernel)) fe)
      · exact up (fit3 (fit_n (k := 2) (M := 3) (by decide) (by decide)) (fit_lit (N := 4) (by decide +kernel) (by decide +kernel)) fe)
      · exact up (fit3 (nc := 1300) fm ft ((Fit.tup (fit_rep (fit_pair fz fo) 65)).mono (Nat.le_refl _) (by decide) (by decide)))
    replace gF : F l7 = some (.lst [V.non, .ref p2, .int 3, .str (Str.ofString "wish"), .ref p5, .ref p6, .ref p7, .ref p8, .ref p9, .ref p10, .ref p11, .ref p12, .ref p13, .ref p14, .ref p15, .ref p16, .ref p17, .ref p18, .ref p19, .ref p20, .ref p21]) := gF
    rw [← eF]
    clear eF
    first | (show (_ : L2.St → Hp → Prop) [some (.ref d), some (.ref wa), some (.int m), some (.str (tabOf bs)), some (.ref t), some (.ref l7)] F) | (unfold gName; show (_ : L2.St → Hp → Prop) [some (.ref d), some (.ref wa), some (.int m), some (.str (tabOf bs)), some (.ref t), some (.ref l7)] F) | (dsimp only; show (_ : L2.St → Hp → Prop) [some (.ref d), some (.ref wa), some (.int m), some (.str (tabOf bs)), some (.ref t), some (.ref l7)] F) | (dsimp only [gName]; show (_ : L2.St → Hp → Prop) [some (.ref d), some (.ref wa), some (.int m), some (.str (tabOf bs)), some (.ref t), some (.ref l7)] F)
    refine ⟨.ref l7, rfl, .ref d, rfl, .ref l7, rfl, l7, _, rfl, .inl (SqL.of gF), d, l, _, _, rfl, DF.d1, by omega, (show (0 : Int) < 21 by decide), (show (21 : Int) < 1073741824 by decide), fun G x DG frG x0 x1 => ?_⟩
    replace DG := DF.fr DG frG
    obtain ⟨v, dv, hv, sv, fv⟩ := pick_sh (all.same (hid_fr frG D.hd D.hl)) fits (j := x) x0 (show x < 21 from x1)
    exact ⟨l7, _, x, v, rfl, rfl, SqL.of (frG _ _ oL.1 oL.2 gF), hv, q v G dv DG (frF.trans frG) sv fv⟩

end
end Gk


set_option Elab.async false
set_option linter.all false
set_option maxRecDepth 100000
set_option maxHeartbeats 1000000
set_option pp.maxSteps 1500
set_option pp.deepTerms false
namespace Gk
open PySem PySem.Spec PyProof.Rows L2
/-! ### the end of a law whose defs are called where nothing is being shown, with tables of code objects -/
def LawAtG (l : PySem.W.OpenLaw) (w : World) (K : PySem.W.Frag) (CX : CXT) (k n : Nat) (x : Str) (mg : Str → Option Value) (f : Addr) (top : Heap) : Prop :=
  ∃ (fd : FuncData) (ts : List (Addr × Addr)) (sp : Sp), (∀ t ∈ ts, top.get? t.2 = some { cls := .none, data := .fields #[] }) ∧ (∀ t ∈ ts, K.lookup t.2 = none) ∧ (∀ t ∈ ts, PySem.W.CodeHd top t.1 t.2) ∧ (∀ (st : Shared) (v : Value), BindsTo st fd ⟨[v], []⟩ [(x, v)]) ∧
    (∀ (H : Hp) (p : Addr) (zs : List Int), zs.length ≤ n → (∀ z ∈ zs, Builtin.Int.intBits z ≤ 1048576) → (∀ t ∈ ts, H t.2 = some (.tbl #[])) → SqL K H p (zs.map V.int) → sp [.ref p] H (fun v _ => v = .bl true) fun _ _ _ => False) ∧
    ∀ under : Heap, K.In under → under.Ns mainGlobals mg → (∀ t ∈ ts, LamX.TabB under mg t.1 t.2) → FnG l.prog w K mg under CX k f fd [x] sp
theorem law_GT {P : Program} {w : World} {K : PySem.W.Frag} {mg mb : Str → Option Value} {CX : CXT} {k : Nat} {f p : Addr} {ts : List (Addr × Addr)} {fd : FuncData} {x : Str} {sp : Sp} {s : Shared} {us : List Value} {zs : List Int}
    (inK : K.In s.heap) (gl : s.heap.Ns mainGlobals mg) (bl : s.heap.Ns builtinsNs mb) (boot : ∀ y : Str, y ≠ "__name__" → mb y = bootBuiltins y) (lim : s.heap.NoLimit) (ng : s.gens = #[])
    (bare : ∀ t ∈ ts, s.heap.get? t.2 = some { cls := .none, data := .fields #[] }) (out : ∀ t ∈ ts, K.lookup t.2 = none) (code : ∀ t ∈ ts, PySem.W.CodeHd s.heap t.1 t.2)
    (bmod : ∃ (m : Addr) (o : Obj), mg "__builtins__" = some (.ref m) ∧ m ≠ builtinsNs ∧ s.heap.get? m = some o ∧ o.cls = .type "module" ∧ o.dict = some builtinsNs ∧ o.data = .plain)
    (script : s.heap.get? p = some { cls := .type "list", data := .seq us.toArray }) (are : IntsAre us zs) (small : zs.length ≤ sizeLine) (room : Room k callerA)
    (F : ∀ under : Heap, K.In under → under.Ns mainGlobals mg → (∀ t ∈ ts, LamX.TabB under mg t.1 t.2) → FnG P w K mg under CX k f fd [x] sp) (bound : ∀ (st : Shared) (v : Value), BindsTo st fd ⟨[v], []⟩ [(x, v)])
    (told : ∀ H : Hp, (∀ t ∈ ts, H t.2 = some (.tbl #[])) → SqL K H p (zs.map V.int) → sp [.ref p] H (fun v _ => v = .bl true) fun _ _ _ => False)
    (noX : ∀ H e st, CX [] H s (fun _ _ _ => False) e st → False) :
    codeAny (model P w) callerA (.call (.ref f) ⟨[.ref p], []⟩) (fun r st => r = .ok (.ret (.bool true)) ∧ OldK s.heap st.heap ∧ st.os = s.os ∧ AllBare st.gens) s := by
  have tabAt : ∀ c ∈ ts.map Prod.snd, s.heap.get? c = some { cls := .none, data := .fields #[] } := by
    intro c hc
    obtain ⟨t, ht, rfl⟩ := List.mem_map.mp hc
    exact bare t ht
  have inTs : ∀ {t : Addr × Addr}, t ∈ ts → t.2 ∈ ts.map Prod.snd := fun ht => List.mem_map_of_mem ht
  have pNo : ¬ p ∈ ts.map Prod.snd := by
    intro hp
    have both := (tabAt p hp).symm.trans script
    have kinds := congrArg (fun o : Option Obj => o.map Obj.cls) both
    simp at kinds
  have main : ∀ H : Hp, (∀ t ∈ ts, H t.2 = some (.tbl #[])) → (∀ c, H c = none ∨ c ∈ ts.map Prod.snd ∨ ∃ o ys, H c = some (.frz o (.lst ys))) → SqL K H p (zs.map V.int) → HOk P w H s.heap → (∀ c, H c ≠ none → c = p ∨ c ∈ ts.map Prod.snd) → (H p ≠ none → K.lookup p = none) →
      codeAny (model P w) callerA (.call (.ref f) ⟨[.ref p], []⟩) (fun r st => r = .ok (.ret (.bool true)) ∧ OldK s.heap st.heap ∧ st.os = s.os ∧ AllBare st.gens) s := by
    intro H tabs kinds list ok alone off
    have free : ∀ {c : Addr} {o : Obj}, s.heap.get? c = some o → (∀ ys m, ¬ o.data = .seq ys m) → ¬ o.data = .fields #[] → H c = none := by
      intro c o ho n1 n2
      refine Classical.byContradiction fun some_ => ?_
      rcases alone c some_ with rfl | hc
      · cases Option.some.inj (ho.symm.trans script)
        exact n1 _ _ rfl
      · cases Option.some.inj (ho.symm.trans (tabAt c hc))
        exact n2 rfl
    have names : ∀ {c : Addr} {m : Str → Option Value}, s.heap.Ns c m → (hidT s.heap H).Ns c m := by
      rintro c m ⟨o, es, ep, ho, dz, more⟩
      refine ⟨o, es, ep, hidT_get ho (free ho (fun ys j z => ?_) fun z => ?_), dz, more⟩ <;> exact Data.noConfusion (dz.symm.trans z)
    have inB : K.In (hidT s.heap H) := by
      intro c o ho
      refine hidT_get (inK c o ho) (Classical.byContradiction fun some_ => ?_)
      rcases alone c some_ with rfl | hc
      · exact absurd (ho.symm.trans (off some_)) (by simp)
      · obtain ⟨t, ht, rfl⟩ := List.mem_map.mp hc
        exact absurd (ho.symm.trans (out t ht)) (by simp)
    obtain ⟨ml, l1, l2⟩ := lim
    have mod : L2.Mod K mg (hidT s.heap H) := ⟨inB, names gl, ⟨mb, names bl, boot⟩, ⟨ml, names l1, l2⟩⟩
    have tables : ∀ t ∈ ts, LamX.TabB (hidT s.heap H) mg t.1 t.2 := by
      intro t ht
      constructor
      · obtain ⟨o, ys, file, tf, flags, tg, inF, text, tt, c1, c2, c3, c4, c5, c6, c7, c8, c9, c10⟩ := code t ht
        refine ⟨o, ys, file, tf, flags, tg, inF, text, tt, hidT_get c1 (free c1 (fun us j z => Data.noConfusion (c3.symm.trans z)) fun z => ?_), c2, c3, c4, c5, c6, c7, c8, c9, c10⟩
        have z2 := c3.symm.trans z
        cases z2
        simp at c4
      · obtain ⟨m, o, b1, b2, b3, b4, b5, b6⟩ := bmod
        refine ⟨m, o, b1, b2, fun z => ?_, fun z => ?_, hidT_get b3 (free b3 (fun us j z => Data.noConfusion (b6.symm.trans z)) fun z => Data.noConfusion (b6.symm.trans z)), b4, b5, b6⟩
        · obtain ⟨o', es, ep, ho, dz, _⟩ := gl
          subst z
          cases Option.some.inj (b3.symm.trans ho)
          exact Data.noConfusion (b6.symm.trans dz)
        · subst z
          cases Option.some.inj (b3.symm.trans (bare t ht))
          exact Data.noConfusion b6
      · intro z
        obtain ⟨o', es, ep, ho, dz, _⟩ := gl
        rw [z] at ho
        cases Option.some.inj (ho.symm.trans (bare t ht))
        exact Data.noConfusion dz
    have env : Env0 P w K mg (hidT s.heap H) callerA [] s H := { frames := rfl, mod := mod, bs := fun c o z => of_hidT z, bsz := Nat.le_of_eq (hidT_size _ _), funs := trivial, frf := (fun c hc => by cases (show c ∈ ([] : List Addr) from hc)), hok := ok, bare := .of_eq ng }
    refine codeAny_mono ((F _ inB (names gl) tables).go callerA rfl room [] s H _ [.ref p] [.ref p] _ _ env (bound s (.ref p)) (.cons rfl .nil) (told H tabs list)) fun r st z => ?_
    match r, z with
    | .error e, z => exact (noX H e st z).elim
    | .ok .next, z => exact z.elim
    | .ok .brk, z => exact z.elim
    | .ok .cont, z => exact z.elim
    | .ok (.ret u), ⟨v, H2, os, bg, un, ok2, rel, q⟩ =>
      cases (show v = V.bl true from q)
      cases (show u = Value.bool true from rel)
      have old : ∀ c o, ¬ c ∈ ts.map Prod.snd → s.heap.get? c = some o → st.heap.get? c = some o := by
        intro c o nc ho
        by_cases hc : H c = none
        · exact un.keep c o ho hc (fun m => by cases (show c ∈ ([] : List Addr) from m)) (fun m => by cases m)
        · rcases kinds c with n | n | ⟨ob, ys, fz⟩
          · exact absurd n hc
          · exact absurd n nc
          · have o1 := (ok c _ fz).1
            have o2 := (ok2 c _ (un.frzs c ob _ fz)).1
            rw [ho] at o1
            rw [Option.some.inj o1]
            exact o2
      have grown : ∀ c ∈ ts.map Prod.snd, ∃ more : Array Value, st.heap.get? c = some { cls := .none, data := .fields more } := by
        intro c hc
        obtain ⟨t, ht, rfl⟩ := List.mem_map.mp hc
        obtain ⟨more, hm⟩ := un.tbls t.2 #[] (tabs t ht)
        exact ⟨_, ok2 t.2 _ hm⟩
      refine ⟨rfl, ⟨fun c o ho => ?_, fun c o ho => ?_⟩, os, bg⟩
      · by_cases hc : c ∈ ts.map Prod.snd
        · obtain ⟨more, hm⟩ := grown c hc
          obtain ⟨t, ht, rfl⟩ := List.mem_map.mp hc
          cases Option.some.inj (ho.symm.trans (bare t ht))
          exact .inr (.inl ⟨((code t ht).tab (bare t ht)).isCodeTable, rfl, #[], more, rfl, by rw [Array.empty_append]; exact hm⟩)
        · exact .inl (old c o hc ho)
      · by_cases hc : c ∈ ts.map Prod.snd
        · obtain ⟨more, hm⟩ := grown c hc
          exact ⟨_, hm⟩
        · exact ⟨o, old c o hc ho⟩
  have rel := vals_ints are
  let base : Hp := fun c => if c ∈ ts.map Prod.snd then some (.tbl #[]) else none
  have onT : ∀ {c : Addr}, c ∈ ts.map Prod.snd → base c = some (.tbl #[]) := fun hc => if_pos hc
  have offT : ∀ {c : Addr}, ¬ c ∈ ts.map Prod.snd → base c = none := fun hc => if_neg hc
  cases hk : K.lookup p with
  | some o =>
    cases Option.some.inj ((inK p o hk).symm.trans script)
    refine main base (fun t ht => onT (inTs ht)) (fun c => ?_) (.inr ⟨_, us.toArray, _, hk, rfl, rfl, rfl, by rw [List.size_toArray, are.length]; exact small, by simpa using rel⟩) (fun c u z => ?_) (fun c z => ?_) fun z => absurd (offT pNo) z
    · rcases Classical.em (c ∈ ts.map Prod.snd) with hc | hc
      · exact .inr (.inl hc)
      · exact .inl (offT hc)
    · rcases Classical.em (c ∈ ts.map Prod.snd) with hc | hc
      · cases Option.some.inj ((onT hc).symm.trans z)
        exact tabAt c hc
      · exact absurd ((offT hc).symm.trans z) (by simp)
    · exact .inr (Classical.byContradiction fun hc => z (offT hc))
  | none =>
    let frz : HO := .frz { cls := .type "list", data := .seq us.toArray } (.lst (zs.map V.int))
    have onP : (fun c => if c = p then some frz else base c) p = some frz := if_pos rfl
    have offP : ∀ {c : Addr}, ¬ c = p → (fun c => if c = p then some frz else base c) c = base c := fun hc => if_neg hc
    refine main (fun c => if c = p then some frz else base c) (fun t ht => ?_) (fun c => ?_) (.inl (.inr ⟨_, onP⟩)) (fun c u z => ?_) (fun c z => ?_) fun _ => hk
    · refine (offP fun e => pNo ?_).trans (onT (inTs ht))
      rw [← e]
      exact inTs ht
    · rcases Classical.em (c = p) with rfl | e
      · exact .inr (.inr ⟨_, _, onP⟩)
      · rcases Classical.em (c ∈ ts.map Prod.snd) with hc | hc
        · exact .inr (.inl hc)
        · exact .inl ((offP e).trans (offT hc))
    · rcases Classical.em (c = p) with rfl | e
      · cases Option.some.inj (onP.symm.trans z)
        exact ⟨script, by rw [List.length_map]; exact small, us, _, rel, script⟩
      · have z := (offP e).symm.trans z
        rcases Classical.em (c ∈ ts.map Prod.snd) with hc | hc
        · cases Option.some.inj ((onT hc).symm.trans z)
          exact tabAt c hc
        · exact absurd ((offT hc).symm.trans z) (by simp)
    · rcases Classical.em (c = p) with e | e
      · exact .inl e
      · exact .inr (Classical.byContradiction fun hc => z ((offP e).trans (offT hc)))
theorem walk_GT {l : PySem.W.OpenLaw} {n k : Nat} {q : Program} {loose : List Str} {XP : (Str → Option Value) → Heap → Prop} {YP : World → Heap → Prop} {d : DefRec} {CX : World → CXT} {x : Str}
    (most : l.most = some n) (small : n ≤ sizeLine) (nodef : d.params.defaults = []) (room : Room k callerA)
    (F : ∀ (w : World) (mg : Str → Option Value) (f : Addr) (top : Heap), YP w top → top.Ns mainGlobals mg → mg d.name = some (.ref f) → ∃ K : PySem.W.Frag, K.In top ∧ LawAtG l w K (CX w) k n x mg f top)
    (noX : ∀ (w : World) (H : Hp) (s : Shared) (e : Value) (st : Shared), CX w [] H s (fun _ _ _ => False) e st → False) :
    PySem.W.WalkO q loose XP YP l.row.toRowW d [] (fun f vs => PySem.call f vs) := by
  refine Att.attach_callB most nodef fun w s0 s mg mb f o pm cd doc p us zs G Y ho hd hcd named script are few bits ng => ?_
  obtain ⟨K, inK, fd, ts, sp, bare, out, code, bound, told, FG⟩ := F w mg f _ Y G.T.g named
  exact law_GT inK G.T.g G.T.b G.T.builtins G.T.nolimit ng bare out code G.T.bmain script are (Nat.le_trans few small) room FG bound (fun H tabs list => told H p zs few bits tabs list) fun H e st => noX w H s e st

section
variable {P : Program} {w : World} {K : PySem.W.Frag} {mg : Str → Option Value} {base : Heap}
/-! ### the law -/
theorem kitBB : kitB "bool" "bool" = some true := by decide +kernel
theorem Tabs.fr {H H' : Hp} {d l : Addr} {n : Int} {Ps : List Addr} (D : DeckG H d l n) (f : Fr d l H H') (t : Tabs H Ps) : Tabs H' Ps := fun P hP => by
  obtain ⟨ps, e, z⟩ := t P hP
  obtain ⟨ne, cs, y, w, hd, hl, r⟩ := D
  exact ⟨ps, f P _ (ne_of e hd (by intro z; cases z)) (ne_of e hl (by intro z; cases z)) e, z⟩
theorem row_is {m : Nat} {r : List Int} (h : Row01' r) (hl : r.length = m) : isRowD m (rowD r) = true := by
  show (decide ((r.map PyData.int).length = m) && (r.map PyData.int).all worthD) = true
  rw [List.length_map, decide_eq_true hl, Bool.true_and, List.all_eq_true]
  intro x hx
  obtain ⟨i, hi, rfl⟩ := List.mem_map.mp hx
  rcases h i hi with rfl | rfl <;> rfl
theorem wish_is {m : Nat} {bs : List Bool} {cs : List Ch} (ok : WishOk m bs cs) : isWishD (wishD m bs cs) = true := by
  have m1 := ok.m1
  have m4 := ok.m4
  show ((decide ((1 : Int) ≤ m) && decide ((m : Int) ≤ 4)) && (isSignsD (2 ^ ((m : Int)).toNat) (.str (tabOf bs)) && (cs.map cD).all (isChD ((m : Int)).toNat))) = true
  rw [decide_eq_true (show (1 : Int) ≤ m by omega), decide_eq_true (show (m : Int) ≤ 4 by omega), show ((m : Int)).toNat = m from rfl, Bool.true_and, Bool.true_and, Bool.and_eq_true]
  constructor
  · show (decide (((tabOf bs).length : Int) = 2 ^ m) && (tabOf bs).cps.toList.all sgB) = true
    rw [tab_len, ok.lb, decide_eq_true (by push_cast; rfl), Bool.true_and, List.all_eq_true]
    intro c hc
    have : c ∈ bs.map fun b => if b = true then 49 else 48 := by simpa [tabOf] using hc
    obtain ⟨b, _, rfl⟩ := List.mem_map.mp this
    cases b <;> decide +kernel
  · rw [List.all_eq_true]
    intro x hx
    obtain ⟨c, hc, rfl⟩ := List.mem_map.mp hx
    have o := ok.oc c hc
    show isChD m (.tuple [rowD c.1, rowD c.2]) = true
    rw [chD_row, row_is o.oa o.la, row_is o.ob o.lb]
    rfl
def sp_law (K : PySem.W.Frag) (Ps : List Addr) : Sp := fun vs H Q _ => ∃ (a : Addr) (ns : List Int), vs = [.ref a] ∧ SqL K H a (ns.map V.int) ∧ ns.length ≤ 63 ∧ Tabs H Ps ∧ ∀ H', Q (.bl true) H'
theorem ok_law (T : Tx K mg) (B : Tb base T) : FnG P w K mg base CX0 13 T.f_law T.fd_law ["_law_script"] (sp_law K T.tabs) := by
  refine okG0 T.F_law sc_law (fun vs H Q E h => ?_) (fun cdv A outer s H vs Q E nothing hr h => ?_)
  · obtain ⟨a, ns, rfl, _⟩ := h
    rfl
  · obtain ⟨a, ns, rfl, hS, hlen, tabs, q⟩ := h
    refine ⟨_, (pss_cons (ps_set (i := 1) sc_law.nd rfl (by first | exact .inl rfl | exact .inr rfl) (pe_call (ok_deck T) (hr.mono (by decide)) (by rfl) T.g_deck T.F_deck.kp T.b_deck .nil pass0 (pa_cons (pv 0) pa_nil))) (pss_cons (ps_for PassesOwn.never rfl (pi_range1 (by rfl) T.m_range (pa_cons pe_int pa_nil)) (pg_name (i := 2) sc_law.nd rfl (by first | exact .inl rfl | exact .inr rfl)) (pss_cons (ps_set (i := 3) sc_law.nd rfl (by first | exact .inl rfl | exact .inr rfl) (pe_call (ok_wish T) (hr.mono (by decide)) (by rfl) T.g_wish T.F_wish.kp T.b_wish .nil pass0 (pa_cons (pv 1) (pa_cons pe_int pa_nil)))) (pss_cons (ps_if (pt_cmpR op_isnot_bl (pe_call (ok_is_wish T B) (hr.mono (by decide)) (by rfl) T.g_is_wish T.F_is_wish.kp T.b_is_wish .nil pass0 (pa_cons (pv 3) pa_nil)) pe_bl (nomark _)) (pss_one (ps_ret pe_bl)) pss_nil) (pss_one (ps_for PassesOwn.never rfl (pi_range1 (by rfl) T.m_range (pa_cons pe_int pa_nil)) (pg_name (i := 4) sc_law.nd rfl (by first | exact .inl rfl | exact .inr rfl)) (pss_cons (ps_set (i := 5) sc_law.nd rfl (by first | exact .inl rfl | exact .inr rfl) (pe_call (ok_next T) (hr.mono (by decide)) (by rfl) T.g_next T.F_next.kp T.b_next .nil pass0 (pa_cons (pv 1) (pa_cons pe_int pa_nil)))) (pss_cons (ps_set (i := 6) sc_law.nd rfl (by first | exact .inl rfl | exact .inr rfl) (pe_ix ix_list (pe_lst (pa_cons (pv 3) (pa_cons (pe_call (ok_odd T) (hr.mono (by decide)) (by rfl) T.g_odd T.F_odd.kp T.b_odd .nil pass0 (pa_cons (pv 1) (pa_cons (pv 3) pa_nil))) pa_nil))) (pe_callTy call_int1 (by rfl) T.m_int (by decide +kernel) (pa_cons (pe_cmpR op_eq (pv 5) pe_int (nomark _)) pa_nil)) (fun _ _ => rfl))) (C8.pss_cut (ps_if (pt_cmpR op_lt (pv 5) pe_int (nomark _)) (pss_one (ps_set (i := 6) sc_law.nd rfl (by first | exact .inl rfl | exact .inr rfl) (pe_call (ok_spoilt T) (hr.mono (by decide)) (by rfl) T.g_spoilt T.F_spoilt.kp T.b_spoilt .nil pass0 (pa_cons (pv 1) (pa_cons (pv 3) pa_nil))))) pss_nil) (C8.pss_cut (ps_if (pt_cmpR op_eq (pv 5) pe_int (nomark _)) (pss_one (ps_set (i := 6) sc_law.nd rfl (by first | exact .inl rfl | exact .inr rfl) (pe_call (ok_spoilt T) (hr.mono (by decide)) (by rfl) T.g_spoilt T.F_spoilt.kp T.b_spoilt .nil pass0 (pa_cons (pv 1) (pa_cons (pv 6) pa_nil))))) pss_nil) (pss_cons (ps_set (i := 7) sc_law.nd rfl (by first | exact .inl rfl | exact .inr rfl) (pe_callB (call_repr nothing hr.units) (by rfl) T.m_repr (by decide +kernel) (pa_cons (pv 6) pa_nil))) (pss_one (ps_for PassesOwn.never rfl (pi_range1 (by rfl) T.m_range (pa_cons pe_int pa_nil)) (pg_name (i := 8) sc_law.nd rfl (by first | exact .inl rfl | exact .inr rfl)) (pss_cons (ps_set (i := 9) sc_law.nd rfl (by first | exact .inl rfl | exact .inr rfl) (pe_call (ok_is_wish T B) (hr.mono (by decide)) (by rfl) T.g_is_wish T.F_is_wish.kp T.b_is_wish .nil pass0 (pa_cons (pv 6) pa_nil))) (pss_one (ps_if (pw_or (pt_not (pt_val (pe_callB call_isi (by rfl) T.m_isinstance (by decide +kernel) (pa_cons (pv 9) (pa_cons (pe_bltn (v := .ty "bool") (u := .type "bool") (by rfl) T.m_bool (by decide +kernel) rfl) pa_nil))))) (pw_or (pt_cmpR op_ne (pv 9) (pe_call (ok_l_is_wish T) (hr.mono (by decide)) (by rfl) T.g_l_is_wish T.F_l_is_wish.kp T.b_l_is_wish .nil pass0 (pa_cons (pv 6) pa_nil)) (nomark _)) (pw_or1 (pt_cmpR op_ne (pe_callB (call_repr nothing hr.units) (by rfl) T.m_repr (by decide +kernel) (pa_cons (pv 6) pa_nil)) (pv 7) (nomark _))))).pt (pss_one (ps_ret pe_bl)) pss_nil))))))))))))))) (pss_one (ps_ret pe_bl)))), ?_⟩
    refine ⟨.ref a, rfl, a, ns, rfl, hS, hlen, fun H1 d l s1 D1 => ?_⟩
    have tab1 := (Gr.of s1).tabs tabs
    refine ⟨2, rfl, by decide, by decide, ?_⟩
    refine for_range (lo := 0) (n := (2 : Int).toNat) (fun j σ H' => ∃ y2 y3 y4 y5 y6 y7 y8 y9, σ = [some (.ref a), some (.ref d), y2, y3, y4, y5, y6, y7, y8, y9] ∧ DeckG H' d l (2000 * j) ∧ Tabs H' T.tabs) ⟨_, _, _, _, _, _, _, _, rfl, D1.mono (by omega), tab1⟩ ?_ ?_
    · rintro j σ H2 hj ⟨y2, y3, y4, y5, y6, y7, y8, y9, rfl, D2, t2⟩
      have hj' : j < 2 := hj
      refine ⟨.ref d, rfl, d, l, _, 57, rfl, D2, by omega, by decide, by decide, fun wa m bs cs H3 D3 fr3 nr tw ok => ?_⟩
      have t3 := Tabs.fr D2 fr3 t2
      have fW := fit_wish ok
      have shW : ∀ {H' : Hp} {n : Int}, DeckG H' d l n → Tk H' (.ref wa) (wishD m bs cs) → Sh (hid [d, l] H') (.ref wa) (wishD m bs cs) := fun D t => t.shH D.da (noL_wish m bs cs)
      refine ⟨.ref wa, rfl, .ref wa, wishD m bs cs, rfl, (shW D3 tw).same hid_le, Nat.le_trans fW.2.1 (by decide), t3, fun H4 g4 => ⟨_, _, rfl, rfl, _, rfl, ?_⟩⟩
      rw [wish_is ok]
      refine iteF ?_
      refine ⟨16, rfl, by decide, by decide, ?_⟩
      refine for_range (lo := 0) (n := (16 : Int).toNat) (fun i σ H' => ∃ y4 y5 y6 y7 y8 y9, σ = [some (.ref a), some (.ref d), some (.int (0 + (j : Int))), some (.ref wa), y4, y5, y6, y7, y8, y9] ∧ DeckG H' d l (2000 * j + 800 + 50 * i) ∧ Tabs H' T.tabs ∧ Tk H' (.ref wa) (wishD m bs cs)) ⟨_, _, _, _, _, _, rfl, (D3.gr g4).mono (by push_cast; omega), g4.tabs t3, tw.gr g4⟩ ?_ ?_
      · rintro i σ H5 hi ⟨y4, y5, y6, y7, y8, y9, rfl, D5, t5, tw5⟩
        have hi' : i < 16 := hi
        refine ⟨.ref d, rfl, d, l, 4, _, rfl, D5, by omega, by decide, by decide, fun H6 way D6 fr6 w0 w4 => ?_⟩
        have t6 := Tabs.fr D5 fr6 t5
        have tw6 := tw5.ts (Ts.frG D5 fr6) (noL_wish m bs cs)
        first | (show (_ : L2.St → Hp → Prop) [some (.ref a), some (.ref d), some (.int (0 + (j : Int))), some (.ref wa), some (.int (0 + (i : Int))), some (.int way), y6, y7, y8, y9] H6) | (unfold gName; show (_ : L2.St → Hp → Prop) [some (.ref a), some (.ref d), some (.int (0 + (j : Int))), some (.ref wa), some (.int (0 + (i : Int))), some (.int way), y6, y7, y8, y9] H6) | (dsimp only; show (_ : L2.St → Hp → Prop) [some (.ref a), some (.ref d), some (.int (0 + (j : Int))), some (.ref wa), some (.int (0 + (i : Int))), some (.int way), y6, y7, y8, y9] H6) | (dsimp only [gName]; show (_ : L2.St → Hp → Prop) [some (.ref a), some (.ref d), some (.int (0 + (j : Int))), some (.ref wa), some (.int (0 + (i : Int))), some (.int way), y6, y7, y8, y9] H6)
        refine ⟨.ref wa, rfl, .ref d, rfl, .ref wa, rfl, [d, l], d, l, wa, _, m, bs, cs, rfl, D6.da, by omega, tw6, ok, fun v7 H7 dd7 D7 fr7 sh7 f7 => ⟨sl2, fun p np => ?_⟩⟩
        have t7 := Tabs.fr D6 fr7 t6
        have tw7 := tw6.ts (Ts.frG D6 fr7) (noL_wish m bs cs)
        have s8 := same_upd (o := (HO.lst [V.ref wa, v7])) np
        have h8 : upd H7 p (HO.lst [V.ref wa, v7]) p = some (HO.lst [V.ref wa, v7]) := upd_same
        generalize upd H7 p (HO.lst [V.ref wa, v7]) = H8 at s8 h8 ⊢
        have D8 := D7.same s8
        have tw8 := tw7.same s8
        have t8 := (Gr.of s8).tabs t7
        have pick : ∃ v dd, atI [V.ref wa, v7] (if decide (V.int way = V.int 3) = true then 1 else 0) = some v ∧ Sh (hid [d, l] H8) v dd ∧ Fit B0 2600 6 dd := by
          split
          · exact ⟨v7, dd7, rfl, sh7.same (hid_same s8), f7⟩
          · exact ⟨.ref wa, _, rfl, shW D8.d1 tw8, fW.mono (Nat.le_refl _) (by decide) (by decide)⟩
        obtain ⟨v, dd, hv, shv, fv⟩ := pick
        refine ⟨.int way, rfl, rfl, .inr ⟨_, rfl, p, _, _, v, rfl, rfl, SqL.of h8, hv, ?_⟩⟩
        refine ⟨fun σ H' => ∃ v dd, σ = [some (.ref a), some (.ref d), some (.int (0 + (j : Int))), some (.ref wa), some (.int (0 + (i : Int))), some (.int way), some v, y7, y8, y9] ∧ DeckG H' d l (2000 * j + 800 + 50 * i + 25) ∧ Tabs H' T.tabs ∧ Tk H' (.ref wa) (wishD m bs cs) ∧ Sh (hid [d, l] H') v dd ∧ Fit (B0 + 9) 2850 7 dd, ?_, ?_⟩
        · first | (show (_ : L2.St → Hp → Prop) [some (.ref a), some (.ref d), some (.int (0 + (j : Int))), some (.ref wa), some (.int (0 + (i : Int))), some (.int way), some (v), y7, y8, y9] H8) | (unfold gName; show (_ : L2.St → Hp → Prop) [some (.ref a), some (.ref d), some (.int (0 + (j : Int))), some (.ref wa), some (.int (0 + (i : Int))), some (.int way), some (v), y7, y8, y9] H8) | (dsimp only; show (_ : L2.St → Hp → Prop) [some (.ref a), some (.ref d), some (.int (0 + (j : Int))), some (.ref wa), some (.int (0 + (i : Int))), some (.int way), some (v), y7, y8, y9] H8) | (dsimp only [gName]; show (_ : L2.St → Hp → Prop) [some (.ref a), some (.ref d), some (.int (0 + (j : Int))), some (.ref wa), some (.int (0 + (i : Int))), some (.int way), some (v), y7, y8, y9] H8)
          refine ⟨.int way, rfl, _, _, rfl, rfl, _, rfl, ite2 (fun e => ?_) (fun e => ⟨v, dd, rfl, D8.d1.mono (by omega), t8, tw8, shv, fv.mono (by decide) (by decide) (by decide)⟩)⟩
          refine ⟨.ref d, rfl, .ref wa, rfl, [d, l], d, l, _, .ref wa, wishD m bs cs, B0, 1300, 4, rfl, D8, by omega, by decide, shW D8.d1 tw8, fW, by decide, by decide, fun v' H' dd' D' fr' sh' fit' => ?_⟩
          exact ⟨v', dd', rfl, D'.d1.mono (by omega), Tabs.fr D8.d1 fr' t8, tw8.ts (Ts.frG D8.d1 fr') (noL_wish m bs cs), sh', fit'⟩
        rintro σ H9 ⟨v, dd, rfl, D9, t9, tw9, sh9, f9⟩
        refine ⟨fun σ H' => ∃ v dd, σ = [some (.ref a), some (.ref d), some (.int (0 + (j : Int))), some (.ref wa), some (.int (0 + (i : Int))), some (.int way), some v, y7, y8, y9] ∧ DeckG H' d l (2000 * j + 800 + 50 * (i + 1)) ∧ Tabs H' T.tabs ∧ Tk H' (.ref wa) (wishD m bs cs) ∧ Sh H' v dd ∧ Fit (B0 + 18) 6000 10 dd, ?_, ?_⟩
        · first | (show (_ : L2.St → Hp → Prop) [some (.ref a), some (.ref d), some (.int (0 + (j : Int))), some (.ref wa), some (.int (0 + (i : Int))), some (.int way), some (v), y7, y8, y9] H9) | (unfold gName; show (_ : L2.St → Hp → Prop) [some (.ref a), some (.ref d), some (.int (0 + (j : Int))), some (.ref wa), some (.int (0 + (i : Int))), some (.int way), some (v), y7, y8, y9] H9) | (dsimp only; show (_ : L2.St → Hp → Prop) [some (.ref a), some (.ref d), some (.int (0 + (j : Int))), some (.ref wa), some (.int (0 + (i : Int))), some (.int way), some (v), y7, y8, y9] H9) | (dsimp only [gName]; show (_ : L2.St → Hp → Prop) [some (.ref a), some (.ref d), some (.int (0 + (j : Int))), some (.ref wa), some (.int (0 + (i : Int))), some (.int way), some (v), y7, y8, y9] H9)
          refine ⟨.int way, rfl, rfl, _, rfl, ite2 (fun e => ?_) (fun e => ⟨v, dd, rfl, D9.mono (by omega), t9, tw9, sh9.same hid_le, f9.mono (by decide) (by decide) (by decide)⟩)⟩
          refine ⟨.ref d, rfl, v, rfl, [d, l], d, l, _, v, dd, B0 + 9, 2850, 7, rfl, D9.da, by omega, by decide, sh9, f9, by decide, by decide, fun v' H' dd' D' fr' sh' fit' => ?_⟩
          exact ⟨v', dd', rfl, D'.d1.mono (by omega), Tabs.fr D9 fr' t9, tw9.ts (Ts.frG D9 fr') (noL_wish m bs cs), sh'.same hid_le, fit'.mono (by decide) (by decide) (by decide)⟩
        rintro σ HA ⟨v, dd, rfl, DA', tA, twA, shA, fA⟩
        obtain ⟨f1, f2, f3⟩ := fA.fine (by decide) (by decide) (by decide)
        have wt : dd.weight ≤ 50000 := Nat.le_trans fA.2.1 (by decide)
        first | (show (_ : L2.St → Hp → Prop) [some (.ref a), some (.ref d), some (.int (0 + (j : Int))), some (.ref wa), some (.int (0 + (i : Int))), some (.int way), some (v), y7, y8, y9] HA) | (unfold gName; show (_ : L2.St → Hp → Prop) [some (.ref a), some (.ref d), some (.int (0 + (j : Int))), some (.ref wa), some (.int (0 + (i : Int))), some (.int way), some (v), y7, y8, y9] HA) | (dsimp only; show (_ : L2.St → Hp → Prop) [some (.ref a), some (.ref d), some (.int (0 + (j : Int))), some (.ref wa), some (.int (0 + (i : Int))), some (.int way), some (v), y7, y8, y9] HA) | (dsimp only [gName]; show (_ : L2.St → Hp → Prop) [some (.ref a), some (.ref d), some (.int (0 + (j : Int))), some (.ref wa), some (.int (0 + (i : Int))), some (.int way), some (v), y7, y8, y9] HA)
        refine ⟨v, rfl, v, dd, rfl, shA, f1, f2, f3, ?_⟩
        refine ⟨2, rfl, by decide, by decide, ?_⟩
        refine for_range (lo := 0) (n := (2 : Int).toNat) (fun k σ H' => ∃ y8 y9, σ = [some (.ref a), some (.ref d), some (.int (0 + (j : Int))), some (.ref wa), some (.int (0 + (i : Int))), some (.int way), some v, some (.str dd.shown), y8, y9] ∧ Gr HA H') ⟨_, _, rfl, Gr.refl⟩ ?_ ?_
        · rintro k σ H10 hk ⟨y8, y9, rfl, g10⟩
          refine ⟨v, rfl, v, dd, rfl, shA.gr g10, wt, g10.tabs tA, fun H11 g11 => ?_⟩
          have g := g10.trans g11
          have sh11 := shA.gr g
          refine ⟨.bl _, rfl, _, _, _, _, true, rfl, .ty _, .base (.bl _), kit_ty kitBB, true, rfl, iteF ?_⟩
          refine ⟨.bl _, rfl, v, rfl, v, dd, rfl, sh11, wt, fun H12 s12 => ⟨rfl, false, ?_, iteF ?_⟩⟩
          · show V.bl (!decide (V.bl (isWishD dd) = V.bl (isWishD dd))) = V.bl false
            rw [decide_eq_true rfl]
            rfl
          refine ⟨v, rfl, v, dd, rfl, sh11.same s12, f1, f2, f3, .str _, rfl, rfl, _, rfl, ?_⟩
          rw [decide_eq_true rfl]
          refine iteF ?_
          exact ⟨_, _, rfl, g.trans (Gr.of s12)⟩
        · rintro σ H10 ⟨y8, y9, rfl, g10⟩
          exact ⟨_, _, _, _, _, _, rfl, (DA'.gr g10).mono (by push_cast; omega), g10.tabs tA, twA.gr g10⟩
      · rintro σ H5 ⟨y4, y5, y6, y7, y8, y9, rfl, D5, t5, _⟩
        exact ⟨_, _, _, _, _, _, _, _, rfl, D5.mono (by push_cast; show 2000 * (j : Int) + 800 + 50 * ((16 : Int).toNat : Nat) ≤ _; omega), t5⟩
    · rintro σ H2 ⟨y2, y3, y4, y5, y6, y7, y8, y9, rfl, _, _⟩
      exact q H2

end
def d_is_whole : He.DefD := ⟨("is_whole", none), "is_whole", "is_whole", defArgs s_is_whole, defBody s_is_whole, defScope s_is_whole, [], []⟩
def d_is_worth : He.DefD := ⟨("is_worth", none), "is_worth", "is_worth", defArgs s_is_worth, defBody s_is_worth, defScope s_is_worth, [], []⟩
def d_is_signs : He.DefD := ⟨("is_signs", none), "is_signs", "is_signs", defArgs s_is_signs, defBody s_is_signs, defScope s_is_signs, [], []⟩
def d_is_row : He.DefD := ⟨("is_row", none), "is_row", "is_row", defArgs s_is_row, defBody s_is_row, defScope s_is_row, [], []⟩
def d_is_change : He.DefD := ⟨("is_change", none), "is_change", "is_change", defArgs s_is_change, defBody s_is_change, defScope s_is_change, [], []⟩
def d_is_wish : He.DefD := ⟨("is_wish", none), "is_wish", "is_wish", defArgs s_is_wish, defBody s_is_wish, defScope s_is_wish, [], []⟩
def d_deck : He.DefD := ⟨("_law_deck", none), "_law_deck", "_law_deck", defArgs s_deck, defBody s_deck, defScope s_deck, [], []⟩
def d_next : He.DefD := ⟨("_law_next", none), "_law_next", "_law_next", defArgs s_next, defBody s_next, defScope s_next, [], []⟩
def d_rows : He.DefD := ⟨("_law_rows", none), "_law_rows", "_law_rows", defArgs s_rows, defBody s_rows, defScope s_rows, [], []⟩
def d_holds : He.DefD := ⟨("_law_holds", none), "_law_holds", "_law_holds", defArgs s_holds, defBody s_holds, defScope s_holds, [], []⟩
def d_product : He.DefD := ⟨("_law_product", none), "_law_product", "_law_product", defArgs s_product, defBody s_product, defScope s_product, [], []⟩
def d_table : He.DefD := ⟨("_law_table", none), "_law_table", "_law_table", defArgs s_table, defBody s_table, defScope s_table, [], []⟩
def d_change : He.DefD := ⟨("_law_change", none), "_law_change", "_law_change", defArgs s_change, defBody s_change, defScope s_change, [], []⟩
def d_wish : He.DefD := ⟨("_law_wish", none), "_law_wish", "_law_wish", defArgs s_wish, defBody s_wish, defScope s_wish, [], []⟩
def d_l_is_whole : He.DefD := ⟨("_law_is_whole", none), "_law_is_whole", "_law_is_whole", defArgs s_l_is_whole, defBody s_l_is_whole, defScope s_l_is_whole, [], []⟩
def d_l_is_row : He.DefD := ⟨("_law_is_row", none), "_law_is_row", "_law_is_row", defArgs s_l_is_row, defBody s_l_is_row, defScope s_l_is_row, [], []⟩
def d_l_is_wish : He.DefD := ⟨("_law_is_wish", none), "_law_is_wish", "_law_is_wish", defArgs s_l_is_wish, defBody s_l_is_wish, defScope s_l_is_wish, [], []⟩
def d_step_off : He.DefD := ⟨("_law_step_off", none), "_law_step_off", "_law_step_off", defArgs s_step_off, defBody s_step_off, defScope s_step_off, [], []⟩
def d_spoilt : He.DefD := ⟨("_law_spoilt", none), "_law_spoilt", "_law_spoilt", defArgs s_spoilt, defBody s_spoilt, defScope s_spoilt, [], []⟩
def d_odd : He.DefD := ⟨("_law_odd", none), "_law_odd", "_law_odd", defArgs s_odd, defBody s_odd, defScope s_odd, [], []⟩
def d_law : He.DefD := ⟨("law", none), "law", "law", defArgs s_law, defBody s_law, defScope s_law, [], []⟩
def fn : List He.DefD := [d_is_whole, d_is_worth, d_is_signs, d_is_row, d_is_change, d_is_wish, d_deck, d_next, d_rows, d_holds, d_product, d_table, d_change, d_wish, d_l_is_whole, d_l_is_row, d_l_is_wish, d_step_off, d_spoilt, d_odd, d_law]
def fa : List He.Fa := [.glo "is_whole", .glo "is_worth", .glo "is_signs", .glo "is_row", .glo "is_change", .glo "is_wish", .glo "_law_deck", .glo "_law_next", .glo "_law_rows", .glo "_law_holds", .glo "_law_product", .glo "_law_table", .glo "_law_change", .glo "_law_wish", .glo "_law_is_whole", .glo "_law_is_row", .glo "_law_is_wish", .glo "_law_step_off", .glo "_law_spoilt", .glo "_law_odd", .glo "law", .free "all", .free "bool", .free "dict", .free "enumerate", .free "int", .free "isinstance", .free "len", .free "list", .free "range", .free "repr", .free "sorted", .free "str", .free "sum", .free "tuple", .int "MOST_WISHED" 4]
def tf : List He.Defn := [("is_signs", none), ("is_row", none), ("is_change", none), ("is_wish", none)]
abbrev RR : PySem.W.OpenRow := PySem.W.OpenLaw.row PySem.Challenge.rw_glitchnet_k42_what_is_a_wish
def yes : PySem.W.Frag → Bool := fun _ => true
abbrev hk : PySem.W.Hook := He.hookX 4 fa fn [] tf yes
def ob (s : PySem.W.SharedT) : He.AlX := He.obsX 4 fa fn [] tf yes (HandSHeadRun.getT s)
theorem ob_eq (s : PySem.W.SharedT) : ob s = hk.obs s.abs := He.obsX_eq (HandSHeadRun.getT_eq s)
theorem run (w : World) : HandSHeadRun.RunEq RR (PySem.W.view RR.prog [25]) hk ob 3000 [("is_whole" : PySem.Str), ("is_worth" : PySem.Str), ("is_signs" : PySem.Str), ("is_row" : PySem.Str), ("is_change" : PySem.Str), ("MOST_WISHED" : PySem.Str), ("is_wish" : PySem.Str), ("_law_deck" : PySem.Str), ("_law_next" : PySem.Str), ("_law_rows" : PySem.Str), ("_law_holds" : PySem.Str), ("_law_product" : PySem.Str), ("_law_table" : PySem.Str), ("_law_change" : PySem.Str), ("_law_wish" : PySem.Str), ("_law_is_whole" : PySem.Str), ("_law_is_row" : PySem.Str), ("_law_is_wish" : PySem.Str), ("_law_step_off" : PySem.Str), ("_law_spoilt" : PySem.Str), ("_law_odd" : PySem.Str)] w := by
  intro os
  kernel_rfl
theorem facts {w : World} {K : PySem.W.Frag} {h : Heap} {mg : Str → Option Value} {f : Addr} (X : K.In h) (G : h.Ns mainGlobals mg) (hfa : mg ("law" : Str) = some (.ref f)) (c : He.SaysX fa fn [] tf yes w h K) : LawAtG PySem.Challenge.rw_glitchnet_k42_what_is_a_wish w K CX0 13 63 "_law_script" mg f h := by
  obtain ⟨fd0, D0⟩ := c.t.d.def_ 0 (d := d_is_whole) rfl
  have F0 : Fun K "is_whole" "is_whole" s_is_whole (He.fAd K ("is_whole", none)) fd0 := fun_of D0
  have b0 := F0.binds (ps := ["thing"]) fun _ _ _ _ _ _ us hl => match us, hl with | [_], _ => rfl
  obtain ⟨fd1, D1⟩ := c.t.d.def_ 1 (d := d_is_worth) rfl
  have F1 : Fun K "is_worth" "is_worth" s_is_worth (He.fAd K ("is_worth", none)) fd1 := fun_of D1
  have b1 := F1.binds (ps := ["thing"]) fun _ _ _ _ _ _ us hl => match us, hl with | [_], _ => rfl
  obtain ⟨fd2, D2⟩ := c.t.d.def_ 2 (d := d_is_signs) rfl
  have F2 : Fun K "is_signs" "is_signs" s_is_signs (He.fAd K ("is_signs", none)) fd2 := fun_of D2
  have b2 := F2.binds (ps := ["many", "thing"]) fun _ _ _ _ _ _ us hl => match us, hl with | [_, _], _ => rfl
  obtain ⟨fd3, D3⟩ := c.t.d.def_ 3 (d := d_is_row) rfl
  have F3 : Fun K "is_row" "is_row" s_is_row (He.fAd K ("is_row", none)) fd3 := fun_of D3
  have b3 := F3.binds (ps := ["many", "thing"]) fun _ _ _ _ _ _ us hl => match us, hl with | [_, _], _ => rfl
  obtain ⟨fd4, D4⟩ := c.t.d.def_ 4 (d := d_is_change) rfl
  have F4 : Fun K "is_change" "is_change" s_is_change (He.fAd K ("is_change", none)) fd4 := fun_of D4
  have b4 := F4.binds (ps := ["many", "thing"]) fun _ _ _ _ _ _ us hl => match us, hl with | [_, _], _ => rfl
  obtain ⟨fd5, D5⟩ := c.t.d.def_ 5 (d := d_is_wish) rfl
  have F5 : Fun K "is_wish" "is_wish" s_is_wish (He.fAd K ("is_wish", none)) fd5 := fun_of D5
  have b5 := F5.binds (ps := ["thing"]) fun _ _ _ _ _ _ us hl => match us, hl with | [_], _ => rfl
  obtain ⟨fd6, D6⟩ := c.t.d.def_ 6 (d := d_deck) rfl
  have F6 : Fun K "_law_deck" "_law_deck" s_deck (He.fAd K ("_law_deck", none)) fd6 := fun_of D6
  have b6 := F6.binds (ps := ["_law_script"]) fun _ _ _ _ _ _ us hl => match us, hl with | [_], _ => rfl
  obtain ⟨fd7, D7⟩ := c.t.d.def_ 7 (d := d_next) rfl
  have F7 : Fun K "_law_next" "_law_next" s_next (He.fAd K ("_law_next", none)) fd7 := fun_of D7
  have b7 := F7.binds (ps := ["_law_deck_here", "_law_most"]) fun _ _ _ _ _ _ us hl => match us, hl with | [_, _], _ => rfl
  obtain ⟨fd8, D8⟩ := c.t.d.def_ 8 (d := d_rows) rfl
  have F8 : Fun K "_law_rows" "_law_rows" s_rows (He.fAd K ("_law_rows", none)) fd8 := fun_of D8
  have b8 := F8.binds (ps := ["_law_many"]) fun _ _ _ _ _ _ us hl => match us, hl with | [_], _ => rfl
  obtain ⟨fd9, D9⟩ := c.t.d.def_ 9 (d := d_holds) rfl
  have F9 : Fun K "_law_holds" "_law_holds" s_holds (He.fAd K ("_law_holds", none)) fd9 := fun_of D9
  have b9 := F9.binds (ps := ["_law_product_here", "_law_row"]) fun _ _ _ _ _ _ us hl => match us, hl with | [_, _], _ => rfl
  obtain ⟨fd10, D10⟩ := c.t.d.def_ 10 (d := d_product) rfl
  have F10 : Fun K "_law_product" "_law_product" s_product (He.fAd K ("_law_product", none)) fd10 := fun_of D10
  have b10 := F10.binds (ps := ["_law_deck_here", "_law_many"]) fun _ _ _ _ _ _ us hl => match us, hl with | [_, _], _ => rfl
  obtain ⟨fd11, D11⟩ := c.t.d.def_ 11 (d := d_table) rfl
  have F11 : Fun K "_law_table" "_law_table" s_table (He.fAd K ("_law_table", none)) fd11 := fun_of D11
  have b11 := F11.binds (ps := ["_law_deck_here", "_law_many"]) fun _ _ _ _ _ _ us hl => match us, hl with | [_, _], _ => rfl
  obtain ⟨fd12, D12⟩ := c.t.d.def_ 12 (d := d_change) rfl
  have F12 : Fun K "_law_change" "_law_change" s_change (He.fAd K ("_law_change", none)) fd12 := fun_of D12
  have b12 := F12.binds (ps := ["_law_deck_here", "_law_many", "_law_table_here"]) fun _ _ _ _ _ _ us hl => match us, hl with | [_, _, _], _ => rfl
  obtain ⟨fd13, D13⟩ := c.t.d.def_ 13 (d := d_wish) rfl
  have F13 : Fun K "_law_wish" "_law_wish" s_wish (He.fAd K ("_law_wish", none)) fd13 := fun_of D13
  have b13 := F13.binds (ps := ["_law_deck_here", "_law_most"]) fun _ _ _ _ _ _ us hl => match us, hl with | [_, _], _ => rfl
  obtain ⟨fd14, D14⟩ := c.t.d.def_ 14 (d := d_l_is_whole) rfl
  have F14 : Fun K "_law_is_whole" "_law_is_whole" s_l_is_whole (He.fAd K ("_law_is_whole", none)) fd14 := fun_of D14
  have b14 := F14.binds (ps := ["_law_thing"]) fun _ _ _ _ _ _ us hl => match us, hl with | [_], _ => rfl
  obtain ⟨fd15, D15⟩ := c.t.d.def_ 15 (d := d_l_is_row) rfl
  have F15 : Fun K "_law_is_row" "_law_is_row" s_l_is_row (He.fAd K ("_law_is_row", none)) fd15 := fun_of D15
  have b15 := F15.binds (ps := ["_law_many", "_law_thing"]) fun _ _ _ _ _ _ us hl => match us, hl with | [_, _], _ => rfl
  obtain ⟨fd16, D16⟩ := c.t.d.def_ 16 (d := d_l_is_wish) rfl
  have F16 : Fun K "_law_is_wish" "_law_is_wish" s_l_is_wish (He.fAd K ("_law_is_wish", none)) fd16 := fun_of D16
  have b16 := F16.binds (ps := ["_law_thing"]) fun _ _ _ _ _ _ us hl => match us, hl with | [_], _ => rfl
  obtain ⟨fd17, D17⟩ := c.t.d.def_ 17 (d := d_step_off) rfl
  have F17 : Fun K "_law_step_off" "_law_step_off" s_step_off (He.fAd K ("_law_step_off", none)) fd17 := fun_of D17
  have b17 := F17.binds (ps := ["_law_deck_here", "_law_thing"]) fun _ _ _ _ _ _ us hl => match us, hl with | [_, _], _ => rfl
  obtain ⟨fd18, D18⟩ := c.t.d.def_ 18 (d := d_spoilt) rfl
  have F18 : Fun K "_law_spoilt" "_law_spoilt" s_spoilt (He.fAd K ("_law_spoilt", none)) fd18 := fun_of D18
  have b18 := F18.binds (ps := ["_law_deck_here", "_law_thing"]) fun _ _ _ _ _ _ us hl => match us, hl with | [_, _], _ => rfl
  obtain ⟨fd19, D19⟩ := c.t.d.def_ 19 (d := d_odd) rfl
  have F19 : Fun K "_law_odd" "_law_odd" s_odd (He.fAd K ("_law_odd", none)) fd19 := fun_of D19
  have b19 := F19.binds (ps := ["_law_deck_here", "_law_wish_here"]) fun _ _ _ _ _ _ us hl => match us, hl with | [_, _], _ => rfl
  obtain ⟨fd20, D20⟩ := c.t.d.def_ 20 (d := d_law) rfl
  have F20 : Fun K "law" "law" s_law (He.fAd K ("law", none)) fd20 := fun_of D20
  have b20 := F20.binds (ps := ["_law_script"]) fun _ _ _ _ _ _ us hl => match us, hl with | [_], _ => rfl
  have e := hfa.symm.trans (He.glo_ok X G (c.t.d.fact 20 (f := .glo "law") rfl))
  cases e
  let T : Tx K mg := { f_is_whole := _, fd_is_whole := _, F_is_whole := F0, g_is_whole := He.glo_ok X G (c.t.d.fact 0 (f := .glo "is_whole") rfl), b_is_whole := b0, f_is_worth := _, fd_is_worth := _, F_is_worth := F1, g_is_worth := He.glo_ok X G (c.t.d.fact 1 (f := .glo "is_worth") rfl), b_is_worth := b1, f_is_signs := _, fd_is_signs := _, F_is_signs := F2, g_is_signs := He.glo_ok X G (c.t.d.fact 2 (f := .glo "is_signs") rfl), b_is_signs := b2, c_is_signs := (He.cT K ("is_signs", none)).1, P_is_signs := (He.cT K ("is_signs", none)).2, cd_is_signs := code_of F2, f_is_row := _, fd_is_row := _, F_is_row := F3, g_is_row := He.glo_ok X G (c.t.d.fact 3 (f := .glo "is_row") rfl), b_is_row := b3, c_is_row := (He.cT K ("is_row", none)).1, P_is_row := (He.cT K ("is_row", none)).2, cd_is_row := code_of F3, f_is_change := _, fd_is_change := _, F_is_change := F4, g_is_change := He.glo_ok X G (c.t.d.fact 4 (f := .glo "is_change") rfl), b_is_change := b4, c_is_change := (He.cT K ("is_change", none)).1, P_is_change := (He.cT K ("is_change", none)).2, cd_is_change := code_of F4, f_is_wish := _, fd_is_wish := _, F_is_wish := F5, g_is_wish := He.glo_ok X G (c.t.d.fact 5 (f := .glo "is_wish") rfl), b_is_wish := b5, c_is_wish := (He.cT K ("is_wish", none)).1, P_is_wish := (He.cT K ("is_wish", none)).2, cd_is_wish := code_of F5, f_deck := _, fd_deck := _, F_deck := F6, g_deck := He.glo_ok X G (c.t.d.fact 6 (f := .glo "_law_deck") rfl), b_deck := b6, f_next := _, fd_next := _, F_next := F7, g_next := He.glo_ok X G (c.t.d.fact 7 (f := .glo "_law_next") rfl), b_next := b7, f_rows := _, fd_rows := _, F_rows := F8, g_rows := He.glo_ok X G (c.t.d.fact 8 (f := .glo "_law_rows") rfl), b_rows := b8, f_holds := _, fd_holds := _, F_holds := F9, g_holds := He.glo_ok X G (c.t.d.fact 9 (f := .glo "_law_holds") rfl), b_holds := b9, f_product := _, fd_product := _, F_product := F10, g_product := He.glo_ok X G (c.t.d.fact 10 (f := .glo "_law_product") rfl), b_product := b10, f_table := _, fd_table := _, F_table := F11, g_table := He.glo_ok X G (c.t.d.fact 11 (f := .glo "_law_table") rfl), b_table := b11, f_change := _, fd_change := _, F_change := F12, g_change := He.glo_ok X G (c.t.d.fact 12 (f := .glo "_law_change") rfl), b_change := b12, f_wish := _, fd_wish := _, F_wish := F13, g_wish := He.glo_ok X G (c.t.d.fact 13 (f := .glo "_law_wish") rfl), b_wish := b13, f_l_is_whole := _, fd_l_is_whole := _, F_l_is_whole := F14, g_l_is_whole := He.glo_ok X G (c.t.d.fact 14 (f := .glo "_law_is_whole") rfl), b_l_is_whole := b14, f_l_is_row := _, fd_l_is_row := _, F_l_is_row := F15, g_l_is_row := He.glo_ok X G (c.t.d.fact 15 (f := .glo "_law_is_row") rfl), b_l_is_row := b15, f_l_is_wish := _, fd_l_is_wish := _, F_l_is_wish := F16, g_l_is_wish := He.glo_ok X G (c.t.d.fact 16 (f := .glo "_law_is_wish") rfl), b_l_is_wish := b16, f_step_off := _, fd_step_off := _, F_step_off := F17, g_step_off := He.glo_ok X G (c.t.d.fact 17 (f := .glo "_law_step_off") rfl), b_step_off := b17, f_spoilt := _, fd_spoilt := _, F_spoilt := F18, g_spoilt := He.glo_ok X G (c.t.d.fact 18 (f := .glo "_law_spoilt") rfl), b_spoilt := b18, f_odd := _, fd_odd := _, F_odd := F19, g_odd := He.glo_ok X G (c.t.d.fact 19 (f := .glo "_law_odd") rfl), b_odd := b19, f_law := _, fd_law := _, F_law := F20, g_law := He.glo_ok X G (c.t.d.fact 20 (f := .glo "law") rfl), b_law := b20, m_all := He.free_ok X G (c.t.d.fact 21 (f := .free "all") rfl), m_bool := He.free_ok X G (c.t.d.fact 22 (f := .free "bool") rfl), m_dict := He.free_ok X G (c.t.d.fact 23 (f := .free "dict") rfl), m_enumerate := He.free_ok X G (c.t.d.fact 24 (f := .free "enumerate") rfl), m_int := He.free_ok X G (c.t.d.fact 25 (f := .free "int") rfl), m_isinstance := He.free_ok X G (c.t.d.fact 26 (f := .free "isinstance") rfl), m_len := He.free_ok X G (c.t.d.fact 27 (f := .free "len") rfl), m_list := He.free_ok X G (c.t.d.fact 28 (f := .free "list") rfl), m_range := He.free_ok X G (c.t.d.fact 29 (f := .free "range") rfl), m_repr := He.free_ok X G (c.t.d.fact 30 (f := .free "repr") rfl), m_sorted := He.free_ok X G (c.t.d.fact 31 (f := .free "sorted") rfl), m_str := He.free_ok X G (c.t.d.fact 32 (f := .free "str") rfl), m_sum := He.free_ok X G (c.t.d.fact 33 (f := .free "sum") rfl), m_tuple := He.free_ok X G (c.t.d.fact 34 (f := .free "tuple") rfl), k_MOST_WISHED := He.int_ok X G (c.t.d.fact 35 (f := .int "MOST_WISHED" 4) rfl) }
  refine ⟨fd20, tf.map (He.cT K), sp_law K T.tabs, ?_, ?_, ?_, ?_, ?_, ?_⟩
  · rintro p hp
    obtain ⟨d, hd, rfl⟩ := List.mem_map.mp hp
    exact c.empty d hd
  · rintro p hp
    obtain ⟨d, hd, rfl⟩ := List.mem_map.mp hp
    exact c.out d hd
  · rintro p hp
    obtain ⟨d, hd, rfl⟩ := List.mem_map.mp hp
    exact PySem.W.codeHd_of_K X (c.hd d hd)
  · obtain ⟨oc, od, kV, doc, pm, an, cdv, ct, osl, rfl, lk, hcd⟩ := F20.ex
    exact fun s v => .of_eq rfl
  · intro H a ns hl hbits hT hS
    refine ⟨a, ns, rfl, hS, hl, fun P hP => ?_, fun _ => rfl⟩
    have hP : P ∈ (tf.map (He.cT K)).map (·.2) := hP
    obtain ⟨p, hp, rfl⟩ := List.mem_map.mp hP
    exact ⟨#[], hT p hp, by trivial⟩
  · intro base KB GB hTB
    have B : Tb base T := ⟨tab_of (hTB (He.cT K ("is_signs", none)) (List.mem_map.mpr ⟨_, (show (("is_signs", none) : He.Defn) ∈ tf by decide), rfl⟩)), tab_of (hTB (He.cT K ("is_row", none)) (List.mem_map.mpr ⟨_, (show (("is_row", none) : He.Defn) ∈ tf by decide), rfl⟩)), tab_of (hTB (He.cT K ("is_change", none)) (List.mem_map.mpr ⟨_, (show (("is_change", none) : He.Defn) ∈ tf by decide), rfl⟩)), tab_of (hTB (He.cT K ("is_wish", none)) (List.mem_map.mpr ⟨_, (show (("is_wish", none) : He.Defn) ∈ tf by decide), rfl⟩))⟩
    exact ok_law T B
end Gk
open PySem PySem.W PyProof.Rows
set_option maxRecDepth 100000 in
set_option maxHeartbeats 0 in
theorem PySem.Challenge.cw_glitchnet_k42_what_is_a_wish_holds : PySem.Challenge.rw_glitchnet_k42_what_is_a_wish.Holds := by
  w_on; o_law
  refine HandSHeadRun.head_any (r := OpenLaw.row PySem.Challenge.rw_glitchnet_k42_what_is_a_wish) (q := view (OpenLaw.row PySem.Challenge.rw_glitchnet_k42_what_is_a_wish).prog [25]) (H := Gk.hk) (ob := Gk.ob) (M := 3000) (loose := [("is_whole" : PySem.Str), ("is_worth" : PySem.Str), ("is_signs" : PySem.Str), ("is_row" : PySem.Str), ("is_change" : PySem.Str), ("MOST_WISHED" : PySem.Str), ("is_wish" : PySem.Str), ("_law_deck" : PySem.Str), ("_law_next" : PySem.Str), ("_law_rows" : PySem.Str), ("_law_holds" : PySem.Str), ("_law_product" : PySem.Str), ("_law_table" : PySem.Str), ("_law_change" : PySem.Str), ("_law_wish" : PySem.Str), ("_law_is_whole" : PySem.Str), ("_law_is_row" : PySem.Str), ("_law_is_wish" : PySem.Str), ("_law_step_off" : PySem.Str), ("_law_spoilt" : PySem.Str), ("_law_odd" : PySem.Str)]) (d := HandSHeadRun.topDef (OpenLaw.row PySem.Challenge.rw_glitchnet_k42_what_is_a_wish).prog 25) (kwd := []) Gk.ob_eq
    (by kernel_rfl) (fun s => by kernel_rfl) Gk.run (by kernel_rfl) (by kernel_rfl) (by kernel_rfl) (by rfl) (by first | assumption | decide +kernel) (by decide +kernel) ⟨rfl, rfl, rfl, rfl, rfl, by decide +kernel⟩ ?hw ?hc
  case hw => w_witness2
  case hc =>
    refine Gk.walk_GT (l := PySem.Challenge.rw_glitchnet_k42_what_is_a_wish) (n := 63) (k := 13) (x := "_law_script") (CX := fun _ => L2.CX0) rfl (by decide) (by kernel_rfl) ⟨rfl, by decide, by decide⟩ ?F (fun _ _ _ _ _ z => z)
    intro w mg fa h Y G hmg0
    obtain ⟨K, KX, c⟩ := Y
    have hmg : mg ("law" : PySem.Str) = some (.ref fa) := by
      have e : (HandSHeadRun.topDef (OpenLaw.row PySem.Challenge.rw_glitchnet_k42_what_is_a_wish).prog 25).name = ("law" : PySem.Str) := by kernel_rfl
      rw [← e]
      exact hmg0
    exact ⟨K, KX, Gk.facts KX G hmg c⟩
