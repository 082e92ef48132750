import PyProof.Rows.All
import Wide.All
import OpenK.AllK
import Wide.FinOn
import HandS.ForMost
import HandS.IsInst
import HandS.TupLe
import HandS.More
import HandS.Codes
import HandS.Conv
import HandS.Deep
import HandS.TupSets
import PySem.Challenge.RW_glitchnet_k17_pairs_of_words
set_option Elab.async false
set_option linter.all false
set_option maxRecDepth 100000
namespace Gk
open PySem PySem.Spec PyProof.Rows L2
/-! ### the text -/
def topS (i : Nat) : Stmt := PySem.Challenge.pw_glitchnet_k17_pairs_of_words.main.body.getD i (.Pass ⟨0, 0, 0, 0⟩)
abbrev s_pairs_of : Stmt := topS 1
abbrev s_deck : Stmt := topS 3
abbrev s_draw : Stmt := topS 4
abbrev s_worths : Stmt := topS 5
abbrev s_due : Stmt := topS 6
abbrev s_same : Stmt := topS 7
abbrev s_law : Stmt := topS 8
theorem sc_pairs_of : FnScope ["word", "first", "last", "fro"] ["word"] (defScope s_pairs_of) := ⟨rfl, rfl, rfl, by decide +kernel, rfl, by decide +kernel, by decide +kernel⟩
theorem sc_deck : FnScope ["_law_script", "_law_last"] ["_law_script"] (defScope s_deck) := ⟨rfl, rfl, rfl, by decide +kernel, rfl, by decide +kernel, by decide +kernel⟩
theorem sc_draw : FnScope ["_law_deck_here", "_law_most", "_law_cell", "_law_number"] ["_law_deck_here", "_law_most"] (defScope s_draw) := ⟨rfl, rfl, rfl, by decide +kernel, rfl, by decide +kernel, by decide +kernel⟩
theorem sc_worths : FnScope ["_law_first", "_law_number", "_law_worths_here", "_law_k"] ["_law_first", "_law_number"] (defScope s_worths) := ⟨rfl, rfl, rfl, by decide +kernel, rfl, by decide +kernel, by decide +kernel⟩
theorem sc_due : FnScope ["_law_word", "_law_first", "_law_last", "_law_fro", "_law_found", "_law_number", "_law_worths_here", "_law_many", "_law_k", "_law_pair", "_law_worth"] ["_law_word"] (defScope s_due) := ⟨rfl, rfl, rfl, by decide +kernel, rfl, by decide +kernel, by decide +kernel⟩
theorem sc_same : FnScope ["_law_found", "_law_due_here", "_law_pair", "_law_one"] ["_law_found", "_law_due_here"] (defScope s_same) := ⟨rfl, rfl, rfl, by decide +kernel, rfl, by decide +kernel, by decide +kernel⟩
theorem sc_law : FnScope ["_law_script", "_law_deck_here", "_law_numbers", "_law_turn", "_law_number", "_law_one", "_law_word"] ["_law_script"] (defScope s_law) := ⟨rfl, rfl, rfl, by decide +kernel, rfl, by decide +kernel, by decide +kernel⟩
structure Tx (K : PySem.W.Frag) (mg : Str → Option Value) where
  f_pairs_of : Addr
  fd_pairs_of : FuncData
  F_pairs_of : Fun K "pairs_of" "pairs_of" s_pairs_of f_pairs_of fd_pairs_of
  g_pairs_of : mg "pairs_of" = some (.ref f_pairs_of)
  b_pairs_of : Binds K fd_pairs_of ["word"] []
  f_deck : Addr
  fd_deck : FuncData
  F_deck : Fun K "_law_deck" "_law_deck" s_deck f_deck fd_deck
  g_deck : mg "_law_deck" = some (.ref f_deck)
  b_deck : Binds K fd_deck ["_law_script"] []
  f_draw : Addr
  fd_draw : FuncData
  F_draw : Fun K "_law_draw" "_law_draw" s_draw f_draw fd_draw
  g_draw : mg "_law_draw" = some (.ref f_draw)
  b_draw : Binds K fd_draw ["_law_deck_here", "_law_most"] []
  f_worths : Addr
  fd_worths : FuncData
  F_worths : Fun K "_law_worths" "_law_worths" s_worths f_worths fd_worths
  g_worths : mg "_law_worths" = some (.ref f_worths)
  b_worths : Binds K fd_worths ["_law_first", "_law_number"] []
  f_due : Addr
  fd_due : FuncData
  F_due : Fun K "_law_due" "_law_due" s_due f_due fd_due
  g_due : mg "_law_due" = some (.ref f_due)
  b_due : Binds K fd_due ["_law_word"] []
  f_same : Addr
  fd_same : FuncData
  F_same : Fun K "_law_same" "_law_same" s_same f_same fd_same
  g_same : mg "_law_same" = some (.ref f_same)
  b_same : Binds K fd_same ["_law_found", "_law_due_here"] []
  f_law : Addr
  fd_law : FuncData
  F_law : Fun K "law" "law" s_law f_law fd_law
  g_law : mg "law" = some (.ref f_law)
  b_law : Binds K fd_law ["_law_script"] []
  m_bool : mg "bool" = none
  m_int : mg "int" = none
  m_isinstance : mg "isinstance" = none
  m_list : mg "list" = none
  m_range : mg "range" = none
  m_set : mg "set" = none
  m_sorted : mg "sorted" = none
  m_sum : mg "sum" = none
  m_tuple : mg "tuple" = none
/-! ### heaps -/
theorem same_upd {H : Hp} {p : Addr} {o : HO} (h : H p = none) : Same H (upd H p o) := fun b x e => by
  rw [upd_ne (ne_of_none e h)]
  exact e
def Fr (d l : Addr) (H H' : Hp) : Prop := ∀ b o, b ≠ d → b ≠ l → H b = some o → H' b = some o
theorem Fr.trans {d l : Addr} {H H1 H2 : Hp} (a : Fr d l H H1) (b : Fr d l H1 H2) : Fr d l H H2 := fun c o h1 h2 h => b c o h1 h2 (a c o h1 h2 h)
theorem Fr.refl {d l : Addr} {H : Hp} : Fr d l H H := fun _ _ _ _ h => h
theorem Fr.new {d l p : Addr} {H : Hp} {o : HO} (h : H p = none) : Fr d l H (upd H p o) := fun b x _ _ e => same_upd h b x e
theorem Fr.of {d l : Addr} {H H' : Hp} (h : Same H H') : Fr d l H H' := fun b x _ _ e => h b x e
theorem Fr.d {d l : Addr} {H : Hp} {o : HO} : Fr d l H (upd H d o) := fun b x h1 _ e => by rw [upd_ne h1]; exact e
theorem Fr.l {d l : Addr} {H : Hp} {o : HO} : Fr d l H (upd H l o) := fun b x _ h2 e => by rw [upd_ne h2]; exact e
def Deck (H : Hp) (d l : Addr) : Prop := d ≠ l ∧ ∃ (cs : List Int) (z : Int), H d = some (.lst [.ref l, .int z]) ∧ H l = some (.lst (cs.map V.int)) ∧ cs.length ≤ 63 ∧ 0 ≤ z ∧ z < 4294967296
theorem Deck.same {H H' : Hp} {d l : Addr} (D : Deck H d l) (s : Same H H') : Deck H' d l := by
  obtain ⟨ne, cs, z, hd, hl, r⟩ := D
  exact ⟨ne, cs, z, s _ _ hd, s _ _ hl, r⟩
theorem Deck.new {H : Hp} {d l p : Addr} {o : HO} (D : Deck H d l) (h : H p = none) : Deck (upd H p o) d l := D.same (same_upd h)
theorem Deck.ne_new {H : Hp} {d l p : Addr} (D : Deck H d l) (h : H p = none) : p ≠ d ∧ p ≠ l := by
  obtain ⟨ne, cs, z, hd, hl, r⟩ := D
  exact ⟨(ne_of_none hd h).symm, (ne_of_none hl h).symm⟩
theorem p29 : (0 : Int) < 2147483629 := by decide
theorem p47 : (0 : Int) < 2147483647 := by decide
theorem p87 : (0 : Int) < 2147483587 := by decide
theorem sl1 : 1 ≤ sizeLine := by decide
theorem sl2 : 2 ≤ sizeLine := by decide
theorem sl3 : 3 ≤ sizeLine := by decide
theorem sl4 : 4 ≤ sizeLine := by decide
theorem seqIx0 {α : Type} (x : α) (xs : List α) : seqIndex? 0 (x :: xs).length = some 0 := by
  refine (ixN_seq (n := (x :: xs).length) (i := 0) (j := 0) ?_).1
  unfold ixN
  rw [if_pos (by decide), if_pos (by rw [List.length_cons]; omega)]
  rfl
theorem dpInts {K : PySem.W.Frag} {H : Hp} : ∀ cs : List Int, DpAll K H (cs.map V.int) (cs.map PyData.int)
  | [] => .nil
  | c :: r => .cons (.int c) (dpInts r)
theorem shInts (ns : List Int) : SeqAt.shaped (.list (ns.map PyData.int)) = true := by
  unfold SeqAt.shaped
  rw [Bool.and_eq_true]
  refine ⟨?_, ?_⟩
  · simp only [PyData.canLay0, canLayAll_ints]
  · simp only [PyData.depth, depthAll_ints]
    decide
theorem at_pick {xs : List V} {j : Int} (h0 : 0 ≤ j) (h1 : j < xs.length) : ∃ x, atI xs j = some x ∧ x ∈ xs := by
  obtain ⟨k, rfl⟩ : ∃ k : Nat, j = (k : Int) := ⟨j.toNat, (Int.toNat_of_nonneg h0).symm⟩
  have hk : k < xs.length := by omega
  exact ⟨xs[k], atI_nat (List.getElem?_eq_getElem hk), List.getElem_mem hk⟩
theorem units65 {k : Nat} {A : Around} (r : Room k A) : A.units + 65 < cLine := by have := r.un; omega
def rLenK (K : PySem.W.Frag) : List V → Hp → VK → Prop := fun xs H Q => ∃ p ys, xs = [.ref p] ∧ (SqL K H p ys ∨ SqT K H p ys) ∧ Q (.int ys.length) H
def rTupK (K : PySem.W.Frag) : List V → Hp → VK → Prop := fun xs H Q => ∃ p ys, xs = [.ref p] ∧ ((SqL K H p ys ∧ ∀ l, H l = none → Q (.ref l) (upd H l (.tup ys))) ∨ (SqT K H p ys ∧ Q (.ref p) H))
def rLstK (K : PySem.W.Frag) : List V → Hp → VK → Prop := fun xs H Q => ∃ p ys, xs = [.ref p] ∧ (SqL K H p ys ∨ SqT K H p ys) ∧ ∀ l, H l = none → Q (.ref l) (upd H l (.lst ys))
/-- joining ways behind a test, behind an expression -/
def tCutT (t : TT) : TT := fun σ H Q => ∃ Mid : Bool → Hp → Prop, t σ H Mid ∧ ∀ b H1, Mid b H1 → Q b H1
theorem pt_cut {X : Cx} {e : Expr} {t : TT} (h : PT X e t) : PT X e (tCutT t) := ⟨fun pins s σ H Q I hw => by
  obtain ⟨Mid, h1, q⟩ := hw
  exact thn (h.run pins s σ H _ I h1) fun c s1 ⟨H1, I1, m⟩ => ⟨H1, I1, q _ _ m⟩⟩
def tCutE (t : TE) : TE := fun σ H Q => ∃ Mid : VK, t σ H Mid ∧ ∀ v H1, Mid v H1 → Q v H1
theorem pe_cut {X : Cx} {e : Expr} {t : TE} (h : PE X e t) : PE X e (tCutE t) := ⟨fun pins s σ H Q I hw => by
  obtain ⟨Mid, h1, q⟩ := hw
  exact thn (h.run pins s σ H _ I h1) fun u s1 ⟨v, H1, I1, r, m⟩ => ⟨v, H1, I1, r, q _ _ m⟩⟩

section
variable {P : Program} {w : World} {K : PySem.W.Frag} {mg : Str → Option Value} {base : Heap}
/-! ### the deck -/
def sp_deck (K : PySem.W.Frag) : Sp := fun vs H Q _ => ∃ (a : Addr) (ns : List Int), vs = [.ref a] ∧ SqL K H a (ns.map V.int) ∧ ns.length ≤ 63 ∧ ∀ H' d l, Same H H' → Deck H' d l → Q (.ref d) H'
theorem cut63 {ns : List Int} (h : ns.length ≤ 63) : cutV (ns.map V.int) none (some 63) = ns.map V.int := by
  unfold cutV
  have e : HT.sIx (ns.map V.int).length (ns.map V.int).length (some 63) = min 63 (ns.map V.int).length := HT.sIx_nat _ _ 63
  rw [HT.sIx_none, e, List.length_map, List.drop_zero]
  apply List.take_of_length_le
  rw [List.length_map]
  omega
theorem ok_deck (T : Tx K mg) : FnOk P w K mg base CX0 1 T.f_deck T.fd_deck ["_law_script"] (sp_deck K) := by
  refine T.F_deck.ok sc_deck (fun vs H Q E h => ?_) (fun cdv A outer s H vs Q E hr h => ?_)
  · obtain ⟨a, ns, rfl, _⟩ := h
    rfl
  · obtain ⟨a, ns, rfl, hS, hlen, q⟩ := h
    refine ⟨_, (pss_cons (ps_set (i := 1) sc_deck.nd rfl (by first | exact .inl rfl | exact .inr rfl) (pe_op op_add pe_int (pe_op op_mod (pe_callB (cr_sum rfl) (by rfl) T.m_sum (by decide +kernel) (pa_cons (pe_slice sl_list (pv 0) po_none (po_some pe_int)) pa_nil)) pe_int))) (pss_one (ps_ret (pe_lst (pa_cons (pe_callTy call_list_of (by rfl) T.m_list (by decide +kernel) (pa_cons (pe_slice sl_list (pv 0) po_none (po_some pe_int)) pa_nil)) (pa_cons (pv 1) pa_nil)))))), ?_⟩
    refine ⟨.ref a, rfl, 63, rfl, a, _, rfl, hS, fun c nc => ?_⟩
    rw [cut63 hlen]
    have s1 : Same H (upd H c (.lst (ns.map V.int))) := same_upd nc
    refine ⟨c, ns, rfl, SqL.of upd_same, _, _, rfl, rfl, p29, _, _, rfl, rfl, ?_⟩
    refine ⟨.ref a, rfl, 63, rfl, a, _, rfl, s1.seq hS, fun c2 nc2 => ?_⟩
    rw [cut63 hlen]
    refine ⟨c2, _, rfl, .inl (SqL.of upd_same), fun l nl => ?_⟩
    refine ⟨_, rfl, sl2, fun d nd => ?_⟩
    have nld : l ≠ d := fun e => by rw [← e, upd_same] at nd; cases nd
    refine q _ d l (((s1.trans (same_upd nc2)).trans (same_upd nl)).trans (same_upd nd)) ⟨nld.symm, ns, _, upd_same, (by rw [upd_ne nld, upd_same]), hlen, ?_, ?_⟩
    · have := Int.emod_nonneg ns.sum (show (2147483629 : Int) ≠ 0 by decide)
      omega
    · have := Int.emod_lt_of_pos ns.sum (show (0 : Int) < 2147483629 by decide)
      omega
/-! ### a draw -/
def sp_draw (K : PySem.W.Frag) : Sp := fun vs H Q _ => ∃ (d l : Addr) (m : Int), vs = [.ref d, .int m] ∧ Deck H d l ∧ 0 < m ∧ m < 1073741824 ∧ ∀ H' v, Deck H' d l → Fr d l H H' → 0 ≤ v → v < m → Q (.int v) H'
theorem ok_draw (T : Tx K mg) : FnOk P w K mg base CX0 1 T.f_draw T.fd_draw ["_law_deck_here", "_law_most"] (sp_draw K) := by
  refine T.F_draw.ok sc_draw (fun vs H Q E h => ?_) (fun cdv A outer s H vs Q E hr h => ?_)
  · obtain ⟨d, l, m, rfl, _⟩ := h
    rfl
  · obtain ⟨d, l, m, rfl, D, hm0, hm1, q⟩ := h
    obtain ⟨ne, cs, z, hd, hl, hcs, hz0, hz1⟩ := D
    refine ⟨_, (pss_cons (ps_if (pt_cmpR (op_eqD hr.units) (pe_ix ix_list (pv 0) pe_int (fun _ _ => rfl)) (pe_lst pa_nil) (nomark _)) (pss_cons (ps_asg (pe_op op_mod (pe_op op_add (pe_op op_add (pe_op op_mul (pe_ix ix_list (pv 0) pe_int (fun _ _ => rfl)) (pe_ix ix_list (pv 0) pe_int (fun _ _ => rfl))) (pe_op op_mul pe_int (pe_ix ix_list (pv 0) pe_int (fun _ _ => rfl)))) pe_int) pe_int) (pg_sub (pv 0) pe_int set_list)) (pss_cons (ps_asg (pe_op op_mod (pe_op op_add (pe_op op_add (pe_op op_mul (pe_ix ix_list (pv 0) pe_int (fun _ _ => rfl)) (pe_ix ix_list (pv 0) pe_int (fun _ _ => rfl))) (pe_op op_mul pe_int (pe_ix ix_list (pv 0) pe_int (fun _ _ => rfl)))) pe_int) pe_int) (pg_sub (pv 0) pe_int set_list)) (pss_one (ps_ret (pe_op op_mod (pe_op op_fdiv (pe_ix ix_list (pv 0) pe_int (fun _ _ => rfl)) pe_int) (pv 1)))))) pss_nil) (pss_cons (ps_set (i := 2) sc_draw.nd rfl (by first | exact .inl rfl | exact .inr rfl) (pe_bm PySem.F.plainAttrs_list PySem.F.slot_list_pop PySem.F.type_list_pop mt_popAt (pe_ix ix_list (pv 0) pe_int (fun _ _ => rfl)) (pa_cons pe_int pa_nil))) (pss_cons (ps_if (pt_cmpR op_ge (pv 2) (pe_op op_pow pe_int pe_int) (nomark _)) (pss_cons (ps_expr (pe_bm PySem.F.plainAttrs_list PySem.F.slot_list_insert PySem.F.type_list_insert mt_insert (pe_ix ix_list (pv 0) pe_int (fun _ _ => rfl)) (pa_cons pe_int (pa_cons (pe_op op_fdiv (pv 2) (pv 1)) pa_nil)))) (pss_one (ps_ret (pe_op op_mod (pv 2) (pv 1))))) pss_nil) (pss_cons (ps_asg (pe_op op_mod (pe_op op_add (pe_ix ix_list (pv 0) pe_int (fun _ _ => rfl)) pe_int) pe_int) (pg_sub (pv 0) pe_int set_list)) (pss_cons (ps_set (i := 3) sc_draw.nd rfl (by first | exact .inl rfl | exact .inr rfl) (pe_op op_mod (pe_op op_add (pe_op op_mul (pe_op op_mod (pv 2) pe_int) pe_int) (pe_ix ix_list (pv 0) pe_int (fun _ _ => rfl))) pe_int)) (pss_one (ps_ret (pe_op op_mod (pe_op op_fdiv (pe_op op_mod (pe_op op_add (pe_op op_mul (pv 3) (pv 3)) (pe_op op_mul pe_int (pv 3))) pe_int) pe_int) (pv 1))))))))), ?_⟩
    -- if deck[0] == []
    refine ⟨.ref d, rfl, d, _, 0, .ref l, rfl, rfl, SqL.of hd, rfl, Nat.zero_le _, fun p np => ?_⟩
    have fr1 : Fr d l H (upd H p (.lst [])) := Fr.new np
    have hd1 : (upd H p (.lst [])) d = some (.lst [.ref l, .int z]) := same_upd np _ _ hd
    have hl1 : (upd H p (.lst [])) l = some (.lst (cs.map V.int)) := same_upd np _ _ hl
    refine ⟨.list (cs.map .int), .list [], .lst (SqL.of hl1) (dpInts cs), .lst (SqL.of upd_same) .nil, shInts cs, rfl, _, rfl, ?_⟩
    revert fr1 hd1 hl1
    generalize upd H p (.lst []) = H1
    intro fr1 hd1 hl1
    cases cs with
    | nil =>
      refine iteT ?_
      -- two stores
      refine ⟨.ref d, rfl, d, _, 1, .int z, rfl, rfl, SqL.of hd1, rfl, .ref d, rfl, d, _, 1, .int z, rfl, rfl, SqL.of hd1, rfl, z, z, rfl, rfl, .inl ⟨by omega, by omega⟩, .ref d, rfl, d, _, 1, .int z, rfl, rfl, SqL.of hd1, rfl, 48271, z, rfl, rfl, .inl ⟨by decide, by decide⟩, _, _, rfl, rfl, _, _, rfl, rfl, _, _, rfl, rfl, p47, .ref d, rfl, d, _, 1, 1, rfl, rfl, hd1, rfl, ?_⟩
      dsimp only
      have y0 := Int.emod_nonneg (z * z + 48271 * z + 11) (show (2147483647 : Int) ≠ 0 by decide)
      have y1 := Int.emod_lt_of_pos (z * z + 48271 * z + 11) (show (0 : Int) < 2147483647 by decide)
      revert y0 y1
      generalize (z * z + 48271 * z + 11) % 2147483647 = y
      intro y0 y1
      have hd2 : (upd H1 d (.lst [.ref l, .int y])) d = some (.lst [.ref l, .int y]) := upd_same
      have hl2 : (upd H1 d (.lst [.ref l, .int y])) l = some (.lst []) := by rw [upd_ne ne.symm]; exact hl1
      have fr2 : Fr d l H (upd H1 d (.lst [.ref l, .int y])) := fr1.trans Fr.d
      refine ⟨.ref d, rfl, d, _, 1, .int y, rfl, rfl, SqL.of hd2, rfl, .ref d, rfl, d, _, 1, .int y, rfl, rfl, SqL.of hd2, rfl, y, y, rfl, rfl, .inl ⟨by omega, by omega⟩, .ref d, rfl, d, _, 1, .int y, rfl, rfl, SqL.of hd2, rfl, 69621, y, rfl, rfl, .inl ⟨by decide, by decide⟩, _, _, rfl, rfl, _, _, rfl, rfl, _, _, rfl, rfl, p29, .ref d, rfl, d, _, 1, 1, rfl, rfl, hd2, rfl, ?_⟩
      dsimp only
      have x0 := Int.emod_nonneg (y * y + 69621 * y + 7) (show (2147483629 : Int) ≠ 0 by decide)
      have x1 := Int.emod_lt_of_pos (y * y + 69621 * y + 7) (show (0 : Int) < 2147483629 by decide)
      revert x0 x1
      generalize (y * y + 69621 * y + 7) % 2147483629 = x
      intro x0 x1
      refine ⟨.ref d, rfl, d, _, 1, .int x, rfl, rfl, SqL.of upd_same, rfl, _, _, rfl, rfl, ⟨by decide, by decide⟩, .int m, rfl, _, _, rfl, rfl, hm0, ?_⟩
      exact q _ _ ⟨ne, [], x, upd_same, (by rw [upd_ne ne.symm]; exact hl2), hcs, by omega, by omega⟩ (fr2.trans Fr.d) (Int.emod_nonneg _ (by omega)) (Int.emod_lt_of_pos _ hm0)
    | cons c r =>
      refine iteF ?_
      -- cell = deck[0].pop(0)
      refine ⟨.ref d, rfl, d, _, 0, .ref l, rfl, rfl, SqL.of hd1, rfl, .inl ⟨rfl, _, SqL.of hl1⟩, l, _, 0, 0, .int c, rfl, rfl, hl1, by decide, by decide, seqIx0 _ _, rfl, ?_⟩
      have hd2 : (upd H1 l (.lst (r.map V.int))) d = some (.lst [.ref l, .int z]) := by rw [upd_ne ne]; exact hd1
      have hl2 : (upd H1 l (.lst (r.map V.int))) l = some (.lst (r.map V.int)) := upd_same
      have fr2 : Fr d l H (upd H1 l (.lst (r.map V.int))) := fr1.trans Fr.l
      have hr63 : r.length + 1 ≤ 63 := hcs
      -- if cell >= 10 ** 18
      refine ⟨.int c, rfl, _, _, rfl, rfl, ⟨by decide, by decide, by decide⟩, _, _, rfl, rfl, _, rfl, ite2 (fun _ => ?_) (fun _ => ?_)⟩
      · refine ⟨.ref d, rfl, d, _, 0, .ref l, rfl, rfl, SqL.of hd2, rfl, .inl ⟨rfl, _, SqL.of hl2⟩, .int c, rfl, .int m, rfl, _, _, rfl, rfl, ⟨hm0, hm1⟩, l, _, 0, _, rfl, rfl, hl2, ?_, by decide, by decide, ?_⟩
        · rw [List.length_map]
          exact Nat.lt_of_lt_of_le (show r.length < 64 by omega) (by decide)
        · refine ⟨.int c, rfl, .int m, rfl, _, _, rfl, rfl, hm0, ?_⟩
          refine q _ _ ⟨ne, c / m :: r, z, (by rw [upd_ne ne]; exact hd2), ?_, hr63, hz0, hz1⟩ (fr2.trans Fr.l) (Int.emod_nonneg _ (by omega)) (Int.emod_lt_of_pos _ hm0)
          rw [upd_same]
          simp
      · refine ⟨.ref d, rfl, d, _, 1, .int z, rfl, rfl, SqL.of hd2, rfl, _, _, rfl, rfl, _, _, rfl, rfl, p29, .ref d, rfl, d, _, 1, 1, rfl, rfl, hd2, rfl, ?_⟩
        dsimp only
        have y0 := Int.emod_nonneg (z + 69621) (show (2147483629 : Int) ≠ 0 by decide)
        have y1 := Int.emod_lt_of_pos (z + 69621) (show (0 : Int) < 2147483629 by decide)
        revert y0 y1
        generalize (z + 69621) % 2147483629 = y
        intro y0 y1
        have u0 := Int.emod_nonneg c (show (2147483647 : Int) ≠ 0 by decide)
        have u1 := Int.emod_lt_of_pos c (show (0 : Int) < 2147483647 by decide)
        refine ⟨.int c, rfl, _, _, rfl, rfl, p47, c % 2147483647, 48271, rfl, rfl, .inl ⟨by omega, by omega⟩, .ref d, rfl, d, _, 1, .int y, rfl, rfl, SqL.of upd_same, rfl, _, _, rfl, rfl, _, _, rfl, rfl, p29, ?_⟩
        dsimp only
        have v0 := Int.emod_nonneg (c % 2147483647 * 48271 + y) (show (2147483629 : Int) ≠ 0 by decide)
        have v1 := Int.emod_lt_of_pos (c % 2147483647 * 48271 + y) (show (0 : Int) < 2147483629 by decide)
        revert v0 v1
        generalize (c % 2147483647 * 48271 + y) % 2147483629 = v
        intro v0 v1
        refine ⟨.int v, rfl, .int v, rfl, v, v, rfl, rfl, .inl ⟨by omega, by omega⟩, .int v, rfl, 16807, v, rfl, rfl, .inl ⟨by decide, by decide⟩, _, _, rfl, rfl, _, _, rfl, rfl, p87, _, _, rfl, rfl, ⟨by decide, by decide⟩, .int m, rfl, _, _, rfl, rfl, hm0, ?_⟩
        exact q _ _ ⟨ne, r, y, upd_same, (by rw [upd_ne ne.symm]; exact hl2), by omega, by omega, by omega⟩ (fr2.trans Fr.d) (Int.emod_nonneg _ (by omega)) (Int.emod_lt_of_pos _ hm0)

/-! ### pairs of words -/
def WordAt (H : Hp) (p : Addr) (a b : Int) (c : Bool) : Prop := H p = some (.tup [.int a, .int b, .bl c])
def pairsM (f l : Int) (c : Bool) : List (Int × Int) := if c = true then [(0, 0), (0, 1), (1, 0), (1, 1)] else if f = l then [(f, f)] else if f = 0 then [(0, 0), (0, 1), (1, 1)] else [(0, 0), (1, 0), (1, 1)]
def PairAt (H : Hp) (k : Addr × Int × Int) : Prop := H k.1 = some (.tup [.int k.2.1, .int k.2.2])
def PairsAt (H : Hp) (r : Addr) (ps : List (Int × Int)) : Prop := ∃ ks : List (Addr × Int × Int), H r = some (.tup (ks.map fun k => V.ref k.1)) ∧ (∀ k ∈ ks, PairAt H k) ∧ ks.map (·.2) = ps
theorem PairsAt.same {H H' : Hp} {r : Addr} {ps : List (Int × Int)} (h : PairsAt H r ps) (s : Same H H') : PairsAt H' r ps := by
  obtain ⟨ks, h1, h2, h3⟩ := h
  exact ⟨ks, s _ _ h1, fun k hk => s _ _ (h2 k hk), h3⟩
theorem sorted_one {α : Type} (c : α → Int) : ∀ (T M : List α), T.Pairwise (fun x y => c x < c y) → M.Nodup → M.Pairwise (fun x y => c x ≤ c y) → (∀ x, x ∈ M ↔ x ∈ T) → M = T
  | [], M, _, _, _, hm => by
    cases M with
    | nil => rfl
    | cons m r => cases (hm m).mp (List.mem_cons_self ..)
  | t :: T, M, hT, hn, hp, hm => by
    cases M with
    | nil => cases (hm t).mpr (List.mem_cons_self ..)
    | cons m r =>
      have hT' := List.pairwise_cons.mp hT
      have hn' := List.nodup_cons.mp hn
      have hp' := List.pairwise_cons.mp hp
      have e : m = t := by
        rcases List.mem_cons.mp ((hm m).mp (List.mem_cons_self ..)) with h | h
        · exact h
        · have h1 := hT'.1 m h
          rcases List.mem_cons.mp ((hm t).mpr (List.mem_cons_self ..)) with h2 | h2
          · exact h2.symm
          · have h3 := hp'.1 t h2
            omega
      subst e
      rw [sorted_one c T r hT'.2 hn'.2 hp'.2 fun x => ⟨fun h => ?_, fun h => ?_⟩]
      · rcases List.mem_cons.mp ((hm x).mp (List.mem_cons_of_mem _ h)) with h2 | h2
        · subst h2
          exact absurd h hn'.1
        · exact h2
      · rcases List.mem_cons.mp ((hm x).mpr (List.mem_cons_of_mem _ h)) with h2 | h2
        · subst h2
          have := hT'.1 x h
          omega
        · exact h2
def sp_pairs_of (K : PySem.W.Frag) : Sp := fun vs H Q _ => ∃ (wd : Addr) (f l : Int) (c : Bool), vs = [.ref wd] ∧ WordAt H wd f l c ∧ (f = 0 ∨ f = 1) ∧ (l = 0 ∨ l = 1) ∧ ∀ r H', Same H H' → PairsAt H' r (pairsM f l c) → Q (.ref r) H'
theorem code2 (x y : Int) : TS.code 64 [x, y] = x * 64 + y := code_pair x y
theorem pairs_sorted {f l : Int} (hf : f = 0 ∨ f = 1) (hl : l = 0 ∨ l = 1) {M : List (List Int)} (hn : M.Nodup) (hp : M.Pairwise fun x y => TS.code 64 x ≤ TS.code 64 y) (h1 : ∀ x ∈ M, x ∈ [[f, f], [f, l], [l, l]]) (h2 : ∀ x ∈ [[f, f], [f, l], [l, l]], x ∈ M) : M.map (fun x => (x.getD 0 0, x.getD 1 0)) = pairsM f l false := by
  have key : ∀ T : List (List Int), T.Pairwise (fun x y => TS.code 64 x < TS.code 64 y) → (∀ x ∈ [[f, f], [f, l], [l, l]], x ∈ T) → (∀ x ∈ T, x ∈ [[f, f], [f, l], [l, l]]) → M = T := fun T hT a b =>
    sorted_one (TS.code 64) T M hT hn hp fun x => ⟨fun h => a x (h1 x h), fun h => h2 x (b x h)⟩
  rcases hf with rfl | rfl <;> rcases hl with rfl | rfl
  · rw [key [[0, 0]] (by decide) (by decide) (by decide)]; rfl
  · rw [key [[0, 0], [0, 1], [1, 1]] (by decide) (by decide) (by decide)]; rfl
  · rw [key [[0, 0], [1, 0], [1, 1]] (by decide) (by decide) (by decide)]; rfl
  · rw [key [[1, 1]] (by decide) (by decide) (by decide)]; rfl
theorem ok_pairs_of (T : Tx K mg) : FnOk P w K mg base CX0 1 T.f_pairs_of T.fd_pairs_of ["word"] (sp_pairs_of K) := by
  refine T.F_pairs_of.ok sc_pairs_of (fun vs H Q E h => ?_) (fun cdv A outer s H vs Q E hr h => ?_)
  · obtain ⟨wd, f, l, c, rfl, _⟩ := h
    rfl
  · obtain ⟨wd, f, l, c, rfl, hw, hf, hl, q⟩ := h
    refine ⟨_, (pss_cons (ps_asg (pv 0) (pg_tup rfl (pgs_cons (pg_name (i := 1) sc_pairs_of.nd rfl (by first | exact .inl rfl | exact .inr rfl)) (pgs_cons (pg_name (i := 2) sc_pairs_of.nd rfl (by first | exact .inl rfl | exact .inr rfl)) (pgs_cons (pg_name (i := 3) sc_pairs_of.nd rfl (by first | exact .inl rfl | exact .inr rfl)) pgs_nil))))) (pss_cons (ps_if (pt_val (pv 3)) (pss_one (ps_ret (pe_tup (pa_cons (pe_tup (pa_cons pe_int (pa_cons pe_int pa_nil))) (pa_cons (pe_tup (pa_cons pe_int (pa_cons pe_int pa_nil))) (pa_cons (pe_tup (pa_cons pe_int (pa_cons pe_int pa_nil))) (pa_cons (pe_tup (pa_cons pe_int (pa_cons pe_int pa_nil))) pa_nil))))))) pss_nil) (pss_one (ps_ret (pe_callTy call_tuple_of (by rfl) T.m_tuple (by decide +kernel) (pa_cons (pe_callB (cr_sortedT rfl) (by rfl) T.m_sorted (by decide +kernel) (pa_cons (pe_callTy (cr_setOfT rfl hr.units) (by rfl) T.m_set (by decide +kernel) (pa_cons (pe_lst (pa_cons (pe_tup (pa_cons (pv 1) (pa_cons (pv 1) pa_nil))) (pa_cons (pe_tup (pa_cons (pv 1) (pa_cons (pv 2) pa_nil))) (pa_cons (pe_tup (pa_cons (pv 2) (pa_cons (pv 2) pa_nil))) pa_nil)))) pa_nil)) pa_nil)) pa_nil)))))), ?_⟩
    refine ⟨.ref wd, rfl, wd, _, rfl, SqT.of hw, rfl, _, _, rfl, _, _, rfl, _, _, rfl, rfl, ?_⟩
    refine ⟨.bl c, rfl, c, rfl, ?_⟩
    cases c with
    | true =>
      refine iteT ?_
      refine ⟨sl2, fun t1 n1 => ⟨sl2, fun t2 n2 => ⟨sl2, fun t3 n3 => ⟨sl2, fun t4 n4 => ⟨sl4, fun r nr => ?_⟩⟩⟩⟩⟩
      have e1 := same_upd (o := .tup [.int 0, .int 0]) n1
      have e2 := same_upd (o := .tup [.int 0, .int 1]) n2
      have e3 := same_upd (o := .tup [.int 1, .int 0]) n3
      have e4 := same_upd (o := .tup [.int 1, .int 1]) n4
      have e5 := same_upd (o := .tup [.ref t1, .ref t2, .ref t3, .ref t4]) nr
      refine q r _ ((((e1.trans e2).trans e3).trans e4).trans e5) ⟨[(t1, 0, 0), (t2, 0, 1), (t3, 1, 0), (t4, 1, 1)], upd_same, fun k hk => ?_, rfl⟩
      rcases List.mem_cons.mp hk with rfl | hk
      · exact e5 _ _ (e4 _ _ (e3 _ _ (e2 _ _ upd_same)))
      · rcases List.mem_cons.mp hk with rfl | hk
        · exact e5 _ _ (e4 _ _ (e3 _ _ upd_same))
        · rcases List.mem_cons.mp hk with rfl | hk
          · exact e5 _ _ (e4 _ _ upd_same)
          · rcases List.mem_cons.mp hk with rfl | hk
            · exact e5 _ _ upd_same
            · cases hk
    | false =>
      refine iteF ?_
      refine ⟨.int f, rfl, .int f, rfl, sl2, fun t1 n1 => ⟨.int f, rfl, .int l, rfl, sl2, fun t2 n2 => ⟨.int l, rfl, .int l, rfl, sl2, fun t3 n3 => ⟨sl3, fun li nli => ?_⟩⟩⟩⟩
      have e1 := same_upd (o := .tup [.int f, .int f]) n1
      have e2 := same_upd (o := .tup [.int f, .int l]) n2
      have e3 := same_upd (o := .tup [.int l, .int l]) n3
      have e4 := same_upd (o := .lst [.ref t1, .ref t2, .ref t3]) nli
      have eA := ((e1.trans e2).trans e3).trans e4
      have g1 := e4 _ _ (e3 _ _ (e2 _ _ (upd_same (H := H) (a := t1) (o := .tup [.int f, .int f]))))
      have g2 := e4 _ _ (e3 _ _ (upd_same (a := t2) (o := .tup [.int f, .int l])))
      have g3 := e4 _ _ (upd_same (a := t3) (o := .tup [.int l, .int l]))
      have g4 := upd_same (H := upd (upd (upd H t1 (.tup [.int f, .int f])) t2 (.tup [.int f, .int l])) t3 (.tup [.int l, .int l])) (a := li) (o := .lst [.ref t1, .ref t2, .ref t3])
      revert eA g1 g2 g3 g4
      generalize upd (upd (upd (upd H t1 (.tup [.int f, .int f])) t2 (.tup [.int f, .int l])) t3 (.tup [.int l, .int l])) li (.lst [.ref t1, .ref t2, .ref t3]) = H1
      intro eA g1 g2 g3 g4
      have gk : ∀ p ∈ ([(t1, [f, f]), (t2, [f, l]), (t3, [l, l])] : List (Addr × List Int)), H1 p.1 = some (.tup (p.2.map V.int)) ∧ p.2 ∈ [[f, f], [f, l], [l, l]] := fun p hp => by
        rcases List.mem_cons.mp hp with rfl | hp
        · exact ⟨g1, by simp⟩
        · rcases List.mem_cons.mp hp with rfl | hp
          · exact ⟨g2, by simp⟩
          · rcases List.mem_cons.mp hp with rfl | hp
            · exact ⟨g3, by simp⟩
            · cases hp
      refine ⟨li, [(t1, [f, f]), (t2, [f, l]), (t3, [l, l])], rfl, SqL.of g4, fun p hp => SqT.of (gk p hp).1, by show 3 < 64; decide, fun sa L nsa hL1 hL2 => ?_⟩
      have e5 := same_upd (o := SetTO P w sa L) nsa
      have b01 : ∀ x ∈ [[f, f], [f, l], [l, l]], x.length = 2 ∧ TS.Bd 64 x := by
        rcases hf with rfl | rfl <;> rcases hl with rfl | rfl <;> (unfold TS.Bd; decide)
      refine ⟨sa, L, 2, 64, rfl, upd_same, fun p hp => SqT.of (e5 _ _ (gk p (hL1 p hp)).1), by decide, fun p hp => b01 _ (gk p (hL1 p hp)).2, fun L' pl pm nd few so npl => ?_⟩
      have e6 := same_upd (o := .lst (L'.map fun q => V.ref q.1)) npl
      refine ⟨pl, _, rfl, .inl ⟨SqL.of upd_same, fun r nr => ?_⟩⟩
      have e7 := same_upd (o := .tup (L'.map fun q => V.ref q.1)) nr
      refine q r _ (eA.trans (e5.trans (e6.trans e7))) ⟨L'.map fun q => (q.1, q.2.getD 0 0, q.2.getD 1 0), ?_, fun k hk => ?_, ?_⟩
      · rw [upd_same, List.map_map]
        rfl
      · obtain ⟨p, hp, rfl⟩ := List.mem_map.mp hk
        have hp2 := gk p (hL1 p (pm.mem_iff.mp hp))
        have := e7 _ _ (e6 _ _ (e5 _ _ hp2.1))
        unfold PairAt
        rw [this]
        obtain ⟨pa, pb⟩ := p
        rcases List.mem_cons.mp hp2.2 with h | h
        · dsimp only at h ⊢; rw [h]; rfl
        · rcases List.mem_cons.mp h with h | h
          · dsimp only at h ⊢; rw [h]; rfl
          · rcases List.mem_cons.mp h with h | h
            · dsimp only at h ⊢; rw [h]; rfl
            · cases h
      · rw [List.map_map, ← pairs_sorted hf hl (M := L'.map (·.2)) nd (List.pairwise_map.mpr so) (fun x hx => ?_) (fun x hx => ?_), List.map_map]
        · rfl
        · obtain ⟨p, hp, rfl⟩ := List.mem_map.mp hx
          exact (gk p (hL1 p (pm.mem_iff.mp hp))).2
        · have : x ∈ L.map (·.2) := by
            rcases List.mem_cons.mp hx with rfl | hx
            · exact hL2 (t1, [f, f]) (by simp)
            · rcases List.mem_cons.mp hx with rfl | hx
              · exact hL2 (t2, [f, l]) (by simp)
              · rcases List.mem_cons.mp hx with rfl | hx
                · exact hL2 (t3, [l, l]) (by simp)
                · cases hx
          exact (pm.map (·.2)).mem_iff.mpr this

end
end Gk

set_option Elab.async false
set_option linter.all false
set_option maxRecDepth 100000
namespace Gk
open PySem PySem.Spec PyProof.Rows L2
/-! ### mathematics -/
def wv (f n : Int) : Nat → Int
  | 0 => f
  | k + 1 => (wv f n k + n / ([1, 2, 4, 8] : List Int).getD k 0) % 2
def wl (f n : Int) (i : Nat) : List Int := (List.range (i + 1)).map (wv f n)
theorem wl_len (f n : Int) (i : Nat) : (wl f n i).length = i + 1 := by simp [wl]
theorem wl_succ (f n : Int) (i : Nat) : wl f n (i + 1) = wl f n i ++ [wv f n (i + 1)] := by
  unfold wl
  rw [List.range_succ (n := i + 1), List.map_append]
  rfl
theorem wl_get {f n : Int} {i k : Nat} (h : k ≤ i) : (wl f n i)[k]? = some (wv f n k) := by
  unfold wl
  rw [List.getElem?_map, List.getElem?_range (by omega)]
  rfl
theorem wl_at {f n : Int} {i k : Nat} (h : k ≤ i) : atI ((wl f n i).map V.int) (k : Int) = some (.int (wv f n k)) := by
  refine atI_nat ?_
  rw [List.getElem?_map, wl_get h]
  rfl
theorem wl_at0 {f n : Int} {i k : Nat} (h : k ≤ i) : atI ((wl f n i).map V.int) (0 + (k : Int)) = some (.int (wv f n k)) := by
  have e : (0 + (k : Int)) = (k : Int) := by omega
  rw [e]
  exact wl_at h
theorem cutk {f n : Int} {k : Nat} (h : k ≤ 5) : cutV ((wl f n 4).map V.int) (some (0 + (k : Int))) none = ((wl f n 4).drop k).map V.int := by
  unfold cutV
  have e0 : (0 + (k : Int)) = (k : Int) := by omega
  have e : HT.sIx ((wl f n 4).map V.int).length 0 (some (k : Int)) = min k ((wl f n 4).map V.int).length := HT.sIx_nat _ _ k
  rw [e0, HT.sIx_none, e, List.length_map, wl_len, Nat.min_eq_left h, List.map_drop]
  apply List.take_of_length_le
  rw [List.length_drop, List.length_map, wl_len]
  exact Nat.le_refl _
theorem wl_last (f n : Int) (i : Nat) : atI ((wl f n i).map V.int) (-1) = some (.int (wv f n i)) := by
  have e : (wl f n i).map V.int = ((List.range i).map (wv f n)).map V.int ++ [.int (wv f n i)] := by
    unfold wl
    rw [List.range_succ, List.map_append, List.map_append]
    rfl
  rw [e]
  exact atI_last _ _
def chg (f n : Int) (k : Nat) : Int := if (!decide (V.int (wv f n k) = V.int (wv f n (k + 1)))) = true then 1 else 0
def manyM (f n : Int) : Int := ((List.range 4).map (chg f n)).sum
def condB (f l : Int) (c : Bool) (n : Int) : Bool := decide (wv f n 4 = l) && (c || decide (manyM f n = if (!decide (V.int f = V.int l)) = true then 1 else 0))
def blk1 (f n : Int) (k : Nat) : List (Int × Int) := ((wl f n 4).drop k).map fun x => (wv f n k, x)
def blkTo (f n : Int) : Nat → List (Int × Int)
  | 0 => []
  | k + 1 => blkTo f n k ++ blk1 f n k
def fM (f l : Int) (c : Bool) : Nat → List (Int × Int)
  | 0 => []
  | n + 1 => if condB f l c (0 + (n : Nat)) = true then fM f l c n ++ blkTo f (0 + (n : Nat)) 5 else fM f l c n
def hasP (ps : List (Int × Int)) (p : Int × Int) : Bool := ps.any fun z => z.1 == p.1 && z.2 == p.2
def four : List (Int × Int) := [(0, 0), (0, 1), (1, 0), (1, 1)]
theorem due_ok {f l : Int} (hf : f = 0 ∨ f = 1) (hl : l = 0 ∨ l = 1) (c : Bool) : four.filter (hasP (fM f l c 16)) = pairsM f l c := by
  rcases hf with rfl | rfl <;> rcases hl with rfl | rfl <;> cases c <;> decide +kernel
theorem blk1_len (f n : Int) (k : Nat) : (blk1 f n k).length ≤ 5 := by
  unfold blk1
  rw [List.length_map, List.length_drop, wl_len]
  omega
theorem blkTo_len (f n : Int) : ∀ k, (blkTo f n k).length ≤ 5 * k
  | 0 => Nat.le_refl _
  | k + 1 => by
    have := blkTo_len f n k
    have := blk1_len f n k
    unfold blkTo
    rw [List.length_append]
    omega
theorem fM_len (f l : Int) (c : Bool) : ∀ n, (fM f l c n).length ≤ 25 * n
  | 0 => Nat.le_refl _
  | n + 1 => by
    have := fM_len f l c n
    have := blkTo_len f (0 + (n : Nat)) 5
    unfold fM
    split
    · rw [List.length_append]
      omega
    · omega
/-! ### pairs held by a list -/
def FoundAt (H : Hp) (r : Addr) (ps : List (Int × Int)) : Prop := ∃ ks : List (Addr × Int × Int), H r = some (.lst (ks.map fun k => V.ref k.1)) ∧ (∀ k ∈ ks, PairAt H k) ∧ ks.map (·.2) = ps
def prD (p : Int × Int) : PyData := .tuple [.int p.1, .int p.2]
theorem dpPairs {K : PySem.W.Frag} {H : Hp} : ∀ ks : List (Addr × Int × Int), (∀ k ∈ ks, PairAt H k) → DpAll K H (ks.map fun k => V.ref k.1) ((ks.map (·.2)).map prD)
  | [], _ => .nil
  | k :: r, h => .cons (.tup (SqT.of (h k (List.mem_cons_self ..))) (.cons (.int _) (.cons (.int _) .nil))) (dpPairs r fun x hx => h x (List.mem_cons_of_mem _ hx))
theorem lay_pairs : ∀ ps : List (Int × Int), PyData.canLayAll0 (ps.map prD) = true
  | [] => rfl
  | p :: r => by
    rw [List.map_cons]
    unfold PyData.canLayAll0
    rw [lay_pairs r, Bool.and_true]
    rfl
theorem depth_pairs : ∀ ps : List (Int × Int), PyData.depthAll (ps.map prD) ≤ 1
  | [] => Nat.zero_le _
  | p :: r => by
    rw [List.map_cons]
    unfold PyData.depthAll
    have := depth_pairs r
    have e : (prD p).depth = 1 := rfl
    rw [e]
    omega
theorem sh_listP (ps : List (Int × Int)) : SeqAt.shaped (.list (ps.map prD)) = true := by
  unfold SeqAt.shaped
  rw [Bool.and_eq_true]
  refine ⟨?_, decide_eq_true ?_⟩
  · simp only [PyData.canLay0, lay_pairs]
  · have := depth_pairs ps
    simp only [PyData.depth]
    omega
theorem sh_tupP (ps : List (Int × Int)) : SeqAt.shaped (.tuple (ps.map prD)) = true := by
  unfold SeqAt.shaped
  rw [Bool.and_eq_true]
  refine ⟨?_, decide_eq_true ?_⟩
  · simp only [PyData.canLay0, lay_pairs]
  · have := depth_pairs ps
    simp only [PyData.depth]
    omega
theorem any_pairs (p : Int × Int) : ∀ ps : List (Int × Int), ((ps.map prD).any fun z => PyData.eqv z (prD p)) = hasP ps p
  | [] => rfl
  | q :: r => by
    rw [List.map_cons, List.any_cons, any_pairs p r]
    unfold hasP
    rw [List.any_cons]
    congr 1
    show (PyData.eqv (.int q.1) (.int p.1) && (PyData.eqv (.int q.2) (.int p.2) && true)) = _
    rw [Bool.and_true]
    rfl
theorem ev (x y : Int) : decide (V.int x = V.int y) = decide (x = y) := by
  by_cases z : x = y
  · rw [decide_eq_true z, decide_eq_true (by rw [z])]
  · rw [decide_eq_false z, decide_eq_false (fun k => z (V.int.inj k))]
section
variable {P : Program} {w : World} {K : PySem.W.Frag} {mg : Str → Option Value} {base : Heap}
def sp_worths (K : PySem.W.Frag) : Sp := fun vs H Q _ => ∃ (f n : Int), vs = [.int f, .int n] ∧ ∀ r H', Same H H' → H' r = some (.lst ((wl f n 4).map V.int)) → Q (.ref r) H'
theorem ok_worths (T : Tx K mg) : FnOk P w K mg base CX0 1 T.f_worths T.fd_worths ["_law_first", "_law_number"] (sp_worths K) := by
  refine T.F_worths.ok sc_worths (fun vs H Q E h => ?_) (fun cdv A outer s H vs Q E hr h => ?_)
  · obtain ⟨f, n, rfl, _⟩ := h
    rfl
  · obtain ⟨f, n, rfl, q⟩ := h
    refine ⟨_, (pss_cons (ps_set (i := 2) sc_worths.nd rfl (by first | exact .inl rfl | exact .inr rfl) (pe_lst (pa_cons (pv 0) pa_nil))) (pss_cons (ps_for PassesOwn.never rfl (pi_range1 (by rfl) T.m_range (pa_cons pe_int pa_nil)) (pg_name (i := 3) sc_worths.nd rfl (by first | exact .inl rfl | exact .inr rfl)) (pss_one (ps_expr (pe_bm PySem.F.plainAttrs_list PySem.F.slot_list_append PySem.F.type_list_append mt_append (pv 2) (pa_cons (pe_op op_mod (pe_op op_add (pe_ix ix_list (pv 2) (pe_un un_neg pe_int) (fun _ _ => rfl)) (pe_op op_fdiv (pv 1) (pe_ix ix_list (pe_lst (pa_cons pe_int (pa_cons pe_int (pa_cons pe_int (pa_cons pe_int pa_nil))))) (pv 3) (fun _ _ => rfl)))) pe_int) pa_nil))))) (pss_one (ps_ret (pv 2))))), ?_⟩
    refine ⟨.int f, rfl, sl1, fun r nr => ?_⟩
    refine ⟨4, rfl, by decide, by decide, for_range (n := 4) (fun i σ H' => ∃ y, σ = [some (.int f), some (.int n), some (.ref r), y] ∧ Same H H' ∧ H' r = some (.lst ((wl f n i).map V.int))) ⟨none, rfl, same_upd nr, upd_same⟩ ?_ ?_⟩
    · rintro i σ H1 hi ⟨y, rfl, s1, h1⟩
      refine ⟨.ref r, rfl, .inl ⟨rfl, _, SqL.of h1⟩, .ref r, rfl, 1, rfl, r, _, _, _, rfl, rfl, SqL.of h1, wl_last f n i, .int n, rfl, sl4, fun t nt => ?_⟩
      have h2 := same_upd (o := .lst [.int 1, .int 2, .int 4, .int 8]) nt _ _ h1
      have s2 := same_upd (o := .lst [.int 1, .int 2, .int 4, .int 8]) nt
      obtain ⟨v, ev, hv0, hv1⟩ : ∃ v : Int, ([1, 2, 4, 8] : List Int)[i]? = some v ∧ 0 < v ∧ v < 1073741824 := by
        rcases i with _ | _ | _ | _ | i
        · exact ⟨1, rfl, by decide, by decide⟩
        · exact ⟨2, rfl, by decide, by decide⟩
        · exact ⟨4, rfl, by decide, by decide⟩
        · exact ⟨8, rfl, by decide, by decide⟩
        · omega
      have ea : atI ([.int 1, .int 2, .int 4, .int 8] : List V) (0 + (i : Int)) = some (.int v) := by
        rw [Int.zero_add]
        refine atI_nat ?_
        have : ([.int 1, .int 2, .int 4, .int 8] : List V) = ([1, 2, 4, 8] : List Int).map V.int := rfl
        rw [this, List.getElem?_map, ev]
        rfl
      refine ⟨.int (0 + (i : Int)), rfl, t, _, _, .int v, rfl, rfl, SqL.of upd_same, ea, n, v, rfl, rfl, ⟨hv0, hv1⟩, _, _, rfl, rfl, _, _, rfl, rfl, (show (0 : Int) < 2 by decide), r, _, _, rfl, rfl, h2, ?_, ?_⟩
      · rw [List.length_map, wl_len]
        exact Nat.lt_of_lt_of_le (show i + 1 < 64 by omega) (by decide)
      · refine ⟨_, rfl, fun b o e => ?_, ?_⟩
        · have nb : b ≠ r := ne_of_none e nr
          rw [upd_ne nb]
          exact s2 _ _ (s1 _ _ e)
        · rw [upd_same, wl_succ, List.map_append]
          have : ([1, 2, 4, 8] : List Int).getD i 0 = v := by rw [List.getD_eq_getElem?_getD, ev]; rfl
          show _ = some (HO.lst (_ ++ [V.int ((wv f n i + n / ([1, 2, 4, 8] : List Int).getD i 0) % 2)]))
          rw [this]
    · rintro σ H1 ⟨y, rfl, s1, h1⟩
      exact ⟨.ref r, rfl, q r H1 s1 h1⟩
def sp_due (K : PySem.W.Frag) : Sp := fun vs H Q _ => ∃ (wd : Addr) (f l : Int) (c : Bool), vs = [.ref wd] ∧ WordAt H wd f l c ∧ (f = 0 ∨ f = 1) ∧ (l = 0 ∨ l = 1) ∧ ∀ r H', Same H H' → PairsAt H' r (pairsM f l c) → Q (.ref r) H'
theorem ok_due (T : Tx K mg) : FnOk P w K mg base CX0 2 T.f_due T.fd_due ["_law_word"] (sp_due K) := by
  refine T.F_due.ok sc_due (fun vs H Q E h => ?_) (fun cdv A outer s H vs Q E hr h => ?_)
  · obtain ⟨wd, f, l, c, rfl, _⟩ := h
    rfl
  · obtain ⟨wd, f, l, c, rfl, hw, hf, hl, q⟩ := h
    refine ⟨_, (pss_cons (ps_asg (pv 0) (pg_tup rfl (pgs_cons (pg_name (i := 1) sc_due.nd rfl (by first | exact .inl rfl | exact .inr rfl)) (pgs_cons (pg_name (i := 2) sc_due.nd rfl (by first | exact .inl rfl | exact .inr rfl)) (pgs_cons (pg_name (i := 3) sc_due.nd rfl (by first | exact .inl rfl | exact .inr rfl)) pgs_nil))))) (pss_cons (ps_set (i := 4) sc_due.nd rfl (by first | exact .inl rfl | exact .inr rfl) (pe_lst pa_nil)) (pss_cons (ps_for PassesOwn.never rfl (pi_range1 (by rfl) T.m_range (pa_cons pe_int pa_nil)) (pg_name (i := 5) sc_due.nd rfl (by first | exact .inl rfl | exact .inr rfl)) (pss_cons (ps_set (i := 6) sc_due.nd rfl (by first | exact .inl rfl | exact .inr rfl) (pe_call (ok_worths T) (hr.mono (by decide)) (by rfl) T.g_worths T.F_worths.kp T.b_worths .nil pass0 (pa_cons (pv 1) (pa_cons (pv 5) pa_nil)))) (pss_cons (ps_set (i := 7) sc_due.nd rfl (by first | exact .inl rfl | exact .inr rfl) (pe_callB (cr_sum rfl) (by rfl) T.m_sum (by decide +kernel) (pa_cons (pe_lc (own := [("_law_k", 8)]) (by rfl) sc_due.nd (pi_range1 (by rfl) T.m_range (pa_cons pe_int pa_nil)) (blkOk_by (own := [("_law_k", 8)]) (N := ["_law_word", "_law_first", "_law_last", "_law_fro", "_law_found", "_law_number", "_law_worths_here", "_law_many", "_law_k", "_law_pair", "_law_worth"]) (sc := defScope s_due) (by decide +kernel)) (fun _ _ _ _ _ => (pg_name (i := 8) sc_due.nd rfl (by first | exact .inl rfl | exact .inr rfl))) (fun _ _ _ _ _ => pts_nil) (fun _ _ _ _ _ => (pe_callTy call_int1 (by rfl) T.m_int (by decide +kernel) (pa_cons (pe_cmpR op_ne (pe_ix (show IxR _ (rIxL K) from ix_list) (pv 6) (pv 8) (fun _ _ => rfl)) (pe_ix (show IxR _ (rIxL K) from ix_list) (pv 6) (pe_op op_add (pv 8) pe_int) (fun _ _ => rfl)) (nomark _)) pa_nil)))) pa_nil))) (pss_one (ps_if (pt_cut (pw_and (pt_cmpR op_eq (pe_ix ix_list (pv 6) (pe_un un_neg pe_int) (fun _ _ => rfl)) (pv 2) (nomark _)) (pw_and1 (pw_or (pt_val (pv 3)) (pw_or1 (pt_cmpR op_eq (pv 7) (pe_callTy call_int1 (by rfl) T.m_int (by decide +kernel) (pa_cons (pe_cmpR op_ne (pv 1) (pv 2) (nomark _)) pa_nil)) (nomark _)))).pt)).pt) (pss_one (ps_for PassesOwn.never rfl (pi_range1 (by rfl) T.m_range (pa_cons pe_int pa_nil)) (pg_name (i := 8) sc_due.nd rfl (by first | exact .inl rfl | exact .inr rfl)) (pss_one (ps_expr (pe_bm PySem.F.plainAttrs_list PySem.F.slot_list_extend PySem.F.type_list_extend mt_extend (pv 4) (pa_cons (pe_lc (own := [("_law_worth", 10)]) (by rfl) sc_due.nd (pi_list (pe_slice sl_list (pv 6) (po_some (pv 8)) po_none)) (blkOk_by (own := [("_law_worth", 10)]) (N := ["_law_word", "_law_first", "_law_last", "_law_fro", "_law_found", "_law_number", "_law_worths_here", "_law_many", "_law_k", "_law_pair", "_law_worth"]) (sc := defScope s_due) (by decide +kernel)) (fun _ _ _ _ _ => (pg_name (i := 10) sc_due.nd rfl (by first | exact .inl rfl | exact .inr rfl))) (fun _ _ _ _ _ => pts_nil) (fun _ _ _ _ _ => (pe_tup (pa_cons (pe_ix (show IxR _ (rIxL K) from ix_list) (pv 6) (pv 8) (fun _ _ => rfl)) (pa_cons (pv 10) pa_nil))))) pa_nil)))))) pss_nil))))) (pss_one (ps_ret (pe_callTy call_tuple_of (by rfl) T.m_tuple (by decide +kernel) (pa_cons (pe_lc (own := [("_law_pair", 9)]) (by rfl) sc_due.nd (pi_list (pe_lst (pa_cons (pe_tup (pa_cons pe_int (pa_cons pe_int pa_nil))) (pa_cons (pe_tup (pa_cons pe_int (pa_cons pe_int pa_nil))) (pa_cons (pe_tup (pa_cons pe_int (pa_cons pe_int pa_nil))) (pa_cons (pe_tup (pa_cons pe_int (pa_cons pe_int pa_nil))) pa_nil)))))) (blkOk_by (own := [("_law_pair", 9)]) (N := ["_law_word", "_law_first", "_law_last", "_law_fro", "_law_found", "_law_number", "_law_worths_here", "_law_many", "_law_k", "_law_pair", "_law_worth"]) (sc := defScope s_due) (by decide +kernel)) (fun _ _ _ _ _ => (pg_name (i := 9) sc_due.nd rfl (by first | exact .inl rfl | exact .inr rfl))) (fun _ _ _ _ _ => (pts_one (pt_cmpR (show OpR _ _ (rInD K) from (op_inD (units65 hr))) (pv 9) (pv 4) rfl))) (fun _ _ _ _ _ => (pv 9))) pa_nil))))))), ?_⟩
    refine ⟨.ref wd, rfl, wd, _, rfl, SqT.of hw, rfl, _, _, rfl, _, _, rfl, _, _, rfl, rfl, ?_⟩
    refine ⟨Nat.zero_le _, fun fa nfa => ?_⟩
    refine ⟨16, rfl, by decide, by decide, for_range (n := 16) (fun i σ H' => ∃ y5 y6 y7 y8, σ = [some (.ref wd), some (.int f), some (.int l), some (.bl c), some (.ref fa), y5, y6, y7, y8, none, none] ∧ Same H H' ∧ FoundAt H' fa (fM f l c i)) ⟨none, none, none, none, rfl, same_upd nfa, [], upd_same, (fun k hk => by cases hk), rfl⟩ ?_ ?_⟩
    · rintro i σ H1 hi ⟨y5, y6, y7, y8, rfl, s1, F1⟩
      refine ⟨.int f, rfl, .int (0 + (i : Int)), rfl, f, _, rfl, fun wa H2 s2 h2 => ?_⟩
      -- many
      refine ⟨4, rfl, by decide, by decide, fun ml nml => ?_⟩
      refine lc_range (n := 4) (fun j H' => Same H2 H' ∧ H' ml = some (.lst (((List.range j).map (chg f (0 + (i : Int)))).map V.int))) ⟨same_upd nml, upd_same⟩ ?_ ?_
      · rintro j H3 hj ⟨s3, h3⟩
        have hw3 := s3 _ _ h2
        refine ⟨rfl, ?_⟩
        refine ⟨.ref wa, rfl, .int (0 + (j : Int)), rfl, wa, _, _, .int (wv f (0 + (i : Int)) j), rfl, rfl, SqL.of hw3, wl_at0 (by omega), .ref wa, rfl, .int (0 + (j : Int)), rfl, _, _, rfl, rfl, wa, _, _, .int (wv f (0 + (i : Int)) (j + 1)), rfl, rfl, SqL.of hw3, ?_, rfl, .inr ⟨_, rfl, _, h3, ?_, ?_⟩⟩
        · have e : (0 + (j : Int) + 1) = ((j + 1 : Nat) : Int) := by omega
          show atI ((wl f (0 + (i : Int)) 4).map V.int) (0 + (j : Int) + 1) = some (V.int (wv f (0 + (i : Int)) (j + 1)))
          rw [e]
          exact wl_at (by omega)
        · rw [List.length_map, List.length_map, List.length_range]
          exact Nat.lt_of_lt_of_le (show j < 64 by omega) (by decide)
        · refine ⟨fun b o e => ?_, ?_⟩
          · rw [upd_ne (ne_of_none e nml)]
            exact s3 _ _ e
          · rw [upd_same, List.range_succ, List.map_append, List.map_append]
            rfl
      · rintro H3 ⟨s3, h3⟩
        have hw3 := s3 _ _ h2
        have s13 : Same H H3 := (s1.trans s2).trans s3
        have F3 : FoundAt H3 fa (fM f l c i) := by
          obtain ⟨ks, k1, k2, k3⟩ := F1
          exact ⟨ks, s3 _ _ (s2 _ _ k1), fun k hk => s3 _ _ (s2 _ _ (k2 k hk)), k3⟩
        refine ⟨ml, _, rfl, SqL.of h3, ?_⟩
        -- the test
        refine ⟨fun b H' => b = condB f l c (0 + (i : Int)) ∧ H' = H3, ?_, ?_⟩
        · refine ⟨.ref wa, rfl, 1, rfl, wa, _, _, _, rfl, rfl, SqL.of hw3, wl_last _ _ _, .int l, rfl, rfl, _, rfl, ite2 (fun e => ?_) (fun e => ?_)⟩
          · have e1 : wv f (0 + (i : Int)) 4 = l := V.int.inj (of_decide_eq_true e)
            refine ⟨.bl c, rfl, c, rfl, ite2 (fun e => ?_) (fun e => ?_)⟩
            · refine ⟨?_, rfl⟩
              unfold condB
              rw [decide_eq_true e1, e]
              rfl
            · refine ⟨.int (manyM f (0 + (i : Int))), rfl, .int f, rfl, .int l, rfl, rfl, .inr ⟨_, rfl, rfl, _, rfl, ?_, rfl⟩⟩
              unfold condB
              rw [decide_eq_true e1, Bool.eq_false_iff.mpr e, Bool.true_and, Bool.false_or]
              exact ev _ _
          · refine ⟨?_, rfl⟩
            unfold condB
            rw [decide_eq_false (fun z => e (decide_eq_true (by rw [z]))), Bool.false_and]
        · rintro b H' ⟨rfl, rfl⟩
          refine ite2 (fun e => ?_) (fun e => ?_)
          · -- the five places
            refine ⟨5, rfl, by decide, by decide, for_range (n := 5) (fun k σ H' => ∃ y8, σ = [some (.ref wd), some (.int f), some (.int l), some (.bl c), some (.ref fa), some (.int (0 + (i : Int))), some (.ref wa), some (.int (manyM f (0 + (i : Int)))), y8, none, none] ∧ Same H H' ∧ H' wa = some (.lst ((wl f (0 + (i : Int)) 4).map V.int)) ∧ FoundAt H' fa (fM f l c i ++ blkTo f (0 + (i : Int)) k)) ⟨y8, rfl, s13, hw3, by rw [blkTo, List.append_nil]; exact F3⟩ ?_ ?_⟩
            · rintro k σ H4 hk ⟨y8, rfl, s4, hw4, F4⟩
              obtain ⟨ks, k1, k2, k3⟩ := F4
              refine ⟨.ref fa, rfl, .inl ⟨rfl, _, SqL.of k1⟩, ?_⟩
              -- worths[k:]
              refine ⟨.ref wa, rfl, .int (0 + (k : Int)), rfl, _, rfl, wa, _, rfl, SqL.of hw4, fun sa nsa => ?_⟩
              rw [cutk (by omega)]
              have s5 := same_upd (o := .lst (((wl f (0 + (i : Int)) 4).drop k).map V.int)) nsa
              refine ⟨sa, rfl, ⟨_, SqL.of upd_same⟩, fun D nD => ?_⟩
              refine lc_list (K := K) (a := sa) (xs := ((wl f (0 + (i : Int)) 4).drop k).map V.int) (fun j H' => Same H4 H' ∧ H' sa = some (.lst (((wl f (0 + (i : Int)) 4).drop k).map V.int)) ∧ ∃ js : List (Addr × Int × Int), H' D = some (.lst (js.map fun z => V.ref z.1)) ∧ (∀ z ∈ js, PairAt H' z) ∧ js.map (·.2) = (blk1 f (0 + (i : Int)) k).take j) ⟨s5.trans (same_upd nD), same_upd nD _ _ upd_same, [], upd_same, (fun z hz => by cases hz), rfl⟩ (fun j H' _ hP => SqL.of hP.2.1) ?_ ?_
              · rintro j x H5 hx ⟨s5', hs5, js, j1, j2, j3⟩
                obtain ⟨u, hu, rfl⟩ : ∃ u, ((wl f (0 + (i : Int)) 4).drop k)[j]? = some u ∧ x = V.int u := by
                  rw [List.getElem?_map] at hx
                  cases hz : ((wl f (0 + (i : Int)) 4).drop k)[j]? with
                  | none => rw [hz] at hx; cases hx
                  | some u => rw [hz] at hx; exact ⟨u, rfl, (Option.some.inj hx).symm⟩
                refine ⟨rfl, ?_⟩
                refine ⟨.ref wa, rfl, .int (0 + (k : Int)), rfl, wa, _, _, .int (wv f (0 + (i : Int)) k), rfl, rfl, SqL.of (s5' _ _ hw4), wl_at0 (by omega), .int u, rfl, sl2, fun t nt => ?_⟩
                have s6 := same_upd (o := .tup [.int (wv f (0 + (i : Int)) k), .int u]) nt
                have ntD : t ≠ D := (ne_of_none j1 nt).symm
                have lj : js.length ≤ 5 := by
                  have := congrArg List.length j3
                  rw [List.length_map, List.length_take] at this
                  have := blk1_len f (0 + (i : Int)) k
                  omega
                refine ⟨_, s6 _ _ j1, ?_, fun b o eb => ?_, ?_, js ++ [(t, wv f (0 + (i : Int)) k, u)], ?_, ?_, ?_⟩
                · rw [List.length_map]
                  exact Nat.lt_of_lt_of_le (show js.length < 64 by omega) (by decide)
                · have nb : b ≠ D := fun z => by
                    rw [z] at eb
                    have := (s5 _ _ eb).symm.trans nD
                    cases this
                  rw [upd_ne nb]
                  exact s6 _ _ (s5' _ _ eb)
                · have nb : sa ≠ D := fun z => by
                    rw [← z, upd_same] at nD
                    cases nD
                  rw [upd_ne nb]
                  exact s6 _ _ hs5
                · rw [upd_same, List.map_append]
                  rfl
                · intro z hz
                  rcases List.mem_append.mp hz with hz | hz
                  · have nb : z.1 ≠ D := ne_of (j2 z hz) j1 (by intro q; cases q)
                    unfold PairAt
                    rw [upd_ne nb]
                    exact s6 _ _ (j2 z hz)
                  · rw [List.mem_singleton] at hz
                    subst hz
                    unfold PairAt
                    rw [upd_ne ntD]
                    exact upd_same
                · rw [List.map_append, j3]
                  have hb : (blk1 f (0 + (i : Int)) k)[j]? = some (wv f (0 + (i : Int)) k, u) := by
                    unfold blk1
                    rw [List.getElem?_map, hu]
                    rfl
                  rw [List.take_add_one, hb]
                  rfl
              · rintro H5 ⟨s5', hs5, js, j1, j2, j3⟩
                have nDf : D ≠ fa := fun z => by
                  rw [z] at nD
                  have := (s5 _ _ k1).symm.trans nD
                  cases this
                have j3' : js.map (·.2) = blk1 f (0 + (i : Int)) k := by
                  rw [j3, List.take_of_length_le]
                  unfold blk1
                  rw [List.length_map, List.length_map]
                  exact Nat.le_refl _
                have k1' := s5' _ _ k1
                have lk : ks.length ≤ 600 := by
                  have h1 := congrArg List.length k3
                  rw [List.length_map, List.length_append] at h1
                  have h2 := fM_len f l c i
                  have h3 := blkTo_len f (0 + (i : Int)) k
                  omega
                have lj : js.length ≤ 5 := by
                  have h1 := congrArg List.length j3'
                  rw [List.length_map] at h1
                  have h2 := blk1_len f (0 + (i : Int)) k
                  omega
                refine ⟨fa, D, _, _, rfl, rfl, k1', j1, ?_, ?_⟩
                · rw [List.length_map, List.length_map]
                  exact Nat.le_trans (show ks.length + js.length ≤ 1000 by omega) (by decide)
                · refine ⟨_, rfl, fun b o eb => ?_, ?_, ks ++ js, ?_, ?_, ?_⟩
                  · have nb : b ≠ fa := ne_of_none eb nfa
                    rw [upd_ne nb]
                    exact s5' _ _ (s4 _ _ eb)
                  · have nb : wa ≠ fa := fun z => by
                      rw [z] at hw4
                      have e1 := Option.some.inj (hw4.symm.trans k1)
                      have e2 := HO.lst.inj e1
                      have e3 := congrArg (fun l => l[0]?) e2
                      rw [List.getElem?_map, wl_get (Nat.zero_le _), List.getElem?_map] at e3
                      cases hk0 : ks[0]? with
                      | none => rw [hk0] at e3; cases e3
                      | some k0 => rw [hk0] at e3; cases e3
                    rw [upd_ne nb]
                    exact s5' _ _ hw4
                  · rw [upd_same, List.map_append]
                  · intro z hz
                    rcases List.mem_append.mp hz with hz | hz
                    · have h0 := s5' _ _ (k2 z hz)
                      have nb : z.1 ≠ fa := ne_of h0 k1' (by intro q; cases q)
                      unfold PairAt
                      rw [upd_ne nb]
                      exact h0
                    · have nb : z.1 ≠ fa := ne_of (j2 z hz) k1' (by intro q; cases q)
                      unfold PairAt
                      rw [upd_ne nb]
                      exact j2 z hz
                  · rw [List.map_append, k3, j3', List.append_assoc]
                    rfl
            · rintro σ H4 ⟨y8, rfl, s4, hw4, F4⟩
              refine ⟨_, _, _, _, rfl, s4, ?_⟩
              unfold fM
              rw [if_pos e]
              exact F4
          · refine ⟨_, _, _, _, rfl, s13, ?_⟩
            unfold fM
            rw [if_neg e]
            exact F3
    · rintro σ H1 ⟨y5, y6, y7, y8, rfl, s1, F1⟩
      refine ⟨sl2, fun t1 n1 => ⟨sl2, fun t2 n2 => ⟨sl2, fun t3 n3 => ⟨sl2, fun t4 n4 => ⟨sl4, fun li nli => ?_⟩⟩⟩⟩⟩
      have e1 := same_upd (o := .tup [.int 0, .int 0]) n1
      have e2 := same_upd (o := .tup [.int 0, .int 1]) n2
      have e3 := same_upd (o := .tup [.int 1, .int 0]) n3
      have e4 := same_upd (o := .tup [.int 1, .int 1]) n4
      have e5 := same_upd (o := .lst [.ref t1, .ref t2, .ref t3, .ref t4]) nli
      have s6 : Same H1 _ := (((e1.trans e2).trans e3).trans e4).trans e5
      obtain ⟨ks, hks⟩ : ∃ ks : List (Addr × Int × Int), ks = [(t1, 0, 0), (t2, 0, 1), (t3, 1, 0), (t4, 1, 1)] := ⟨_, rfl⟩
      have g1 : (upd (upd (upd (upd (upd H1 t1 (.tup [.int 0, .int 0])) t2 (.tup [.int 0, .int 1])) t3 (.tup [.int 1, .int 0])) t4 (.tup [.int 1, .int 1])) li (.lst [.ref t1, .ref t2, .ref t3, .ref t4])) li = some (.lst (ks.map fun k => V.ref k.1)) := by
        rw [hks]
        exact upd_same
      have g2 : ∀ k ∈ ks, PairAt (upd (upd (upd (upd (upd H1 t1 (.tup [.int 0, .int 0])) t2 (.tup [.int 0, .int 1])) t3 (.tup [.int 1, .int 0])) t4 (.tup [.int 1, .int 1])) li (.lst [.ref t1, .ref t2, .ref t3, .ref t4])) k := fun k hk => by
        rw [hks] at hk
        rcases List.mem_cons.mp hk with rfl | hk
        · exact e5 _ _ (e4 _ _ (e3 _ _ (e2 _ _ upd_same)))
        · rcases List.mem_cons.mp hk with rfl | hk
          · exact e5 _ _ (e4 _ _ (e3 _ _ upd_same))
          · rcases List.mem_cons.mp hk with rfl | hk
            · exact e5 _ _ (e4 _ _ upd_same)
            · rcases List.mem_cons.mp hk with rfl | hk
              · exact e5 _ _ upd_same
              · cases hk
      have g3 : ks.map (·.2) = four := by
        rw [hks]
        rfl
      clear hks
      revert s6 g1 g2
      generalize upd (upd (upd (upd (upd H1 t1 (.tup [.int 0, .int 0])) t2 (.tup [.int 0, .int 1])) t3 (.tup [.int 1, .int 0])) t4 (.tup [.int 1, .int 1])) li (.lst [.ref t1, .ref t2, .ref t3, .ref t4]) = H6
      intro s6 g1 g2
      refine ⟨li, rfl, ⟨_, SqL.of g1⟩, fun D nD => ?_⟩
      refine lc_list (K := K) (a := li) (xs := ks.map fun k => V.ref k.1) (fun j H' => Same H6 H' ∧ H' D = some (.lst (((ks.take j).filter fun k => hasP (fM f l c 16) k.2).map fun k => V.ref k.1))) ⟨same_upd nD, upd_same⟩ (fun j H' _ hP => SqL.of (hP.1 _ _ g1)) ?_ ?_
      · rintro j x H7 hx ⟨s7, h7⟩
        obtain ⟨k, hk, rfl⟩ : ∃ k, ks[j]? = some k ∧ x = V.ref k.1 := by
          rw [List.getElem?_map] at hx
          cases hz : ks[j]? with
          | none => rw [hz] at hx; cases hx
          | some k => rw [hz] at hx; exact ⟨k, rfl, (Option.some.inj hx).symm⟩
        obtain ⟨fs, f1, f2, f3⟩ := F1
        have dk : Dp K H7 (.ref k.1) (prD k.2) := .tup (SqT.of (s7 _ _ (g2 k (List.mem_of_getElem? hk)))) (.cons (.int _) (.cons (.int _) .nil))
        have df : Dp K H7 (.ref fa) (.list ((fM f l c 16).map prD)) := by
          rw [← f3]
          exact .lst (SqL.of (s7 _ _ (s6 _ _ f1))) (dpPairs fs fun z hz => s7 _ _ (s6 _ _ (f2 z hz)))
        refine ⟨rfl, .ref k.1, rfl, .ref fa, rfl, _, _, dk, df, rfl, sh_listP _, _, rfl, ?_⟩
        rw [any_pairs]
        have lk : (((ks.take j).filter fun k => hasP (fM f l c 16) k.2).map fun k => V.ref k.1).length ≤ 4 := by
          rw [List.length_map]
          refine Nat.le_trans (List.length_filter_le _ _) ?_
          rw [List.length_take]
          have := congrArg List.length g3
          rw [List.length_map] at this
          have e4 : four.length = 4 := rfl
          omega
        refine ite2 (fun e => ?_) (fun e => ?_)
        · refine ⟨_, rfl, _, h7, Nat.lt_of_le_of_lt lk (by decide), fun b o eb => ?_, ?_⟩
          · rw [upd_ne (ne_of_none eb nD)]
            exact s7 _ _ eb
          · rw [upd_same, List.take_add_one, hk, List.filter_append, List.map_append]
            show _ = some (HO.lst (_ ++ ([k].filter _).map _))
            rw [List.filter_cons_of_pos (p := fun (k : Addr × Int × Int) => hasP (fM f l c 16) k.2) e]
            rfl
        · refine ⟨s7, ?_⟩
          rw [h7, List.take_add_one, hk, List.filter_append, List.map_append]
          show _ = some (HO.lst (_ ++ ([k].filter _).map _))
          rw [List.filter_cons_of_neg (p := fun (k : Addr × Int × Int) => hasP (fM f l c 16) k.2) e]
          show _ = some (HO.lst (_ ++ []))
          rw [List.append_nil]
      · rintro H7 ⟨s7, h7⟩
        rw [List.length_map, List.take_length] at h7
        refine ⟨D, _, rfl, .inl ⟨SqL.of h7, fun r nr => ?_⟩⟩
        have s8 := same_upd (o := .tup ((ks.filter fun k => hasP (fM f l c 16) k.2).map fun k => V.ref k.1)) nr
        refine q r _ (((s1.trans s6).trans s7).trans s8) ⟨ks.filter fun k => hasP (fM f l c 16) k.2, upd_same, fun k hk => ?_, ?_⟩
        · exact s8 _ _ (s7 _ _ (g2 k ((List.mem_filter.mp hk).1)))
        · rw [← due_ok hf hl c, ← g3, List.filter_map]
          rfl
end
end Gk

set_option Elab.async false
set_option linter.all false
set_option maxRecDepth 100000
namespace Gk
open PySem PySem.Spec PyProof.Rows L2
section
variable {P : Program} {w : World} {K : PySem.W.Frag} {mg : Str → Option Value} {base : Heap}
def sp_same (K : PySem.W.Frag) : Sp := fun vs H Q _ => ∃ (x y : Addr) (ps : List (Int × Int)), vs = [.ref x, .ref y] ∧ PairsAt H x ps ∧ PairsAt H y ps ∧ ∀ H', Same H H' → Q (.bl true) H'
theorem ok_same (T : Tx K mg) : FnOk P w K mg base CX0 1 T.f_same T.fd_same ["_law_found", "_law_due_here"] (sp_same K) := by
  refine T.F_same.ok sc_same (fun vs H Q E h => ?_) (fun cdv A outer s H vs Q E hr h => ?_)
  · obtain ⟨x, y, ps, rfl, _⟩ := h
    rfl
  · obtain ⟨x, y, ps, rfl, ⟨ks, x1, x2, x3⟩, ⟨js, y1, y2, y3⟩, q⟩ := h
    refine ⟨_, (pss_cons (ps_if (pw_or (pt_not (pt_val (pe_callB call_isi (by rfl) T.m_isinstance (by decide +kernel) (pa_cons (pv 0) (pa_cons (pe_bltn (v := .ty "tuple") (u := .type "tuple") (by rfl) T.m_tuple (by decide +kernel) rfl) pa_nil))))) (pw_or1 (pt_cmpR (op_neD hr.units) (pv 0) (pv 1) (nomark _)))).pt (pss_one (ps_ret pe_bl)) pss_nil) (pss_cons (ps_for PassesOwn.never rfl (pi_tup (pv 0)) (pg_name (i := 2) sc_same.nd rfl (by first | exact .inl rfl | exact .inr rfl)) (pss_one (ps_if (pw_or (pt_not (pt_val (pe_callB call_isi (by rfl) T.m_isinstance (by decide +kernel) (pa_cons (pv 2) (pa_cons (pe_bltn (v := .ty "tuple") (u := .type "tuple") (by rfl) T.m_tuple (by decide +kernel) rfl) pa_nil))))) (pw_or1 (pt_cmpR (op_neD hr.units) (pe_lc (own := [("_law_one", 3)]) (by rfl) sc_same.nd (pi_tup (pv 2)) (blkOk_by (own := [("_law_one", 3)]) (N := ["_law_found", "_law_due_here", "_law_pair", "_law_one"]) (sc := defScope s_same) (by decide +kernel)) (fun _ _ _ _ _ => (pg_name (i := 3) sc_same.nd rfl (by first | exact .inl rfl | exact .inr rfl))) (fun _ _ _ _ _ => (pts_one (pt_val (pe_callB (show CallR _ _ (rIsi K) from call_isi) (by rfl) T.m_isinstance (by decide +kernel) (pa_cons (pv 3) (pa_cons (pe_bltn (v := .ty "bool") (u := .type "bool") (by rfl) T.m_bool (by decide +kernel) rfl) pa_nil)))))) (fun _ _ _ _ _ => (pv 3))) (pe_lst pa_nil) (nomark _)))).pt (pss_one (ps_ret pe_bl)) pss_nil))) (pss_one (ps_ret pe_bl)))), ?_⟩
    refine ⟨.ref x, rfl, _, _, _, _, true, rfl, .ty _, .base (.tup x1), kit_ty (by decide +kernel), true, rfl, iteF ?_⟩
    have dx : Dp K H (.ref x) (.tuple (ps.map prD)) := by
      rw [← x3]
      exact .tup (SqT.of x1) (dpPairs ks x2)
    have dy : Dp K H (.ref y) (.tuple (ps.map prD)) := by
      rw [← y3]
      exact .tup (SqT.of y1) (dpPairs js y2)
    refine ⟨.ref x, rfl, .ref y, rfl, _, _, dx, dy, sh_tupP _, sh_tupP _, false, ?_, iteF ?_⟩
    · rw [SeqAt.eqv_refl _ (SeqAt.canLay_of_shaped (sh_tupP ps))]
      rfl
    refine ⟨.ref x, rfl, x, rfl, ⟨_, SqT.of x1⟩, for_tup (K := K) (a := x) (xs := ks.map fun k => V.ref k.1) (fun i σ H' => ∃ y2 y3, σ = [some (.ref x), some (.ref y), y2, y3] ∧ Same H H') ⟨none, none, rfl, Same.refl H⟩ (fun i σ H' _ ⟨_, _, _, sm⟩ => SqT.of (sm _ _ x1)) ?_ ?_⟩
    · rintro i v σ H1 hv ⟨y2', y3', rfl, s1⟩
      obtain ⟨k, hk, rfl⟩ : ∃ k, ks[i]? = some k ∧ v = V.ref k.1 := by
        rw [List.getElem?_map] at hv
        cases hz : ks[i]? with
        | none => rw [hz] at hv; cases hv
        | some k => rw [hz] at hv; exact ⟨k, rfl, (Option.some.inj hv).symm⟩
      have hp : H1 k.1 = some (.tup [.int k.2.1, .int k.2.2]) := s1 _ _ (x2 k (List.mem_of_getElem? hk))
      refine ⟨.ref k.1, rfl, _, _, _, _, true, rfl, .ty _, .base (.tup hp), kit_ty (by decide +kernel), true, rfl, iteF ?_⟩
      refine ⟨.ref k.1, rfl, k.1, rfl, ⟨_, SqT.of hp⟩, fun D nD => ?_⟩
      refine lc_tup (K := K) (a := k.1) (xs := [.int k.2.1, .int k.2.2]) (fun j H' => Same H1 H' ∧ H' D = some (.lst [])) ⟨same_upd nD, upd_same⟩ (fun j H' _ hP => SqT.of (hP.1 _ _ hp)) ?_ ?_
      · rintro j u H2 hu ⟨s2, h2⟩
        have hu' := List.mem_of_getElem? hu
        obtain ⟨n, rfl⟩ : ∃ n, u = V.int n := by
          rcases List.mem_cons.mp hu' with rfl | hu'
          · exact ⟨_, rfl⟩
          · rcases List.mem_cons.mp hu' with rfl | hu'
            · exact ⟨_, rfl⟩
            · cases hu'
        exact ⟨rfl, .int n, rfl, _, _, _, _, false, rfl, .ty _, .base (.int n), kit_ty (by decide +kernel), false, rfl, iteF ⟨s2, h2⟩⟩
      · rintro H2 ⟨s2, h2⟩
        refine ⟨Nat.zero_le _, fun p np => ?_⟩
        have s3 := same_upd (o := .lst []) np
        refine ⟨.list [], .list [], .lst (SqL.of (s3 _ _ h2)) .nil, .lst (SqL.of upd_same) .nil, rfl, rfl, false, rfl, iteF ?_⟩
        exact ⟨_, _, rfl, (s1.trans s2).trans s3⟩
    · rintro σ H1 ⟨y2', y3', rfl, s1⟩
      exact q H1 s1
def sp_law (K : PySem.W.Frag) : Sp := fun vs H Q _ => ∃ (a : Addr) (ns : List Int), vs = [.ref a] ∧ SqL K H a (ns.map V.int) ∧ ns.length ≤ 63 ∧ ∀ H', Q (.bl true) H'
theorem ok_law (T : Tx K mg) : FnOk P w K mg base CX0 3 T.f_law T.fd_law ["_law_script"] (sp_law K) := by
  refine T.F_law.ok sc_law (fun vs H Q E h => ?_) (fun cdv A outer s H vs Q E hr h => ?_)
  · obtain ⟨a, ns, rfl, _⟩ := h
    rfl
  · obtain ⟨a, ns, rfl, hS, hlen, q⟩ := h
    refine ⟨_, (pss_cons (ps_set (i := 1) sc_law.nd rfl (by first | exact .inl rfl | exact .inr rfl) (pe_call (ok_deck T) (hr.mono (by decide)) (by rfl) T.g_deck T.F_deck.kp T.b_deck .nil pass0 (pa_cons (pv 0) pa_nil))) (pss_cons (ps_set (i := 2) sc_law.nd rfl (by first | exact .inl rfl | exact .inr rfl) (pe_listRg rfl (by rfl) T.m_list (prg_1 (by rfl) T.m_range pe_int))) (pss_cons (ps_for PassesOwn.never rfl (pi_range1 (by rfl) T.m_range (pa_cons pe_int pa_nil)) (pg_name (i := 3) sc_law.nd rfl (by first | exact .inl rfl | exact .inr rfl)) (pss_cons (ps_set (i := 4) sc_law.nd rfl (by first | exact .inl rfl | exact .inr rfl) (pe_ix ix_list (pv 2) (pe_call (ok_draw T) (hr.mono (by decide)) (by rfl) T.g_draw T.F_draw.kp T.b_draw .nil pass0 (pa_cons (pv 1) (pa_cons pe_int pa_nil))) (fun _ _ => rfl))) (pss_one (ps_for PassesOwn.never rfl (pi_list (pe_lst (pa_cons (pv 4) (pa_cons (pe_op op_mod (pv 3) pe_int) pa_nil)))) (pg_name (i := 5) sc_law.nd rfl (by first | exact .inl rfl | exact .inr rfl)) (pss_cons (ps_set (i := 6) sc_law.nd rfl (by first | exact .inl rfl | exact .inr rfl) (pe_tup (pa_cons (pe_op op_fdiv (pv 5) pe_int) (pa_cons (pe_op op_mod (pe_op op_fdiv (pv 5) pe_int) pe_int) (pa_cons (pe_cmpR op_eq (pe_op op_mod (pv 5) pe_int) pe_int (nomark _)) pa_nil))))) (pss_one (ps_if (pt_not (pt_val (pe_call (ok_same T) (hr.mono (by decide)) (by rfl) T.g_same T.F_same.kp T.b_same .nil pass0 (pa_cons (pe_call (ok_pairs_of T) (hr.mono (by decide)) (by rfl) T.g_pairs_of T.F_pairs_of.kp T.b_pairs_of .nil pass0 (pa_cons (pv 6) pa_nil)) (pa_cons (pe_call (ok_due T) (hr.mono (by decide)) (by rfl) T.g_due T.F_due.kp T.b_due .nil pass0 (pa_cons (pv 6) pa_nil)) pa_nil))))) (pss_one (ps_ret pe_bl)) pss_nil))))))) (pss_one (ps_ret pe_bl))))), ?_⟩
    refine ⟨.ref a, rfl, a, ns, rfl, hS, hlen, fun H1 d l s1 D1 => ?_⟩
    refine ⟨8, rfl, ⟨by decide, by decide, by decide, by decide, by decide⟩, fun nu nnu => ?_⟩
    have D2 := D1.new (o := .lst (rgV 0 8)) nnu
    have nn := D1.ne_new nnu
    refine ⟨16, rfl, by decide, by decide, for_range (n := 16) (fun i σ H' => ∃ y3 y4 y5 y6, σ = [some (.ref a), some (.ref d), some (.ref nu), y3, y4, y5, y6] ∧ Deck H' d l ∧ H' nu = some (.lst (rgV 0 8))) ⟨none, none, none, none, rfl, D2, upd_same⟩ ?_ ?_⟩
    · rintro i σ H2 hi ⟨y3, y4, y5, y6, rfl, D2, h2⟩
      refine ⟨.ref nu, rfl, .ref d, rfl, d, l, 8, rfl, D2, by decide, by decide, fun H3 v D3 fr3 v0 v1 => ?_⟩
      have h3 := fr3 _ _ nn.1 nn.2 h2
      have hv : atI (rgV 0 8) v = some (.int v) := by
        obtain ⟨k, rfl⟩ : ∃ k : Nat, v = (k : Int) := ⟨v.toNat, (Int.toNat_of_nonneg v0).symm⟩
        refine atI_nat ?_
        unfold rgV
        rw [List.getElem?_map, show ((8 : Int) - 0).toNat = 8 from rfl, List.getElem?_range (show k < 8 by omega)]
        show some (V.int (0 + (k : Int))) = some (V.int (k : Int))
        rw [Int.zero_add]
      refine ⟨nu, _, _, .int v, rfl, rfl, SqL.of h3, hv, ?_⟩
      refine ⟨.int v, rfl, .int (0 + (i : Int)), rfl, _, _, rfl, rfl, (show (0 : Int) < 8 by decide), sl2, fun tl ntl => ?_⟩
      have s4 := same_upd (o := .lst [.int v, .int ((0 + (i : Int)) % 8)]) ntl
      refine ⟨tl, rfl, ⟨_, SqL.of upd_same⟩, for_list (K := K) (a := tl) (xs := [.int v, .int ((0 + (i : Int)) % 8)]) (fun j σ H' => ∃ y5 y6, σ = [some (.ref a), some (.ref d), some (.ref nu), some (.int (0 + (i : Int))), some (.int v), y5, y6] ∧ Deck H' d l ∧ H' nu = some (.lst (rgV 0 8)) ∧ H' tl = some (.lst [.int v, .int ((0 + (i : Int)) % 8)])) ⟨_, _, rfl, D3.same s4, s4 _ _ h3, upd_same⟩ (fun j σ H' _ ⟨_, _, _, _, _, z⟩ => SqL.of z) ?_ ?_⟩
      · rintro j x σ H4 hx ⟨y5', y6', rfl, D4, h4, t4⟩
        obtain ⟨n, rfl, n0, n1⟩ : ∃ n, x = V.int n ∧ 0 ≤ n ∧ n < 8 := by
          rcases List.mem_cons.mp (List.mem_of_getElem? hx) with rfl | hx
          · exact ⟨v, rfl, v0, v1⟩
          · rcases List.mem_cons.mp hx with rfl | hx
            · exact ⟨_, rfl, Int.emod_nonneg _ (by decide), Int.emod_lt_of_pos _ (by decide)⟩
            · cases hx
        refine ⟨.int n, rfl, _, _, rfl, rfl, ⟨by decide, by decide⟩, .int n, rfl, _, _, rfl, rfl, ⟨by decide, by decide⟩, _, _, rfl, rfl, (show (0 : Int) < 2 by decide), .int n, rfl, _, _, rfl, rfl, (show (0 : Int) < 2 by decide), rfl, sl3, fun wd nwd => ?_⟩
        dsimp only
        have f0 : n / 4 = 0 ∨ n / 4 = 1 := by omega
        have l0 : n / 2 % 2 = 0 ∨ n / 2 % 2 = 1 := by omega
        revert f0 l0
        generalize n / 4 = f
        generalize n / 2 % 2 = l'
        generalize decide (V.int (n % 2) = V.int 1) = c
        intro f0 l0
        have s5 := same_upd (o := .tup [.int f, .int l', .bl c]) nwd
        have w5 : WordAt (upd H4 wd (.tup [.int f, .int l', .bl c])) wd f l' c := upd_same
        refine ⟨.ref wd, rfl, wd, f, l', c, rfl, w5, f0, l0, fun r1 H6 s6 p6 => ?_⟩
        refine ⟨.ref wd, rfl, wd, f, l', c, rfl, s6 _ _ w5, f0, l0, fun r2 H7 s7 p7 => ?_⟩
        refine ⟨r1, r2, _, rfl, p6.same s7, p7, fun H8 s8 => ?_⟩
        have sA := ((s5.trans s6).trans s7).trans s8
        refine ⟨true, rfl, iteF ?_⟩
        exact ⟨_, _, rfl, D4.same sA, sA _ _ h4, sA _ _ t4⟩
      · rintro σ H4 ⟨y5', y6', rfl, D4, h4, t4⟩
        exact ⟨_, _, _, _, rfl, D4, h4⟩
    · rintro σ H2 ⟨y3, y4, y5, y6, rfl, D2, h2⟩
      exact q H2
end
theorem all_mk {l : PySem.W.OpenLaw} {w : World} {K : PySem.W.Frag} {h : Heap} {mg : Str → Option Value} {fa f1 f2 f3 f4 f5 f6 f7 : Addr} (X : K.In h) (G : h.Ns mainGlobals mg) (hfa : mg "law" = some (.ref fa))
    {od1 an1 od2 an2 od3 an3 od4 an4 od5 an5 od6 an6 od7 an7 : Option Addr} {sl1 sl2 sl3 sl4 sl5 sl6 sl7 : Array (Option Value)} {oc1 kV1 dc1 pm1 cd1 ct1 oc2 kV2 dc2 pm2 cd2 ct2 oc3 kV3 dc3 pm3 cd3 ct3 oc4 kV4 dc4 pm4 cd4 ct4 oc5 kV5 dc5 pm5 cd5 ct5 oc6 kV6 dc6 pm6 cd6 ct6 oc7 kV7 dc7 pm7 cd7 ct7 : Value}
    (a1 : PySem.W.nsIn K mainGlobals "pairs_of" = some (some (.ref f1))) (l1 : K.lookup f1 = some ⟨oc1, od1, .func (PySem.W.fnOf "pairs_of" "pairs_of" (defArgs s_pairs_of) (defBody s_pairs_of) (defScope s_pairs_of) .none kV1 dc1 pm1 an1 cd1 ct1), sl1⟩) (c1 : PySem.W.codeIn K cd1 "pairs_of" = true) (k1 : PySem.W.keepIn K (.ref f1) = true)
    (a2 : PySem.W.nsIn K mainGlobals "_law_deck" = some (some (.ref f2))) (l2 : K.lookup f2 = some ⟨oc2, od2, .func (PySem.W.fnOf "_law_deck" "_law_deck" (defArgs s_deck) (defBody s_deck) (defScope s_deck) .none kV2 dc2 pm2 an2 cd2 ct2), sl2⟩) (c2 : PySem.W.codeIn K cd2 "_law_deck" = true) (k2 : PySem.W.keepIn K (.ref f2) = true)
    (a3 : PySem.W.nsIn K mainGlobals "_law_draw" = some (some (.ref f3))) (l3 : K.lookup f3 = some ⟨oc3, od3, .func (PySem.W.fnOf "_law_draw" "_law_draw" (defArgs s_draw) (defBody s_draw) (defScope s_draw) .none kV3 dc3 pm3 an3 cd3 ct3), sl3⟩) (c3 : PySem.W.codeIn K cd3 "_law_draw" = true) (k3 : PySem.W.keepIn K (.ref f3) = true)
    (a4 : PySem.W.nsIn K mainGlobals "_law_worths" = some (some (.ref f4))) (l4 : K.lookup f4 = some ⟨oc4, od4, .func (PySem.W.fnOf "_law_worths" "_law_worths" (defArgs s_worths) (defBody s_worths) (defScope s_worths) .none kV4 dc4 pm4 an4 cd4 ct4), sl4⟩) (c4 : PySem.W.codeIn K cd4 "_law_worths" = true) (k4 : PySem.W.keepIn K (.ref f4) = true)
    (a5 : PySem.W.nsIn K mainGlobals "_law_due" = some (some (.ref f5))) (l5 : K.lookup f5 = some ⟨oc5, od5, .func (PySem.W.fnOf "_law_due" "_law_due" (defArgs s_due) (defBody s_due) (defScope s_due) .none kV5 dc5 pm5 an5 cd5 ct5), sl5⟩) (c5 : PySem.W.codeIn K cd5 "_law_due" = true) (k5 : PySem.W.keepIn K (.ref f5) = true)
    (a6 : PySem.W.nsIn K mainGlobals "_law_same" = some (some (.ref f6))) (l6 : K.lookup f6 = some ⟨oc6, od6, .func (PySem.W.fnOf "_law_same" "_law_same" (defArgs s_same) (defBody s_same) (defScope s_same) .none kV6 dc6 pm6 an6 cd6 ct6), sl6⟩) (c6 : PySem.W.codeIn K cd6 "_law_same" = true) (k6 : PySem.W.keepIn K (.ref f6) = true)
    (a7 : PySem.W.nsIn K mainGlobals "law" = some (some (.ref f7))) (l7 : K.lookup f7 = some ⟨oc7, od7, .func (PySem.W.fnOf "law" "law" (defArgs s_law) (defBody s_law) (defScope s_law) .none kV7 dc7 pm7 an7 cd7 ct7), sl7⟩) (c7 : PySem.W.codeIn K cd7 "law" = true) (k7 : PySem.W.keepIn K (.ref f7) = true)
    (z_bool : PySem.W.nsIn K mainGlobals "bool" = some none)
    (z_int : PySem.W.nsIn K mainGlobals "int" = some none)
    (z_isinstance : PySem.W.nsIn K mainGlobals "isinstance" = some none)
    (z_list : PySem.W.nsIn K mainGlobals "list" = some none)
    (z_range : PySem.W.nsIn K mainGlobals "range" = some none)
    (z_set : PySem.W.nsIn K mainGlobals "set" = some none)
    (z_sorted : PySem.W.nsIn K mainGlobals "sorted" = some none)
    (z_sum : PySem.W.nsIn K mainGlobals "sum" = some none)
    (z_tuple : PySem.W.nsIn K mainGlobals "tuple" = some none) :
    ∃ fd : FuncData, (∀ (s : Shared) (v : Value), BindsTo s fd ⟨[v], []⟩ [("_law_script", v)]) ∧ ∀ base : Heap, K.In base → base.Ns mainGlobals mg → FnOk l.prog w K mg base CX0 3 fa fd ["_law_script"] (sp_law K) := by
  have e := hfa.symm.trans (PySem.W.mg_of X G a7)
  cases e
  have F1 := fun_mk (st := s_pairs_of) l1 c1 k1
  have b1 := F1.binds (ps := ["word"]) fun _ _ _ _ _ _ us hl => match us, hl with | [_], _ => rfl
  have F2 := fun_mk (st := s_deck) l2 c2 k2
  have b2 := F2.binds (ps := ["_law_script"]) fun _ _ _ _ _ _ us hl => match us, hl with | [_], _ => rfl
  have F3 := fun_mk (st := s_draw) l3 c3 k3
  have b3 := F3.binds (ps := ["_law_deck_here", "_law_most"]) fun _ _ _ _ _ _ us hl => match us, hl with | [_, _], _ => rfl
  have F4 := fun_mk (st := s_worths) l4 c4 k4
  have b4 := F4.binds (ps := ["_law_first", "_law_number"]) fun _ _ _ _ _ _ us hl => match us, hl with | [_, _], _ => rfl
  have F5 := fun_mk (st := s_due) l5 c5 k5
  have b5 := F5.binds (ps := ["_law_word"]) fun _ _ _ _ _ _ us hl => match us, hl with | [_], _ => rfl
  have F6 := fun_mk (st := s_same) l6 c6 k6
  have b6 := F6.binds (ps := ["_law_found", "_law_due_here"]) fun _ _ _ _ _ _ us hl => match us, hl with | [_, _], _ => rfl
  have F7 := fun_mk (st := s_law) l7 c7 k7
  have b7 := F7.binds (ps := ["_law_script"]) fun _ _ _ _ _ _ us hl => match us, hl with | [_], _ => rfl
  let T : Tx K mg := { f_pairs_of := _, fd_pairs_of := _, F_pairs_of := F1, g_pairs_of := PySem.W.mg_of X G a1, b_pairs_of := b1, f_deck := _, fd_deck := _, F_deck := F2, g_deck := PySem.W.mg_of X G a2, b_deck := b2, f_draw := _, fd_draw := _, F_draw := F3, g_draw := PySem.W.mg_of X G a3, b_draw := b3, f_worths := _, fd_worths := _, F_worths := F4, g_worths := PySem.W.mg_of X G a4, b_worths := b4, f_due := _, fd_due := _, F_due := F5, g_due := PySem.W.mg_of X G a5, b_due := b5, f_same := _, fd_same := _, F_same := F6, g_same := PySem.W.mg_of X G a6, b_same := b6, f_law := _, fd_law := _, F_law := F7, g_law := PySem.W.mg_of X G a7, b_law := b7, m_bool := PySem.W.mg_none_of X G z_bool, m_int := PySem.W.mg_none_of X G z_int, m_isinstance := PySem.W.mg_none_of X G z_isinstance, m_list := PySem.W.mg_none_of X G z_list, m_range := PySem.W.mg_none_of X G z_range, m_set := PySem.W.mg_none_of X G z_set, m_sorted := PySem.W.mg_none_of X G z_sorted, m_sum := PySem.W.mg_none_of X G z_sum, m_tuple := PySem.W.mg_none_of X G z_tuple }
  exact ⟨_, fun s v => .of_eq rfl, fun base _ _ => ok_law T⟩
end Gk
open PySem PySem.W PyProof.Rows
set_option maxRecDepth 100000 in
set_option maxHeartbeats 0 in
theorem PySem.Challenge.cw_glitchnet_k17_pairs_of_words_holds : PySem.Challenge.rw_glitchnet_k17_pairs_of_words.Holds := by
  w_on; o_law; k_head; (case hw => w_witness2)
  k_fill
  refine L2.walk_of (l := PySem.Challenge.rw_glitchnet_k17_pairs_of_words) (n := 63) (k := 3) (x := "_law_script") (CX := fun _ => L2.CX0) (sp := fun w => Gk.sp_law _) rfl (by decide) rfl ⟨rfl, by decide, by decide⟩ (fun w h Y => PySem.W.kIn_of Y) ?F (fun _ _ a ns hl _ hS => ⟨a, ns, rfl, hS, hl, fun _ => rfl⟩) (fun _ _ _ _ _ h => h)
  case F =>
    intro w mg fa h KX G hmg
    refine' Gk.all_mk KX G hmg ?a1 ?l1 ?c1 ?k1 ?a2 ?l2 ?c2 ?k2 ?a3 ?l3 ?c3 ?k3 ?a4 ?l4 ?c4 ?k4 ?a5 ?l5 ?c5 ?k5 ?a6 ?l6 ?c6 ?k6 ?a7 ?l7 ?c7 ?k7 ?z_bool ?z_int ?z_isinstance ?z_list ?z_range ?z_set ?z_sorted ?z_sum ?z_tuple
    (case a1 => k_is)
    (case l1 => k_is)
    (case c1 => k_is)
    (case k1 => k_is)
    (case a2 => k_is)
    (case l2 => k_is)
    (case c2 => k_is)
    (case k2 => k_is)
    (case a3 => k_is)
    (case l3 => k_is)
    (case c3 => k_is)
    (case k3 => k_is)
    (case a4 => k_is)
    (case l4 => k_is)
    (case c4 => k_is)
    (case k4 => k_is)
    (case a5 => k_is)
    (case l5 => k_is)
    (case c5 => k_is)
    (case k5 => k_is)
    (case a6 => k_is)
    (case l6 => k_is)
    (case c6 => k_is)
    (case k6 => k_is)
    (case a7 => k_is)
    (case l7 => k_is)
    (case c7 => k_is)
    (case k7 => k_is)
    (case z_bool => k_is)
    (case z_int => k_is)
    (case z_isinstance => k_is)
    (case z_list => k_is)
    (case z_range => k_is)
    (case z_set => k_is)
    (case z_sorted => k_is)
    (case z_sum => k_is)
    (case z_tuple => k_is)
