import PyProof.Rows.All
import Wide.All
import OpenK.AllK
import Wide.FinOn
import HandS.ForMost
import HandS.IsInst
import HandS.TupLe
import HandS.More
import HandS.Codes
import PySem.Challenge.RW_glitchnet_k15_words_of_waves
set_option Elab.async false
set_option linter.all false
set_option maxRecDepth 100000
namespace Gk
open PySem PySem.Spec PyProof.Rows L2
/-! ### the text -/
def topS (i : Nat) : Stmt := PySem.Challenge.pw_glitchnet_k15_words_of_waves.main.body.getD i (.Pass ⟨0, 0, 0, 0⟩)
abbrev s_word_of : Stmt := topS 1
abbrev s_lets : Stmt := topS 2
abbrev s_deck : Stmt := topS 4
abbrev s_draw : Stmt := topS 5
abbrev s_far : Stmt := topS 6
abbrev s_wave : Stmt := topS 7
abbrev s_last : Stmt := topS 8
abbrev s_is_let : Stmt := topS 9
abbrev s_same : Stmt := topS 10
abbrev s_law : Stmt := topS 11
theorem sc_word_of : FnScope ["wave", "first", "times"] ["wave"] (defScope s_word_of) := ⟨rfl, rfl, rfl, by decide +kernel, rfl, by decide +kernel, by decide +kernel⟩
theorem sc_lets : FnScope ["word", "wave", "first", "last", "fro"] ["word", "wave"] (defScope s_lets) := ⟨rfl, rfl, rfl, by decide +kernel, rfl, by decide +kernel, by decide +kernel⟩
theorem sc_deck : FnScope ["_law_script", "_law_last_here"] ["_law_script"] (defScope s_deck) := ⟨rfl, rfl, rfl, by decide +kernel, rfl, by decide +kernel, by decide +kernel⟩
theorem sc_draw : FnScope ["_law_deck_here", "_law_most", "_law_cell", "_law_number"] ["_law_deck_here", "_law_most"] (defScope s_draw) := ⟨rfl, rfl, rfl, by decide +kernel, rfl, by decide +kernel, by decide +kernel⟩
theorem sc_far : FnScope ["_law_deck_here", "_law_found", "_law_k"] ["_law_deck_here"] (defScope s_far) := ⟨rfl, rfl, rfl, by decide +kernel, rfl, by decide +kernel, by decide +kernel⟩
theorem sc_wave : FnScope ["_law_deck_here", "_law_way", "_law_many", "_law_times", "_law_time", "_law_k"] ["_law_deck_here"] (defScope s_wave) := ⟨rfl, rfl, rfl, by decide +kernel, rfl, by decide +kernel, by decide +kernel⟩
theorem sc_last : FnScope ["_law_wave_here", "_law_worth", "_law_time"] ["_law_wave_here"] (defScope s_last) := ⟨rfl, rfl, rfl, by decide +kernel, rfl, by decide +kernel, by decide +kernel⟩
theorem sc_is_let : FnScope ["_law_word", "_law_wave_here"] ["_law_word", "_law_wave_here"] (defScope s_is_let) := ⟨rfl, rfl, rfl, by decide +kernel, rfl, by decide +kernel, by decide +kernel⟩
theorem sc_same : FnScope ["_law_found", "_law_due"] ["_law_found", "_law_due"] (defScope s_same) := ⟨rfl, rfl, rfl, by decide +kernel, rfl, by decide +kernel, by decide +kernel⟩
theorem sc_law : FnScope ["_law_script", "_law_deck_here", "_law_turn", "_law_wave_here", "_law_due", "_law_number", "_law_word", "_law_told"] ["_law_script"] (defScope s_law) := ⟨rfl, rfl, rfl, by decide +kernel, rfl, by decide +kernel, by decide +kernel⟩
structure Tx (K : PySem.W.Frag) (mg : Str → Option Value) where
  f_word_of : Addr
  fd_word_of : FuncData
  F_word_of : Fun K "word_of" "word_of" s_word_of f_word_of fd_word_of
  g_word_of : mg "word_of" = some (.ref f_word_of)
  b_word_of : Binds K fd_word_of ["wave"] []
  f_lets : Addr
  fd_lets : FuncData
  F_lets : Fun K "lets" "lets" s_lets f_lets fd_lets
  g_lets : mg "lets" = some (.ref f_lets)
  b_lets : Binds K fd_lets ["word", "wave"] []
  f_deck : Addr
  fd_deck : FuncData
  F_deck : Fun K "_law_deck" "_law_deck" s_deck f_deck fd_deck
  g_deck : mg "_law_deck" = some (.ref f_deck)
  b_deck : Binds K fd_deck ["_law_script"] []
  f_draw : Addr
  fd_draw : FuncData
  F_draw : Fun K "_law_draw" "_law_draw" s_draw f_draw fd_draw
  g_draw : mg "_law_draw" = some (.ref f_draw)
  b_draw : Binds K fd_draw ["_law_deck_here", "_law_most"] []
  f_far : Addr
  fd_far : FuncData
  F_far : Fun K "_law_far" "_law_far" s_far f_far fd_far
  g_far : mg "_law_far" = some (.ref f_far)
  b_far : Binds K fd_far ["_law_deck_here"] []
  f_wave : Addr
  fd_wave : FuncData
  F_wave : Fun K "_law_wave" "_law_wave" s_wave f_wave fd_wave
  g_wave : mg "_law_wave" = some (.ref f_wave)
  b_wave : Binds K fd_wave ["_law_deck_here"] []
  f_last : Addr
  fd_last : FuncData
  F_last : Fun K "_law_last" "_law_last" s_last f_last fd_last
  g_last : mg "_law_last" = some (.ref f_last)
  b_last : Binds K fd_last ["_law_wave_here"] []
  f_is_let : Addr
  fd_is_let : FuncData
  F_is_let : Fun K "_law_is_let" "_law_is_let" s_is_let f_is_let fd_is_let
  g_is_let : mg "_law_is_let" = some (.ref f_is_let)
  b_is_let : Binds K fd_is_let ["_law_word", "_law_wave_here"] []
  f_same : Addr
  fd_same : FuncData
  F_same : Fun K "_law_same" "_law_same" s_same f_same fd_same
  g_same : mg "_law_same" = some (.ref f_same)
  b_same : Binds K fd_same ["_law_found", "_law_due"] []
  f_law : Addr
  fd_law : FuncData
  F_law : Fun K "law" "law" s_law f_law fd_law
  g_law : mg "law" = some (.ref f_law)
  b_law : Binds K fd_law ["_law_script"] []
  m_bool : mg "bool" = none
  m_int : mg "int" = none
  m_isinstance : mg "isinstance" = none
  m_len : mg "len" = none
  m_list : mg "list" = none
  m_range : mg "range" = none
  m_sum : mg "sum" = none
  m_tuple : mg "tuple" = none
/-! ### mathematics -/
def lastOf (f : Int) (n : Nat) : Int := if n % 2 = 0 then f else 1 - f
theorem lastOf_zero (f : Int) : lastOf f 0 = f := rfl
theorem lastOf_succ (f : Int) (n : Nat) : lastOf f (n + 1) = 1 - lastOf f n := by
  unfold lastOf
  rcases Nat.mod_two_eq_zero_or_one n with h | h
  · rw [if_pos h, if_neg (show ¬ (n + 1) % 2 = 0 by omega)]
  · rw [if_neg (show ¬ n % 2 = 0 by omega), if_pos (show (n + 1) % 2 = 0 by omega)]
    omega
theorem xor_last {f : Int} (hf : f = 0 ∨ f = 1) (n : Nat) : Builtin.bitXor f (Builtin.bitAnd (n : Int) 1) = lastOf f n := by
  have e : Builtin.bitAnd (n : Int) 1 = ((n % 2 : Nat) : Int) := by
    show ((n &&& 1 : Nat) : Int) = _
    rw [Nat.and_one_is_mod]
  rw [e]
  unfold lastOf
  rcases Nat.mod_two_eq_zero_or_one n with h | h <;> rcases hf with rfl | rfl <;> rw [h] <;> rfl
/-- what lets tells -/
def letB (a b : Int) (c : Bool) (f : Int) (n : Nat) : Bool := decide (a = f) && (decide (b = lastOf f n) && (c || !decide (1 < (n : Int))))
/-! ### heaps -/
theorem same_upd {H : Hp} {p : Addr} {o : HO} (h : H p = none) : Same H (upd H p o) := fun b x e => by
  rw [upd_ne (ne_of_none e h)]
  exact e
def Fr (d l : Addr) (H H' : Hp) : Prop := ∀ b o, b ≠ d → b ≠ l → H b = some o → H' b = some o
theorem Fr.trans {d l : Addr} {H H1 H2 : Hp} (a : Fr d l H H1) (b : Fr d l H1 H2) : Fr d l H H2 := fun c o h1 h2 h => b c o h1 h2 (a c o h1 h2 h)
theorem Fr.refl {d l : Addr} {H : Hp} : Fr d l H H := fun _ _ _ _ h => h
theorem Fr.new {d l p : Addr} {H : Hp} {o : HO} (h : H p = none) : Fr d l H (upd H p o) := fun b x _ _ e => same_upd h b x e
theorem Fr.of {d l : Addr} {H H' : Hp} (h : Same H H') : Fr d l H H' := fun b x _ _ e => h b x e
theorem Fr.d {d l : Addr} {H : Hp} {o : HO} : Fr d l H (upd H d o) := fun b x h1 _ e => by rw [upd_ne h1]; exact e
theorem Fr.l {d l : Addr} {H : Hp} {o : HO} : Fr d l H (upd H l o) := fun b x _ h2 e => by rw [upd_ne h2]; exact e
def Deck (H : Hp) (d l : Addr) : Prop := d ≠ l ∧ ∃ (cs : List Int) (z : Int), H d = some (.lst [.ref l, .int z]) ∧ H l = some (.lst (cs.map V.int)) ∧ cs.length ≤ 63 ∧ 0 ≤ z ∧ z < 4294967296
theorem Deck.same {H H' : Hp} {d l : Addr} (D : Deck H d l) (s : Same H H') : Deck H' d l := by
  obtain ⟨ne, cs, z, hd, hl, r⟩ := D
  exact ⟨ne, cs, z, s _ _ hd, s _ _ hl, r⟩
theorem Deck.new {H : Hp} {d l p : Addr} {o : HO} (D : Deck H d l) (h : H p = none) : Deck (upd H p o) d l := D.same (same_upd h)
theorem Deck.ne_new {H : Hp} {d l p : Addr} (D : Deck H d l) (h : H p = none) : p ≠ d ∧ p ≠ l := by
  obtain ⟨ne, cs, z, hd, hl, r⟩ := D
  exact ⟨(ne_of_none hd h).symm, (ne_of_none hl h).symm⟩
theorem p29 : (0 : Int) < 2147483629 := by decide
theorem p47 : (0 : Int) < 2147483647 := by decide
theorem p87 : (0 : Int) < 2147483587 := by decide
theorem sl1 : 1 ≤ sizeLine := by decide
theorem sl2 : 2 ≤ sizeLine := by decide
theorem sl3 : 3 ≤ sizeLine := by decide
theorem sl4 : 4 ≤ sizeLine := by decide
theorem seqIx0 {α : Type} (x : α) (xs : List α) : seqIndex? 0 (x :: xs).length = some 0 := by
  refine (ixN_seq (n := (x :: xs).length) (i := 0) (j := 0) ?_).1
  unfold ixN
  rw [if_pos (by decide), if_pos (by rw [List.length_cons]; omega)]
  rfl
theorem dpInts {K : PySem.W.Frag} {H : Hp} : ∀ cs : List Int, DpAll K H (cs.map V.int) (cs.map PyData.int)
  | [] => .nil
  | c :: r => .cons (.int c) (dpInts r)
theorem shInts (ns : List Int) : SeqAt.shaped (.list (ns.map PyData.int)) = true := by
  unfold SeqAt.shaped
  rw [Bool.and_eq_true]
  refine ⟨?_, ?_⟩
  · simp only [PyData.canLay0, canLayAll_ints]
  · simp only [PyData.depth, depthAll_ints]
    decide
theorem at_pick {xs : List V} {j : Int} (h0 : 0 ≤ j) (h1 : j < xs.length) : ∃ x, atI xs j = some x ∧ x ∈ xs := by
  obtain ⟨k, rfl⟩ : ∃ k : Nat, j = (k : Int) := ⟨j.toNat, (Int.toNat_of_nonneg h0).symm⟩
  have hk : k < xs.length := by omega
  exact ⟨xs[k], atI_nat (List.getElem?_eq_getElem hk), List.getElem_mem hk⟩
section
variable {P : Program} {w : World} {K : PySem.W.Frag} {mg : Str → Option Value} {base : Heap}
/-! ### the deck -/
def sp_deck (K : PySem.W.Frag) : Sp := fun vs H Q _ => ∃ (a : Addr) (ns : List Int), vs = [.ref a] ∧ SqL K H a (ns.map V.int) ∧ ns.length ≤ 63 ∧ ∀ H' d l, Same H H' → Deck H' d l → Q (.ref d) H'
theorem cut63 {ns : List Int} (h : ns.length ≤ 63) : cutV (ns.map V.int) none (some 63) = ns.map V.int := by
  unfold cutV
  have e : HT.sIx (ns.map V.int).length (ns.map V.int).length (some 63) = min 63 (ns.map V.int).length := HT.sIx_nat _ _ 63
  rw [HT.sIx_none, e, List.length_map, List.drop_zero]
  apply List.take_of_length_le
  rw [List.length_map]
  omega
theorem ok_deck (T : Tx K mg) : FnOk P w K mg base CX0 1 T.f_deck T.fd_deck ["_law_script"] (sp_deck K) := by
  refine T.F_deck.ok sc_deck (fun vs H Q E h => ?_) (fun cdv A outer s H vs Q E hr h => ?_)
  · obtain ⟨a, ns, rfl, _⟩ := h
    rfl
  · obtain ⟨a, ns, rfl, hS, hlen, q⟩ := h
    refine ⟨_, (pss_cons (ps_set (i := 1) sc_deck.nd rfl (.inl rfl) (pe_op op_add pe_int (pe_op op_mod (pe_callB (cr_sum rfl) (by rfl) T.m_sum (by decide +kernel) (pa_cons (pe_slice sl_list (pv 0) po_none (po_some pe_int)) pa_nil)) pe_int))) (pss_one (ps_ret (pe_lst (pa_cons (pe_callTy call_list_of (by rfl) T.m_list (by decide +kernel) (pa_cons (pe_slice sl_list (pv 0) po_none (po_some pe_int)) pa_nil)) (pa_cons (pv 1) pa_nil)))))), ?_⟩
    refine ⟨.ref a, rfl, 63, rfl, a, _, rfl, hS, fun c nc => ?_⟩
    rw [cut63 hlen]
    have s1 : Same H (upd H c (.lst (ns.map V.int))) := same_upd nc
    refine ⟨c, ns, rfl, SqL.of upd_same, _, _, rfl, rfl, p29, _, _, rfl, rfl, ?_⟩
    refine ⟨.ref a, rfl, 63, rfl, a, _, rfl, s1.seq hS, fun c2 nc2 => ?_⟩
    rw [cut63 hlen]
    refine ⟨c2, _, rfl, .inl (SqL.of upd_same), fun l nl => ?_⟩
    refine ⟨_, rfl, sl2, fun d nd => ?_⟩
    have nld : l ≠ d := fun e => by rw [← e, upd_same] at nd; cases nd
    refine q _ d l (((s1.trans (same_upd nc2)).trans (same_upd nl)).trans (same_upd nd)) ⟨nld.symm, ns, _, upd_same, (by rw [upd_ne nld, upd_same]), hlen, ?_, ?_⟩
    · have := Int.emod_nonneg ns.sum (show (2147483629 : Int) ≠ 0 by decide)
      omega
    · have := Int.emod_lt_of_pos ns.sum (show (0 : Int) < 2147483629 by decide)
      omega
/-! ### a draw -/
def sp_draw (K : PySem.W.Frag) : Sp := fun vs H Q _ => ∃ (d l : Addr) (m : Int), vs = [.ref d, .int m] ∧ Deck H d l ∧ 0 < m ∧ m < 1073741824 ∧ ∀ H' v, Deck H' d l → Fr d l H H' → 0 ≤ v → v < m → Q (.int v) H'
theorem ok_draw (T : Tx K mg) : FnOk P w K mg base CX0 1 T.f_draw T.fd_draw ["_law_deck_here", "_law_most"] (sp_draw K) := by
  refine T.F_draw.ok sc_draw (fun vs H Q E h => ?_) (fun cdv A outer s H vs Q E hr h => ?_)
  · obtain ⟨d, l, m, rfl, _⟩ := h
    rfl
  · obtain ⟨d, l, m, rfl, D, hm0, hm1, q⟩ := h
    obtain ⟨ne, cs, z, hd, hl, hcs, hz0, hz1⟩ := D
    refine ⟨_, (pss_cons (ps_if (pt_cmpR (op_eqD hr.units) (pe_ix ix_list (pv 0) pe_int (fun _ _ => rfl)) (pe_lst pa_nil) (nomark _)) (pss_cons (ps_asg (pe_op op_mod (pe_op op_add (pe_op op_add (pe_op op_mul (pe_ix ix_list (pv 0) pe_int (fun _ _ => rfl)) (pe_ix ix_list (pv 0) pe_int (fun _ _ => rfl))) (pe_op op_mul pe_int (pe_ix ix_list (pv 0) pe_int (fun _ _ => rfl)))) pe_int) pe_int) (pg_sub (pv 0) pe_int set_list)) (pss_cons (ps_asg (pe_op op_mod (pe_op op_add (pe_op op_add (pe_op op_mul (pe_ix ix_list (pv 0) pe_int (fun _ _ => rfl)) (pe_ix ix_list (pv 0) pe_int (fun _ _ => rfl))) (pe_op op_mul pe_int (pe_ix ix_list (pv 0) pe_int (fun _ _ => rfl)))) pe_int) pe_int) (pg_sub (pv 0) pe_int set_list)) (pss_one (ps_ret (pe_op op_mod (pe_op op_fdiv (pe_ix ix_list (pv 0) pe_int (fun _ _ => rfl)) pe_int) (pv 1)))))) pss_nil) (pss_cons (ps_set (i := 2) sc_draw.nd rfl (.inl rfl) (pe_bm PySem.F.plainAttrs_list PySem.F.slot_list_pop PySem.F.type_list_pop mt_popAt (pe_ix ix_list (pv 0) pe_int (fun _ _ => rfl)) (pa_cons pe_int pa_nil))) (pss_cons (ps_if (pt_cmpR op_ge (pv 2) (pe_op op_pow pe_int pe_int) (nomark _)) (pss_cons (ps_expr (pe_bm PySem.F.plainAttrs_list PySem.F.slot_list_insert PySem.F.type_list_insert mt_insert (pe_ix ix_list (pv 0) pe_int (fun _ _ => rfl)) (pa_cons pe_int (pa_cons (pe_op op_fdiv (pv 2) (pv 1)) pa_nil)))) (pss_one (ps_ret (pe_op op_mod (pv 2) (pv 1))))) pss_nil) (pss_cons (ps_asg (pe_op op_mod (pe_op op_add (pe_ix ix_list (pv 0) pe_int (fun _ _ => rfl)) pe_int) pe_int) (pg_sub (pv 0) pe_int set_list)) (pss_cons (ps_set (i := 3) sc_draw.nd rfl (.inl rfl) (pe_op op_mod (pe_op op_add (pe_op op_mul (pe_op op_mod (pv 2) pe_int) pe_int) (pe_ix ix_list (pv 0) pe_int (fun _ _ => rfl))) pe_int)) (pss_one (ps_ret (pe_op op_mod (pe_op op_fdiv (pe_op op_mod (pe_op op_add (pe_op op_mul (pv 3) (pv 3)) (pe_op op_mul pe_int (pv 3))) pe_int) pe_int) (pv 1))))))))), ?_⟩
    -- if deck[0] == []
    refine ⟨.ref d, rfl, d, _, 0, .ref l, rfl, rfl, SqL.of hd, rfl, Nat.zero_le _, fun p np => ?_⟩
    have fr1 : Fr d l H (upd H p (.lst [])) := Fr.new np
    have hd1 : (upd H p (.lst [])) d = some (.lst [.ref l, .int z]) := same_upd np _ _ hd
    have hl1 : (upd H p (.lst [])) l = some (.lst (cs.map V.int)) := same_upd np _ _ hl
    refine ⟨.list (cs.map .int), .list [], .lst (SqL.of hl1) (dpInts cs), .lst (SqL.of upd_same) .nil, shInts cs, rfl, _, rfl, ?_⟩
    revert fr1 hd1 hl1
    generalize upd H p (.lst []) = H1
    intro fr1 hd1 hl1
    cases cs with
    | nil =>
      refine iteT ?_
      -- two stores
      refine ⟨.ref d, rfl, d, _, 1, .int z, rfl, rfl, SqL.of hd1, rfl, .ref d, rfl, d, _, 1, .int z, rfl, rfl, SqL.of hd1, rfl, z, z, rfl, rfl, .inl ⟨by omega, by omega⟩, .ref d, rfl, d, _, 1, .int z, rfl, rfl, SqL.of hd1, rfl, 48271, z, rfl, rfl, .inl ⟨by decide, by decide⟩, _, _, rfl, rfl, _, _, rfl, rfl, _, _, rfl, rfl, p47, .ref d, rfl, d, _, 1, 1, rfl, rfl, hd1, rfl, ?_⟩
      dsimp only
      have y0 := Int.emod_nonneg (z * z + 48271 * z + 11) (show (2147483647 : Int) ≠ 0 by decide)
      have y1 := Int.emod_lt_of_pos (z * z + 48271 * z + 11) (show (0 : Int) < 2147483647 by decide)
      revert y0 y1
      generalize (z * z + 48271 * z + 11) % 2147483647 = y
      intro y0 y1
      have hd2 : (upd H1 d (.lst [.ref l, .int y])) d = some (.lst [.ref l, .int y]) := upd_same
      have hl2 : (upd H1 d (.lst [.ref l, .int y])) l = some (.lst []) := by rw [upd_ne ne.symm]; exact hl1
      have fr2 : Fr d l H (upd H1 d (.lst [.ref l, .int y])) := fr1.trans Fr.d
      refine ⟨.ref d, rfl, d, _, 1, .int y, rfl, rfl, SqL.of hd2, rfl, .ref d, rfl, d, _, 1, .int y, rfl, rfl, SqL.of hd2, rfl, y, y, rfl, rfl, .inl ⟨by omega, by omega⟩, .ref d, rfl, d, _, 1, .int y, rfl, rfl, SqL.of hd2, rfl, 69621, y, rfl, rfl, .inl ⟨by decide, by decide⟩, _, _, rfl, rfl, _, _, rfl, rfl, _, _, rfl, rfl, p29, .ref d, rfl, d, _, 1, 1, rfl, rfl, hd2, rfl, ?_⟩
      dsimp only
      have x0 := Int.emod_nonneg (y * y + 69621 * y + 7) (show (2147483629 : Int) ≠ 0 by decide)
      have x1 := Int.emod_lt_of_pos (y * y + 69621 * y + 7) (show (0 : Int) < 2147483629 by decide)
      revert x0 x1
      generalize (y * y + 69621 * y + 7) % 2147483629 = x
      intro x0 x1
      refine ⟨.ref d, rfl, d, _, 1, .int x, rfl, rfl, SqL.of upd_same, rfl, _, _, rfl, rfl, ⟨by decide, by decide⟩, .int m, rfl, _, _, rfl, rfl, hm0, ?_⟩
      exact q _ _ ⟨ne, [], x, upd_same, (by rw [upd_ne ne.symm]; exact hl2), hcs, by omega, by omega⟩ (fr2.trans Fr.d) (Int.emod_nonneg _ (by omega)) (Int.emod_lt_of_pos _ hm0)
    | cons c r =>
      refine iteF ?_
      -- cell = deck[0].pop(0)
      refine ⟨.ref d, rfl, d, _, 0, .ref l, rfl, rfl, SqL.of hd1, rfl, .inl ⟨rfl, _, SqL.of hl1⟩, l, _, 0, 0, .int c, rfl, rfl, hl1, by decide, by decide, seqIx0 _ _, rfl, ?_⟩
      have hd2 : (upd H1 l (.lst (r.map V.int))) d = some (.lst [.ref l, .int z]) := by rw [upd_ne ne]; exact hd1
      have hl2 : (upd H1 l (.lst (r.map V.int))) l = some (.lst (r.map V.int)) := upd_same
      have fr2 : Fr d l H (upd H1 l (.lst (r.map V.int))) := fr1.trans Fr.l
      have hr63 : r.length + 1 ≤ 63 := hcs
      -- if cell >= 10 ** 18
      refine ⟨.int c, rfl, _, _, rfl, rfl, ⟨by decide, by decide, by decide⟩, _, _, rfl, rfl, _, rfl, ite2 (fun _ => ?_) (fun _ => ?_)⟩
      · refine ⟨.ref d, rfl, d, _, 0, .ref l, rfl, rfl, SqL.of hd2, rfl, .inl ⟨rfl, _, SqL.of hl2⟩, .int c, rfl, .int m, rfl, _, _, rfl, rfl, ⟨hm0, hm1⟩, l, _, 0, _, rfl, rfl, hl2, ?_, by decide, by decide, ?_⟩
        · rw [List.length_map]
          exact Nat.lt_of_lt_of_le (show r.length < 64 by omega) (by decide)
        · refine ⟨.int c, rfl, .int m, rfl, _, _, rfl, rfl, hm0, ?_⟩
          refine q _ _ ⟨ne, c / m :: r, z, (by rw [upd_ne ne]; exact hd2), ?_, hr63, hz0, hz1⟩ (fr2.trans Fr.l) (Int.emod_nonneg _ (by omega)) (Int.emod_lt_of_pos _ hm0)
          rw [upd_same]
          simp
      · refine ⟨.ref d, rfl, d, _, 1, .int z, rfl, rfl, SqL.of hd2, rfl, _, _, rfl, rfl, _, _, rfl, rfl, p29, .ref d, rfl, d, _, 1, 1, rfl, rfl, hd2, rfl, ?_⟩
        dsimp only
        have y0 := Int.emod_nonneg (z + 69621) (show (2147483629 : Int) ≠ 0 by decide)
        have y1 := Int.emod_lt_of_pos (z + 69621) (show (0 : Int) < 2147483629 by decide)
        revert y0 y1
        generalize (z + 69621) % 2147483629 = y
        intro y0 y1
        have u0 := Int.emod_nonneg c (show (2147483647 : Int) ≠ 0 by decide)
        have u1 := Int.emod_lt_of_pos c (show (0 : Int) < 2147483647 by decide)
        refine ⟨.int c, rfl, _, _, rfl, rfl, p47, c % 2147483647, 48271, rfl, rfl, .inl ⟨by omega, by omega⟩, .ref d, rfl, d, _, 1, .int y, rfl, rfl, SqL.of upd_same, rfl, _, _, rfl, rfl, _, _, rfl, rfl, p29, ?_⟩
        dsimp only
        have v0 := Int.emod_nonneg (c % 2147483647 * 48271 + y) (show (2147483629 : Int) ≠ 0 by decide)
        have v1 := Int.emod_lt_of_pos (c % 2147483647 * 48271 + y) (show (0 : Int) < 2147483629 by decide)
        revert v0 v1
        generalize (c % 2147483647 * 48271 + y) % 2147483629 = v
        intro v0 v1
        refine ⟨.int v, rfl, .int v, rfl, v, v, rfl, rfl, .inl ⟨by omega, by omega⟩, .int v, rfl, 16807, v, rfl, rfl, .inl ⟨by decide, by decide⟩, _, _, rfl, rfl, _, _, rfl, rfl, p87, _, _, rfl, rfl, ⟨by decide, by decide⟩, .int m, rfl, _, _, rfl, rfl, hm0, ?_⟩
        exact q _ _ ⟨ne, r, y, upd_same, (by rw [upd_ne ne.symm]; exact hl2), by omega, by omega, by omega⟩ (fr2.trans Fr.d) (Int.emod_nonneg _ (by omega)) (Int.emod_lt_of_pos _ hm0)
end
end Gk

set_option Elab.async false
set_option linter.all false
set_option maxRecDepth 100000
namespace Gk
open PySem PySem.Spec PyProof.Rows L2
section
variable {P : Program} {w : World} {K : PySem.W.Frag} {mg : Str → Option Value} {base : Heap}
/-! ### far -/
def sp_far (K : PySem.W.Frag) : Sp := fun vs H Q _ => ∃ (d l : Addr), vs = [.ref d] ∧ Deck H d l ∧ ∀ H' v, Deck H' d l → Fr d l H H' → Q (.int v) H'
theorem ok_far (T : Tx K mg) : FnOk P w K mg base CX0 2 T.f_far T.fd_far ["_law_deck_here"] (sp_far K) := by
  refine T.F_far.ok sc_far (fun vs H Q E h => ?_) (fun cdv A outer s H vs Q E hr h => ?_)
  · obtain ⟨d, l, rfl, _⟩ := h
    rfl
  · obtain ⟨d, l, rfl, D, q⟩ := h
    refine ⟨_, (pss_cons (ps_set (i := 1) sc_far.nd rfl (.inl rfl) pe_int) (pss_cons (ps_for PassesOwn.never rfl (pi_range1 (by rfl) T.m_range (pa_cons pe_int pa_nil)) (pg_name (i := 2) sc_far.nd rfl (.inl rfl)) (pss_one (ps_set (i := 1) sc_far.nd rfl (.inl rfl) (pe_op op_add (pe_op op_mul (pv 1) (pe_op op_pow pe_int pe_int)) (pe_call (ok_draw T) (hr.mono (by decide)) (by rfl) T.g_draw T.F_draw.kp T.b_draw .nil pass0 (pa_cons (pv 0) (pa_cons (pe_op op_pow pe_int pe_int) pa_nil))))))) (pss_one (ps_ret (pv 1))))), ?_⟩
    refine ⟨5, rfl, by decide, by decide, for_range (n := 5) (fun i σ H' => ∃ v y, σ = [some (.ref d), some (.int v), y] ∧ Deck H' d l ∧ Fr d l H H') ⟨0, none, rfl, D, Fr.refl⟩ ?_ ?_⟩
    · rintro i σ H' hi ⟨v, y, rfl, D', fr⟩
      refine ⟨.int v, rfl, _, _, rfl, rfl, ⟨by decide, by decide, by decide⟩, v, _, rfl, rfl, .inr ⟨by decide, by decide⟩, .ref d, rfl, 10, 6, rfl, rfl, ⟨by decide, by decide, by decide⟩, d, l, 1000000, rfl, D', by decide, by decide, fun H2 u D2 fr2 _ _ => ?_⟩
      exact ⟨_, _, rfl, rfl, _, _, rfl, D2, fr.trans fr2⟩
    · rintro σ H' ⟨v, y, rfl, D', fr⟩
      exact ⟨.int v, rfl, q H' v D' fr⟩
/-! ### a wave -/
def WaveAt (H : Hp) (p : Addr) (f : Int) (n : Nat) : Prop := (f = 0 ∨ f = 1) ∧ ∃ (t : Addr) (ts : List Int), H p = some (.tup [.int f, .ref t]) ∧ H t = some (.tup (ts.map V.int)) ∧ ts.length = n
theorem WaveAt.same {H H' : Hp} {p : Addr} {f : Int} {n : Nat} (W : WaveAt H p f n) (s : Same H H') : WaveAt H' p f n := by
  obtain ⟨hf, t, ts, h1, h2, h3⟩ := W
  exact ⟨hf, t, ts, s _ _ h1, s _ _ h2, h3⟩
def sp_wave (K : PySem.W.Frag) : Sp := fun vs H Q _ => ∃ (d l : Addr), vs = [.ref d] ∧ Deck H d l ∧ ∀ H' p f n, Deck H' d l → WaveAt H' p f n → Q (.ref p) H'
theorem ok_wave (T : Tx K mg) : FnOk P w K mg base CX0 3 T.f_wave T.fd_wave ["_law_deck_here"] (sp_wave K) := by
  refine T.F_wave.ok sc_wave (fun vs H Q E h => ?_) (fun cdv A outer s H vs Q E hr h => ?_)
  · obtain ⟨d, l, rfl, _⟩ := h
    rfl
  · obtain ⟨d, l, rfl, D, q⟩ := h
    refine ⟨_, (pss_cons (ps_set (i := 1) sc_wave.nd rfl (.inl rfl) (pe_call (ok_draw T) (hr.mono (by decide)) (by rfl) T.g_draw T.F_draw.kp T.b_draw .nil pass0 (pa_cons (pv 0) (pa_cons pe_int pa_nil)))) (pss_cons (ps_set (i := 2) sc_wave.nd rfl (.inl rfl) (pe_ix ix_list (pe_lst (pa_cons (pe_call (ok_draw T) (hr.mono (by decide)) (by rfl) T.g_draw T.F_draw.kp T.b_draw .nil pass0 (pa_cons (pv 0) (pa_cons pe_int pa_nil))) (pa_cons (pe_call (ok_draw T) (hr.mono (by decide)) (by rfl) T.g_draw T.F_draw.kp T.b_draw .nil pass0 (pa_cons (pv 0) (pa_cons pe_int pa_nil))) pa_nil))) (pe_op op_mod (pv 1) pe_int) (fun _ _ => rfl))) (C8.pss_cut (ps_if (pt_cmpR op_eq (pv 1) pe_int (nomark _)) (pss_one (ps_set (i := 2) sc_wave.nd rfl (.inl rfl) (pe_call (ok_draw T) (hr.mono (by decide)) (by rfl) T.g_draw T.F_draw.kp T.b_draw .nil pass0 (pa_cons (pv 0) (pa_cons pe_int pa_nil))))) pss_nil) (pss_cons (ps_set (i := 3) sc_wave.nd rfl (.inl rfl) (pe_lst pa_nil)) (pss_cons (ps_set (i := 4) sc_wave.nd rfl (.inl rfl) (pe_ix ix_list (pe_lst (pa_cons pe_int (pa_cons pe_int (pa_cons (pe_call (ok_draw T) (hr.mono (by decide)) (by rfl) T.g_draw T.F_draw.kp T.b_draw .nil pass0 (pa_cons (pv 0) (pa_cons pe_int pa_nil))) (pa_cons (pe_call (ok_far T) (hr.mono (by decide)) (by rfl) T.g_far T.F_far.kp T.b_far .nil pass0 (pa_cons (pv 0) pa_nil)) pa_nil))))) (pe_op op_fdiv (pv 1) pe_int) (fun _ _ => rfl))) (pss_cons (ps_for PassesOwn.never rfl (pi_range1 (by rfl) T.m_range (pa_cons (pv 2) pa_nil)) (pg_name (i := 5) sc_wave.nd rfl (.inl rfl)) (pss_cons (ps_expr (pe_bm PySem.F.plainAttrs_list PySem.F.slot_list_append PySem.F.type_list_append mt_append (pv 3) (pa_cons (pv 4) pa_nil))) (pss_one (ps_set (i := 4) sc_wave.nd rfl (.inl rfl) (pe_op op_add (pe_op op_add (pv 4) pe_int) (pe_ix ix_list (pe_lst (pa_cons pe_int (pa_cons (pe_call (ok_draw T) (hr.mono (by decide)) (by rfl) T.g_draw T.F_draw.kp T.b_draw .nil pass0 (pa_cons (pv 0) (pa_cons pe_int pa_nil))) (pa_cons (pe_op op_fdiv (pe_call (ok_far T) (hr.mono (by decide)) (by rfl) T.g_far T.F_far.kp T.b_far .nil pass0 (pa_cons (pv 0) pa_nil)) pe_int) pa_nil)))) (pe_call (ok_draw T) (hr.mono (by decide)) (by rfl) T.g_draw T.F_draw.kp T.b_draw .nil pass0 (pa_cons (pv 0) (pa_cons pe_int pa_nil))) (fun _ _ => rfl))))))) (pss_one (ps_ret (pe_tup (pa_cons (pe_call (ok_draw T) (hr.mono (by decide)) (by rfl) T.g_draw T.F_draw.kp T.b_draw .nil pass0 (pa_cons (pv 0) (pa_cons pe_int pa_nil))) (pa_cons (pe_callTy call_tuple_of (by rfl) T.m_tuple (by decide +kernel) (pa_cons (pv 3) pa_nil)) pa_nil))))))))))), ?_⟩
    -- way
    refine ⟨.ref d, rfl, d, l, 8, rfl, D, by decide, by decide, fun H1 way D1 _ w0 w1 => ?_⟩
    -- many
    refine ⟨.ref d, rfl, d, l, 4, rfl, D1, by decide, by decide, fun H2 m1 D2 _ m10 m11 => ?_⟩
    refine ⟨.ref d, rfl, d, l, 7, rfl, D2, by decide, by decide, fun H3 m2 D3 _ m20 m21 => ?_⟩
    refine ⟨sl2, fun p np => ?_⟩
    obtain ⟨x, hx, mx⟩ := at_pick (xs := [.int m1, .int m2]) (j := way % 2) (Int.emod_nonneg _ (by decide)) (Int.emod_lt_of_pos _ (by decide))
    obtain ⟨many, rfl, hm0, hm1⟩ : ∃ many, x = .int many ∧ 0 ≤ many ∧ many < 1000 := by
      rcases List.mem_cons.mp mx with rfl | mx
      · exact ⟨m1, rfl, by omega, by omega⟩
      · rcases List.mem_cons.mp mx with rfl | mx
        · exact ⟨m2, rfl, by omega, by omega⟩
        · cases mx
    refine ⟨.int way, rfl, _, _, rfl, rfl, (show (0 : Int) < 2 by decide), p, _, _, .int many, rfl, rfl, SqL.of upd_same, hx, ?_⟩
    have D4 : Deck (upd H3 p (.lst [.int m1, .int m2])) d l := D3.new np
    -- if way == 5
    refine ⟨fun σ' H' => ∃ many, 0 ≤ many ∧ many < 1000 ∧ σ' = [some (.ref d), some (.int way), some (.int many), none, none, none] ∧ Deck H' d l, ?_, ?_⟩
    · refine ⟨.int way, rfl, rfl, _, rfl, ite2 (fun _ => ?_) (fun _ => ?_)⟩
      · refine ⟨.ref d, rfl, d, l, 201, rfl, D4, by decide, by decide, fun H5 m3 D5 _ m30 m31 => ?_⟩
        exact ⟨m3, m30, by omega, rfl, D5⟩
      · exact ⟨many, hm0, hm1, rfl, D4⟩
    · clear hx mx hm0 hm1 D4 np
      rintro σ' H5 ⟨many, hm0, hm1, rfl, D5⟩
      -- times = []
      refine ⟨Nat.zero_le _, fun tl ntl => ?_⟩
      have D6 : Deck (upd H5 tl (.lst [])) d l := D5.new ntl
      have nt := D5.ne_new ntl
      -- time
      refine ⟨.ref d, rfl, d, l, 9, rfl, D6, by decide, by decide, fun H7 m3 D7 fr7 _ _ => ?_⟩
      refine ⟨.ref d, rfl, d, l, rfl, D7, fun H8 m4 D8 fr8 => ?_⟩
      refine ⟨sl4, fun p2 np2 => ?_⟩
      obtain ⟨x, hx, mx⟩ := at_pick (xs := [.int 0, .int 0, .int m3, .int m4]) (j := way / 2) (by omega) (by show way / 2 < 4; omega)
      obtain ⟨tm, rfl⟩ : ∃ tm, x = .int tm := by
        rcases List.mem_cons.mp mx with rfl | mx
        · exact ⟨_, rfl⟩
        · rcases List.mem_cons.mp mx with rfl | mx
          · exact ⟨_, rfl⟩
          · rcases List.mem_cons.mp mx with rfl | mx
            · exact ⟨_, rfl⟩
            · rcases List.mem_cons.mp mx with rfl | mx
              · exact ⟨_, rfl⟩
              · cases mx
      refine ⟨.int way, rfl, _, _, rfl, rfl, ⟨by decide, by decide⟩, p2, _, _, .int tm, rfl, rfl, SqL.of upd_same, hx, ?_⟩
      have D9 : Deck (upd H8 p2 (.lst [.int 0, .int 0, .int m3, .int m4])) d l := D8.new np2
      have t9 : (upd H8 p2 (.lst [.int 0, .int 0, .int m3, .int m4])) tl = some (.lst []) := same_upd np2 _ _ (fr8 _ _ nt.1 nt.2 (fr7 _ _ nt.1 nt.2 upd_same))
      -- the loop
      refine ⟨.int many, rfl, many, rfl, by omega, by omega, for_range (n := many.toNat) (fun i σ H' => ∃ (ts : List Int) (tm : Int) (y : Option V), σ = [some (.ref d), some (.int way), some (.int many), some (.ref tl), some (.int tm), y] ∧ Deck H' d l ∧ H' tl = some (.lst (ts.map V.int)) ∧ ts.length = i) ⟨[], tm, none, rfl, D9, t9, rfl⟩ ?_ ?_⟩
      · rintro i σ H' hi ⟨ts, tm, y, rfl, D', ht, hlen⟩
        refine ⟨.ref tl, rfl, .inl ⟨rfl, _, SqL.of ht⟩, .int tm, rfl, tl, _, _, rfl, rfl, ht, ?_, ?_⟩
        · rw [List.length_map, hlen]
          exact Nat.lt_of_lt_of_le (show i < 1000 by omega) (by decide)
        · have D2 : Deck (upd H' tl (.lst (ts.map V.int ++ [.int tm]))) d l := by
            obtain ⟨ne, cs, z, hd, hl, r⟩ := D'
            exact ⟨ne, cs, z, by rw [upd_ne nt.1.symm]; exact hd, by rw [upd_ne nt.2.symm]; exact hl, r⟩
          -- time = time + 1 + [..][..]
          refine ⟨.int tm, rfl, _, _, rfl, rfl, ?_⟩
          refine ⟨.ref d, rfl, d, l, 5, rfl, D2, by decide, by decide, fun H3 u1 D3 fr3 _ _ => ?_⟩
          refine ⟨.ref d, rfl, d, l, rfl, D3, fun H4 u2 D4 fr4 => ?_⟩
          refine ⟨_, _, rfl, rfl, ⟨by decide, by decide⟩, sl3, fun p3 np3 => ?_⟩
          have D5 := D4.new (o := .lst [.int 0, .int u1, .int (u2 / 100)]) np3
          refine ⟨.ref d, rfl, d, l, 3, rfl, D5, by decide, by decide, fun H6 j D6 fr6 j0 j1 => ?_⟩
          have n3 := D4.ne_new np3
          have h3 : H6 p3 = some (.lst [.int 0, .int u1, .int (u2 / 100)]) := fr6 _ _ n3.1 n3.2 upd_same
          obtain ⟨x, hx, mx⟩ := at_pick (xs := [.int 0, .int u1, .int (u2 / 100)]) (j := j) j0 j1
          obtain ⟨s, rfl⟩ : ∃ s, x = .int s := by
            rcases List.mem_cons.mp mx with rfl | mx
            · exact ⟨_, rfl⟩
            · rcases List.mem_cons.mp mx with rfl | mx
              · exact ⟨_, rfl⟩
              · rcases List.mem_cons.mp mx with rfl | mx
                · exact ⟨_, rfl⟩
                · cases mx
          refine ⟨p3, _, _, .int s, rfl, rfl, SqL.of h3, hx, _, _, rfl, rfl, ?_⟩
          refine ⟨ts ++ [tm], _, _, rfl, D6, ?_, by rw [List.length_append, hlen]; rfl⟩
          rw [List.map_append]
          exact fr6 _ _ nt.1 nt.2 (same_upd np3 _ _ (fr4 _ _ nt.1 nt.2 (fr3 _ _ nt.1 nt.2 upd_same)))
      · rintro σ H' ⟨ts, tm, y, rfl, D', ht, hlen⟩
        refine ⟨.ref d, rfl, d, l, 2, rfl, D', by decide, by decide, fun H2 f D2 fr2 f0 f1 => ?_⟩
        refine ⟨.ref tl, rfl, tl, _, rfl, .inl ⟨SqL.of (fr2 _ _ nt.1 nt.2 ht), fun t nt2 => ?_⟩⟩
        refine ⟨sl2, fun p np => ?_⟩
        exact q _ p f ts.length ((D2.new nt2).new np) ⟨by omega, t, ts, upd_same, same_upd np _ _ upd_same, rfl⟩
/-! ### last -/
def sp_last (K : PySem.W.Frag) : Sp := fun vs H Q _ => ∃ (p : Addr) (f : Int) (n : Nat), vs = [.ref p] ∧ WaveAt H p f n ∧ Q (.int (lastOf f n)) H
theorem ok_last (T : Tx K mg) : FnOk P w K mg base CX0 1 T.f_last T.fd_last ["_law_wave_here"] (sp_last K) := by
  refine T.F_last.ok sc_last (fun vs H Q E h => ?_) (fun cdv A outer s H vs Q E hr h => ?_)
  · obtain ⟨p, f, n, rfl, _⟩ := h
    rfl
  · obtain ⟨p, f, n, rfl, ⟨hf, t, ts, h1, h2, h3⟩, q⟩ := h
    refine ⟨_, (pss_cons (ps_set (i := 1) sc_last.nd rfl (.inl rfl) (pe_ix ix_tup (pv 0) pe_int (fun _ _ => rfl))) (pss_cons (ps_for PassesOwn.never rfl (pi_tup (pe_ix ix_tup (pv 0) pe_int (fun _ _ => rfl))) (pg_name (i := 2) sc_last.nd rfl (.inl rfl)) (pss_one (ps_set (i := 1) sc_last.nd rfl (.inl rfl) (pe_op op_sub pe_int (pv 1))))) (pss_one (ps_ret (pv 1))))), ?_⟩
    refine ⟨.ref p, rfl, p, _, 0, .int f, rfl, rfl, SqT.of h1, rfl, ?_⟩
    refine ⟨.ref p, rfl, p, _, 1, .ref t, rfl, rfl, SqT.of h1, rfl, t, rfl, ⟨_, SqT.of h2⟩, for_tup (K := K) (a := t) (xs := ts.map V.int) (fun i σ H' => ∃ y, σ = [some (.ref p), some (.int (lastOf f i)), y] ∧ H' = H) ⟨none, rfl, rfl⟩ (fun i σ H' _ ⟨y, _, e⟩ => by rw [e]; exact SqT.of h2) ?_ ?_⟩
    · rintro i x σ H' hi ⟨y, rfl, rfl⟩
      refine ⟨.int (lastOf f i), rfl, _, _, rfl, rfl, some x, ?_, rfl⟩
      rw [lastOf_succ]
      rfl
    · rintro σ H' ⟨y, rfl, rfl⟩
      rw [List.length_map, h3]
      exact ⟨_, rfl, q⟩
/-! ### words -/
def WordAt (H : Hp) (p : Addr) (a b : Int) (c : Bool) : Prop := H p = some (.tup [.int a, .int b, .bl c])
def sp_word_of (K : PySem.W.Frag) : Sp := fun vs H Q _ => ∃ (p : Addr) (f : Int) (n : Nat), vs = [.ref p] ∧ WaveAt H p f n ∧ ∀ r H', Same H H' → WordAt H' r f (lastOf f n) (decide (1 < (n : Int))) → Q (.ref r) H'
theorem ok_word_of (T : Tx K mg) : FnOk P w K mg base CX0 1 T.f_word_of T.fd_word_of ["wave"] (sp_word_of K) := by
  refine T.F_word_of.ok sc_word_of (fun vs H Q E h => ?_) (fun cdv A outer s H vs Q E hr h => ?_)
  · obtain ⟨p, f, n, rfl, _⟩ := h
    rfl
  · obtain ⟨p, f, n, rfl, ⟨hf, t, ts, h1, h2, h3⟩, q⟩ := h
    refine ⟨_, (pss_cons (ps_asg (pv 0) (pg_tup rfl (pgs_cons (pg_name (i := 1) sc_word_of.nd rfl (.inl rfl)) (pgs_cons (pg_name (i := 2) sc_word_of.nd rfl (.inl rfl)) pgs_nil)))) (pss_one (ps_ret (pe_tup (pa_cons (pv 1) (pa_cons (pe_op op_xor (pv 1) (pe_op op_and (pe_callB call_len_seq (by rfl) T.m_len PySem.boot_len (pa_cons (pv 2) pa_nil)) pe_int)) (pa_cons (pe_cmpR op_gt (pe_callB call_len_seq (by rfl) T.m_len PySem.boot_len (pa_cons (pv 2) pa_nil)) pe_int (nomark _)) pa_nil))))))), ?_⟩
    refine ⟨.ref p, rfl, p, _, rfl, SqT.of h1, rfl, _, _, rfl, _, _, rfl, rfl, ?_⟩
    refine ⟨.int f, rfl, .int f, rfl, .ref t, rfl, t, _, rfl, .inr (SqT.of h2), _, _, rfl, rfl, _, _, rfl, rfl, .ref t, rfl, t, _, rfl, .inr (SqT.of h2), _, _, rfl, rfl, sl3, fun r nr => ?_⟩
    refine q r _ (same_upd nr) ?_
    unfold WordAt
    rw [upd_same, List.length_map, h3]
    dsimp only
    rw [xor_last hf]
def sp_lets (K : PySem.W.Frag) : Sp := fun vs H Q _ => ∃ (wd p : Addr) (a b : Int) (c : Bool) (f : Int) (n : Nat), vs = [.ref wd, .ref p] ∧ WordAt H wd a b c ∧ WaveAt H p f n ∧ ∀ H', Same H H' → Q (.bl (letB a b c f n)) H'
theorem ok_lets (T : Tx K mg) : FnOk P w K mg base CX0 2 T.f_lets T.fd_lets ["word", "wave"] (sp_lets K) := by
  refine T.F_lets.ok sc_lets (fun vs H Q E h => ?_) (fun cdv A outer s H vs Q E hr h => ?_)
  · obtain ⟨wd, p, a, b, c, f, n, rfl, _⟩ := h
    rfl
  · obtain ⟨wd, p, a, b, c, f, n, rfl, hw, W, q⟩ := h
    refine ⟨_, (pss_cons (ps_asg (pe_call (ok_word_of T) (hr.mono (by decide)) (by rfl) T.g_word_of T.F_word_of.kp T.b_word_of .nil pass0 (pa_cons (pv 1) pa_nil)) (pg_tup rfl (pgs_cons (pg_name (i := 2) sc_lets.nd rfl (.inl rfl)) (pgs_cons (pg_name (i := 3) sc_lets.nd rfl (.inl rfl)) (pgs_cons (pg_name (i := 4) sc_lets.nd rfl (.inl rfl)) pgs_nil))))) (pss_one (ps_ret (pe_and (pe_cmpR op_eq (pe_ix ix_tup (pv 0) pe_int (fun _ _ => rfl)) (pv 2) (nomark _)) (pe_and (pe_cmpR op_eq (pe_ix ix_tup (pv 0) pe_int (fun _ _ => rfl)) (pv 3) (nomark _)) (pe_one (pe_or (pe_ix ix_tup (pv 0) pe_int (fun _ _ => rfl)) (pe_one (pe_not (pv 4)))))))))), ?_⟩
    refine ⟨.ref p, rfl, p, f, n, rfl, W, fun r H1 s1 h1 => ?_⟩
    refine ⟨r, _, rfl, SqT.of h1, rfl, _, _, rfl, _, _, rfl, _, _, rfl, rfl, ?_⟩
    have hw1 := s1 _ _ hw
    have q1 := q H1 s1
    unfold letB at q1
    refine ⟨.ref wd, rfl, wd, _, 0, .int a, rfl, rfl, SqT.of hw1, rfl, .int f, rfl, rfl, _, rfl, ite2 (fun e => ?_) (fun e => ?_)⟩
    · have e1 : a = f := V.int.inj (of_decide_eq_true e)
      refine ⟨.ref wd, rfl, wd, _, 1, .int b, rfl, rfl, SqT.of hw1, rfl, .int (lastOf f n), rfl, rfl, _, rfl, ite2 (fun e => ?_) (fun e => ?_)⟩
      · have e2 : b = lastOf f n := V.int.inj (of_decide_eq_true e)
        rw [decide_eq_true e1, decide_eq_true e2, Bool.true_and, Bool.true_and] at q1
        refine ⟨.ref wd, rfl, wd, _, 2, .bl c, rfl, rfl, SqT.of hw1, rfl, c, rfl, ite2 (fun e => ?_) (fun e => ?_)⟩
        · rw [e, Bool.true_or] at q1
          exact q1
        · rw [Bool.eq_false_iff.mpr e, Bool.false_or] at q1
          exact ⟨.bl _, rfl, _, rfl, q1⟩
      · have e2 : ¬ b = lastOf f n := fun z => e (decide_eq_true (by rw [z]))
        rw [decide_eq_true e1, decide_eq_false e2, Bool.true_and, Bool.false_and] at q1
        exact q1
    · have e1 : ¬ a = f := fun z => e (decide_eq_true (by rw [z]))
      rw [decide_eq_false e1, Bool.false_and] at q1
      exact q1
def sp_is_let (K : PySem.W.Frag) : Sp := fun vs H Q _ => ∃ (wd p : Addr) (a b : Int) (c : Bool) (f : Int) (n : Nat), vs = [.ref wd, .ref p] ∧ WordAt H wd a b c ∧ WaveAt H p f n ∧ Q (.bl (letB a b c f n)) H
theorem letB_once {a b f : Int} {n : Nat} {c : Bool} (hf : f = 0 ∨ f = 1) (e1 : f = a) (e2 : lastOf f n = b) : letB a b c f n = (c || decide ((n : Int) = if (!decide (V.int a = V.int b)) = true then 1 else 0)) := by
  subst e1 e2
  unfold letB
  rw [decide_eq_true rfl, decide_eq_true rfl, Bool.true_and, Bool.true_and]
  congr 1
  have key : (¬ (1 < (n : Int))) ↔ ((n : Int) = if (!decide (V.int f = V.int (lastOf f n))) = true then 1 else 0) := by
    unfold lastOf
    rcases n with _ | _ | n
    · simp
    · have : ¬ (V.int f = V.int (1 - f)) := fun z => by have := V.int.inj z; omega
      simp [this]
    · constructor
      · intro h; omega
      · intro h
        split at h <;> omega
  by_cases h : 1 < (n : Int)
  · rw [decide_eq_true h, decide_eq_false (fun z => key.mpr z h)]; rfl
  · rw [decide_eq_false h, decide_eq_true (key.mp h)]; rfl
theorem ok_is_let (T : Tx K mg) : FnOk P w K mg base CX0 2 T.f_is_let T.fd_is_let ["_law_word", "_law_wave_here"] (sp_is_let K) := by
  refine T.F_is_let.ok sc_is_let (fun vs H Q E h => ?_) (fun cdv A outer s H vs Q E hr h => ?_)
  · obtain ⟨wd, p, a, b, c, f, n, rfl, _⟩ := h
    rfl
  · obtain ⟨wd, p, a, b, c, f, n, rfl, hw, W, q⟩ := h
    obtain ⟨hf, t, ts, h1, h2, h3⟩ := id W
    refine ⟨_, (pss_cons (ps_if (pw_or (pt_cmpR op_ne (pe_ix ix_tup (pv 1) pe_int (fun _ _ => rfl)) (pe_ix ix_tup (pv 0) pe_int (fun _ _ => rfl)) (nomark _)) (pw_or1 (pt_cmpR op_ne (pe_call (ok_last T) (hr.mono (by decide)) (by rfl) T.g_last T.F_last.kp T.b_last .nil pass0 (pa_cons (pv 1) pa_nil)) (pe_ix ix_tup (pv 0) pe_int (fun _ _ => rfl)) (nomark _)))).pt (pss_one (ps_ret pe_bl)) pss_nil) (pss_one (ps_ret (pe_or (pe_ix ix_tup (pv 0) pe_int (fun _ _ => rfl)) (pe_one (pe_cmpR op_eq (pe_callB call_len_seq (by rfl) T.m_len PySem.boot_len (pa_cons (pe_ix ix_tup (pv 1) pe_int (fun _ _ => rfl)) pa_nil)) (pe_callTy call_int1 (by rfl) T.m_int (by decide +kernel) (pa_cons (pe_cmpR op_ne (pe_ix ix_tup (pv 0) pe_int (fun _ _ => rfl)) (pe_ix ix_tup (pv 0) pe_int (fun _ _ => rfl)) (nomark _)) pa_nil)) (nomark _))))))), ?_⟩
    have hneg : ¬ (f = a ∧ lastOf f n = b) → Q (.bl false) H := fun z => by
      have e : letB a b c f n = false := by
        unfold letB
        by_cases e1 : a = f
        · have e2 : ¬ b = lastOf f n := fun y => z ⟨e1.symm, y.symm⟩
          rw [decide_eq_false e2, Bool.false_and, Bool.and_false]
        · rw [decide_eq_false e1, Bool.false_and]
      rw [e] at q
      exact q
    refine ⟨.ref p, rfl, p, _, 0, .int f, rfl, rfl, SqT.of h1, rfl, .ref wd, rfl, wd, _, 0, .int a, rfl, rfl, SqT.of hw, rfl, rfl, _, rfl, ite2 (fun e => ?_) (fun e => ?_)⟩
    · refine iteT ?_
      refine hneg fun z => ?_
      rw [z.1, decide_eq_true rfl] at e
      cases e
    · have e1 : f = a := Classical.byContradiction fun z => e (by rw [decide_eq_false (fun y => z (V.int.inj y))]; rfl)
      refine ⟨.ref p, rfl, p, f, n, rfl, W, .ref wd, rfl, wd, _, 1, .int b, rfl, rfl, SqT.of hw, rfl, rfl, _, rfl, ite2 (fun e => ?_) (fun e => ?_)⟩
      · refine hneg fun z => ?_
        rw [z.2, decide_eq_true rfl] at e
        cases e
      · have e2 : lastOf f n = b := Classical.byContradiction fun z => e (by rw [decide_eq_false (fun y => z (V.int.inj y))]; rfl)
        rw [letB_once hf e1 e2] at q
        refine ⟨.ref wd, rfl, wd, _, 2, .bl c, rfl, rfl, SqT.of hw, rfl, c, rfl, ite2 (fun e => ?_) (fun e => ?_)⟩
        · rw [e, Bool.true_or] at q
          exact q
        · rw [Bool.eq_false_iff.mpr e, Bool.false_or] at q
          refine ⟨.ref p, rfl, p, _, 1, .ref t, rfl, rfl, SqT.of h1, rfl, t, _, rfl, .inr (SqT.of h2), .ref wd, rfl, wd, _, 0, .int a, rfl, rfl, SqT.of hw, rfl, .ref wd, rfl, wd, _, 1, .int b, rfl, rfl, SqT.of hw, rfl, rfl, .inr ⟨_, rfl, rfl, ?_⟩⟩
          rw [List.length_map, h3]
          have ev : ∀ x y : Int, decide (V.int x = V.int y) = decide (x = y) := fun x y => by
            by_cases z : x = y
            · rw [decide_eq_true z, decide_eq_true (by rw [z])]
            · rw [decide_eq_false z, decide_eq_false (fun k => z (V.int.inj k))]
          rw [ev]
          exact q
def sp_same (K : PySem.W.Frag) : Sp := fun vs H Q _ => ∃ (x y : Addr) (a b : Int) (c : Bool), vs = [.ref x, .ref y] ∧ WordAt H x a b c ∧ WordAt H y a b c ∧ Q (.bl true) H
theorem ok_same (T : Tx K mg) : FnOk P w K mg base CX0 1 T.f_same T.fd_same ["_law_found", "_law_due"] (sp_same K) := by
  refine T.F_same.ok sc_same (fun vs H Q E h => ?_) (fun cdv A outer s H vs Q E hr h => ?_)
  · obtain ⟨x, y, a, b, c, rfl, _⟩ := h
    rfl
  · obtain ⟨x, y, a, b, c, rfl, hx, hy, q⟩ := h
    refine ⟨_, (pss_cons (ps_if (pw_or (pt_not (pt_val (pe_callB call_isi (by rfl) T.m_isinstance (by decide +kernel) (pa_cons (pv 0) (pa_cons (pe_bltn (v := .ty "tuple") (u := .type "tuple") (by rfl) T.m_tuple (by decide +kernel) rfl) pa_nil))))) (pw_or (pt_cmpR op_ne (pe_callB call_len_seq (by rfl) T.m_len PySem.boot_len (pa_cons (pv 0) pa_nil)) pe_int (nomark _)) (pw_or1 (pt_not (pt_val (pe_callB call_isi (by rfl) T.m_isinstance (by decide +kernel) (pa_cons (pe_ix ix_tup (pv 0) pe_int (fun _ _ => rfl)) (pa_cons (pe_bltn (v := .ty "bool") (u := .type "bool") (by rfl) T.m_bool (by decide +kernel) rfl) pa_nil)))))))).pt (pss_one (ps_ret pe_bl)) pss_nil) (pss_one (ps_ret (pe_and (pe_cmpR (op_eqD hr.units) (pv 0) (pv 1) (nomark _)) (pe_and (pe_not (pe_callB call_isi (by rfl) T.m_isinstance (by decide +kernel) (pa_cons (pe_ix ix_tup (pv 0) pe_int (fun _ _ => rfl)) (pa_cons (pe_bltn (v := .ty "bool") (u := .type "bool") (by rfl) T.m_bool (by decide +kernel) rfl) pa_nil)))) (pe_one (pe_not (pe_callB call_isi (by rfl) T.m_isinstance (by decide +kernel) (pa_cons (pe_ix ix_tup (pv 0) pe_int (fun _ _ => rfl)) (pa_cons (pe_bltn (v := .ty "bool") (u := .type "bool") (by rfl) T.m_bool (by decide +kernel) rfl) pa_nil)))))))))), ?_⟩
    refine ⟨.ref x, rfl, _, _, _, _, true, rfl, .ty _, .base (.tup hx), kit_ty (by decide +kernel), true, rfl, iteF ?_⟩
    refine ⟨.ref x, rfl, x, _, rfl, .inr (SqT.of hx), rfl, _, rfl, iteF ?_⟩
    refine ⟨.ref x, rfl, x, _, 2, .bl c, rfl, rfl, SqT.of hx, rfl, _, _, _, _, true, rfl, .ty _, .base (.bl c), kit_ty (by decide +kernel), true, rfl, iteF ?_⟩
    have dp : ∀ z, WordAt H z a b c → Dp K H (.ref z) (.tuple [.int a, .int b, .bool c]) := fun z hz => .tup (SqT.of hz) (.cons (.int a) (.cons (.int b) (.cons (.bl c) .nil)))
    refine ⟨.ref x, rfl, .ref y, rfl, _, _, dp x hx, dp y hy, rfl, rfl, true, ?_, iteT ?_⟩
    · rw [SeqAt.eqv_refl _ rfl]
    refine ⟨.ref x, rfl, x, _, 0, .int a, rfl, rfl, SqT.of hx, rfl, _, _, _, _, false, rfl, .ty _, .base (.int a), kit_ty (by decide +kernel), false, rfl, true, rfl, iteT ?_⟩
    exact ⟨.ref x, rfl, x, _, 1, .int b, rfl, rfl, SqT.of hx, rfl, _, _, _, _, false, rfl, .ty _, .base (.int b), kit_ty (by decide +kernel), false, rfl, q⟩
end
end Gk

set_option Elab.async false
set_option linter.all false
set_option maxRecDepth 100000
namespace Gk
open PySem PySem.Spec PyProof.Rows L2
section
variable {P : Program} {w : World} {K : PySem.W.Frag} {mg : Str → Option Value} {base : Heap}
theorem letB_own {f : Int} {n : Nat} : letB f (lastOf f n) (decide (1 < (n : Int))) f n = true := by
  unfold letB
  rw [decide_eq_true rfl, decide_eq_true rfl, Bool.true_and, Bool.true_and, Bool.or_not_self]
def sp_law (K : PySem.W.Frag) : Sp := fun vs H Q _ => ∃ (a : Addr) (ns : List Int), vs = [.ref a] ∧ SqL K H a (ns.map V.int) ∧ ns.length ≤ 63 ∧ ∀ H', Q (.bl true) H'
theorem ok_law (T : Tx K mg) : FnOk P w K mg base CX0 4 T.f_law T.fd_law ["_law_script"] (sp_law K) := by
  refine T.F_law.ok sc_law (fun vs H Q E h => ?_) (fun cdv A outer s H vs Q E hr h => ?_)
  · obtain ⟨a, ns, rfl, _⟩ := h
    rfl
  · obtain ⟨a, ns, rfl, hS, hlen, q⟩ := h
    refine ⟨_, (pss_cons (ps_set (i := 1) sc_law.nd rfl (.inl rfl) (pe_call (ok_deck T) (hr.mono (by decide)) (by rfl) T.g_deck T.F_deck.kp T.b_deck .nil pass0 (pa_cons (pv 0) pa_nil))) (pss_cons (ps_for PassesOwn.never rfl (pi_range1 (by rfl) T.m_range (pa_cons pe_int pa_nil)) (pg_name (i := 2) sc_law.nd rfl (.inl rfl)) (pss_cons (ps_set (i := 3) sc_law.nd rfl (.inl rfl) (pe_call (ok_wave T) (hr.mono (by decide)) (by rfl) T.g_wave T.F_wave.kp T.b_wave .nil pass0 (pa_cons (pv 1) pa_nil))) (pss_cons (ps_set (i := 4) sc_law.nd rfl (.inl rfl) (pe_tup (pa_cons (pe_ix ix_tup (pv 3) pe_int (fun _ _ => rfl)) (pa_cons (pe_call (ok_last T) (hr.mono (by decide)) (by rfl) T.g_last T.F_last.kp T.b_last .nil pass0 (pa_cons (pv 3) pa_nil)) (pa_cons (pe_cmpR op_gt (pe_callB call_len_seq (by rfl) T.m_len PySem.boot_len (pa_cons (pe_ix ix_tup (pv 3) pe_int (fun _ _ => rfl)) pa_nil)) pe_int (nomark _)) pa_nil))))) (pss_cons (ps_if (pw_or (pt_not (pt_val (pe_call (ok_same T) (hr.mono (by decide)) (by rfl) T.g_same T.F_same.kp T.b_same .nil pass0 (pa_cons (pe_call (ok_word_of T) (hr.mono (by decide)) (by rfl) T.g_word_of T.F_word_of.kp T.b_word_of .nil pass0 (pa_cons (pv 3) pa_nil)) (pa_cons (pv 4) pa_nil))))) (pw_or1 (pt_not (pt_val (pe_call (ok_same T) (hr.mono (by decide)) (by rfl) T.g_same T.F_same.kp T.b_same .nil pass0 (pa_cons (pe_call (ok_word_of T) (hr.mono (by decide)) (by rfl) T.g_word_of T.F_word_of.kp T.b_word_of .nil pass0 (pa_cons (pv 3) pa_nil)) (pa_cons (pv 4) pa_nil))))))).pt (pss_one (ps_ret pe_bl)) pss_nil) (pss_cons (ps_for PassesOwn.never rfl (pi_range1 (by rfl) T.m_range (pa_cons pe_int pa_nil)) (pg_name (i := 5) sc_law.nd rfl (.inl rfl)) (pss_cons (ps_set (i := 6) sc_law.nd rfl (.inl rfl) (pe_tup (pa_cons (pe_op op_fdiv (pv 5) pe_int) (pa_cons (pe_op op_mod (pe_op op_fdiv (pv 5) pe_int) pe_int) (pa_cons (pe_cmpR op_eq (pe_op op_mod (pv 5) pe_int) pe_int (nomark _)) pa_nil))))) (pss_cons (ps_set (i := 7) sc_law.nd rfl (.inl rfl) (pe_call (ok_lets T) (hr.mono (by decide)) (by rfl) T.g_lets T.F_lets.kp T.b_lets .nil pass0 (pa_cons (pv 6) (pa_cons (pv 3) pa_nil)))) (pss_one (ps_if (pw_or (pt_not (pt_val (pe_callB call_isi (by rfl) T.m_isinstance (by decide +kernel) (pa_cons (pv 7) (pa_cons (pe_bltn (v := .ty "bool") (u := .type "bool") (by rfl) T.m_bool (by decide +kernel) rfl) pa_nil))))) (pw_or1 (pt_cmpR op_ne (pv 7) (pe_call (ok_is_let T) (hr.mono (by decide)) (by rfl) T.g_is_let T.F_is_let.kp T.b_is_let .nil pass0 (pa_cons (pv 6) (pa_cons (pv 3) pa_nil))) (nomark _)))).pt (pss_one (ps_ret pe_bl)) pss_nil))))) (pss_one (ps_if (pt_cmpR op_isnot_bl (pe_call (ok_lets T) (hr.mono (by decide)) (by rfl) T.g_lets T.F_lets.kp T.b_lets .nil pass0 (pa_cons (pv 4) (pa_cons (pv 3) pa_nil))) pe_bl (nomark _)) (pss_one (ps_ret pe_bl)) pss_nil))))))) (pss_one (ps_ret pe_bl)))), ?_⟩
    refine ⟨.ref a, rfl, a, ns, rfl, hS, hlen, fun H1 d l s1 D1 => ?_⟩
    refine ⟨8, rfl, by decide, by decide, for_range (n := 8) (fun i σ H' => ∃ y2 y3 y4 y5 y6 y7, σ = [some (.ref a), some (.ref d), y2, y3, y4, y5, y6, y7] ∧ Deck H' d l) ⟨none, none, none, none, none, none, rfl, D1⟩ ?_ ?_⟩
    · rintro i σ H2 hi ⟨y2, y3, y4, y5, y6, y7, rfl, D2⟩
      -- wave
      refine ⟨.ref d, rfl, d, l, rfl, D2, fun H3 p f n D3 W3 => ?_⟩
      obtain ⟨hf, t, ts, g1, g2, g3⟩ := id W3
      -- due
      refine ⟨.ref p, rfl, p, _, 0, .int f, rfl, rfl, SqT.of g1, rfl, .ref p, rfl, p, f, n, rfl, W3, .ref p, rfl, p, _, 1, .ref t, rfl, rfl, SqT.of g1, rfl, t, _, rfl, .inr (SqT.of g2), _, _, rfl, rfl, sl3, fun u nu => ?_⟩
      have u4 : WordAt (upd H3 u (.tup [.int f, .int (lastOf f n), .bl (decide (1 < (((ts.map V.int).length : Nat) : Int)))])) u f (lastOf f n) (decide (1 < (n : Int))) := by
        unfold WordAt
        rw [upd_same, List.length_map, g3]
      have W4 := W3.same (same_upd (o := .tup [.int f, .int (lastOf f n), .bl (decide (1 < (((ts.map V.int).length : Nat) : Int)))]) nu)
      have D4 := D3.same (same_upd (o := .tup [.int f, .int (lastOf f n), .bl (decide (1 < (((ts.map V.int).length : Nat) : Int)))]) nu)
      revert u4 W4 D4
      generalize hH : upd H3 u (.tup [.int f, .int (lastOf f n), .bl (decide (1 < (((ts.map V.int).length : Nat) : Int)))]) = H4
      intro u4 W4 D4
      -- same twice
      refine ⟨.ref p, rfl, p, f, n, rfl, W4, fun r1 H5 s5 h5 => ?_⟩
      have u5 : WordAt H5 u f (lastOf f n) (decide (1 < (n : Int))) := s5 _ _ u4
      refine ⟨.ref u, rfl, r1, u, _, _, _, rfl, h5, u5, true, rfl, iteF ?_⟩
      refine ⟨.ref p, rfl, p, f, n, rfl, W4.same s5, fun r2 H6 s6 h6 => ?_⟩
      have u6 : WordAt H6 u f (lastOf f n) (decide (1 < (n : Int))) := s6 _ _ u5
      refine ⟨.ref u, rfl, r2, u, _, _, _, rfl, h6, u6, true, rfl, iteF ?_⟩
      -- the eight words
      refine ⟨8, rfl, by decide, by decide, for_range (n := 8) (fun j σ H' => ∃ y5 y6 y7, σ = [some (.ref a), some (.ref d), some (.int (0 + (i : Int))), some (.ref p), some (.ref u), y5, y6, y7] ∧ Deck H' d l ∧ WaveAt H' p f n ∧ WordAt H' u f (lastOf f n) (decide (1 < (n : Int)))) ⟨_, _, _, rfl, (D4.same s5).same s6, (W4.same s5).same s6, u6⟩ ?_ ?_⟩
      · rintro j σ H7 hj ⟨y5, y6, y7, rfl, D7, W7, u7⟩
        refine ⟨.int (0 + (j : Int)), rfl, _, _, rfl, rfl, ⟨by decide, by decide⟩, .int (0 + (j : Int)), rfl, _, _, rfl, rfl, ⟨by decide, by decide⟩, _, _, rfl, rfl, (show (0 : Int) < 2 by decide), .int (0 + (j : Int)), rfl, _, _, rfl, rfl, (show (0 : Int) < 2 by decide), rfl, sl3, fun wd nwd => ?_⟩
        dsimp only
        generalize (0 + (j : Int)) / 4 = wa
        generalize (0 + (j : Int)) / 2 % 2 = wb
        generalize decide (V.int ((0 + (j : Int)) % 2) = V.int 1) = wc
        have s8 := same_upd (H := H7) (o := .tup [.int wa, .int wb, .bl wc]) nwd
        have w8 : WordAt (upd H7 wd (.tup [.int wa, .int wb, .bl wc])) wd wa wb wc := upd_same
        refine ⟨.ref wd, rfl, .ref p, rfl, wd, p, wa, wb, wc, f, n, rfl, w8, W7.same s8, fun H9 s9 => ?_⟩
        refine ⟨.bl (letB wa wb wc f n), rfl, _, _, _, _, true, rfl, .ty _, .base (.bl _), kit_ty (by decide +kernel), true, rfl, iteF ?_⟩
        refine ⟨.bl (letB wa wb wc f n), rfl, .ref wd, rfl, .ref p, rfl, wd, p, wa, wb, wc, f, n, rfl, s9 _ _ w8, (W7.same s8).same s9, rfl, false, ?_, iteF ?_⟩
        · rw [decide_eq_true rfl]
          rfl
        · exact ⟨_, _, _, rfl, (D7.same s8).same s9, (W7.same s8).same s9, s9 _ _ (s8 _ _ u7)⟩
      · rintro σ H7 ⟨y5, y6, y7, rfl, D7, W7, u7⟩
        refine ⟨.ref u, rfl, .ref p, rfl, u, p, _, _, _, f, n, rfl, u7, W7, fun H9 s9 => ?_⟩
        rw [letB_own]
        refine ⟨true, true, rfl, rfl, false, rfl, iteF ?_⟩
        exact ⟨_, _, _, _, _, _, rfl, D7.same s9⟩
    · rintro σ H2 ⟨y2, y3, y4, y5, y6, y7, rfl, D2⟩
      exact q H2
end
theorem all_mk {l : PySem.W.OpenLaw} {w : World} {K : PySem.W.Frag} {h : Heap} {mg : Str → Option Value} {fa f1 f2 f3 f4 f5 f6 f7 f8 f9 f10 : Addr} (X : K.In h) (G : h.Ns mainGlobals mg) (hfa : mg "law" = some (.ref fa))
    {od1 an1 od2 an2 od3 an3 od4 an4 od5 an5 od6 an6 od7 an7 od8 an8 od9 an9 od10 an10 : Option Addr} {sl1 sl2 sl3 sl4 sl5 sl6 sl7 sl8 sl9 sl10 : Array (Option Value)} {oc1 kV1 dc1 pm1 cd1 ct1 oc2 kV2 dc2 pm2 cd2 ct2 oc3 kV3 dc3 pm3 cd3 ct3 oc4 kV4 dc4 pm4 cd4 ct4 oc5 kV5 dc5 pm5 cd5 ct5 oc6 kV6 dc6 pm6 cd6 ct6 oc7 kV7 dc7 pm7 cd7 ct7 oc8 kV8 dc8 pm8 cd8 ct8 oc9 kV9 dc9 pm9 cd9 ct9 oc10 kV10 dc10 pm10 cd10 ct10 : Value}
    (a1 : PySem.W.nsIn K mainGlobals "word_of" = some (some (.ref f1))) (l1 : K.lookup f1 = some ⟨oc1, od1, .func (PySem.W.fnOf "word_of" "word_of" (defArgs s_word_of) (defBody s_word_of) (defScope s_word_of) .none kV1 dc1 pm1 an1 cd1 ct1), sl1⟩) (c1 : PySem.W.codeIn K cd1 "word_of" = true) (k1 : PySem.W.keepIn K (.ref f1) = true)
    (a2 : PySem.W.nsIn K mainGlobals "lets" = some (some (.ref f2))) (l2 : K.lookup f2 = some ⟨oc2, od2, .func (PySem.W.fnOf "lets" "lets" (defArgs s_lets) (defBody s_lets) (defScope s_lets) .none kV2 dc2 pm2 an2 cd2 ct2), sl2⟩) (c2 : PySem.W.codeIn K cd2 "lets" = true) (k2 : PySem.W.keepIn K (.ref f2) = true)
    (a3 : PySem.W.nsIn K mainGlobals "_law_deck" = some (some (.ref f3))) (l3 : K.lookup f3 = some ⟨oc3, od3, .func (PySem.W.fnOf "_law_deck" "_law_deck" (defArgs s_deck) (defBody s_deck) (defScope s_deck) .none kV3 dc3 pm3 an3 cd3 ct3), sl3⟩) (c3 : PySem.W.codeIn K cd3 "_law_deck" = true) (k3 : PySem.W.keepIn K (.ref f3) = true)
    (a4 : PySem.W.nsIn K mainGlobals "_law_draw" = some (some (.ref f4))) (l4 : K.lookup f4 = some ⟨oc4, od4, .func (PySem.W.fnOf "_law_draw" "_law_draw" (defArgs s_draw) (defBody s_draw) (defScope s_draw) .none kV4 dc4 pm4 an4 cd4 ct4), sl4⟩) (c4 : PySem.W.codeIn K cd4 "_law_draw" = true) (k4 : PySem.W.keepIn K (.ref f4) = true)
    (a5 : PySem.W.nsIn K mainGlobals "_law_far" = some (some (.ref f5))) (l5 : K.lookup f5 = some ⟨oc5, od5, .func (PySem.W.fnOf "_law_far" "_law_far" (defArgs s_far) (defBody s_far) (defScope s_far) .none kV5 dc5 pm5 an5 cd5 ct5), sl5⟩) (c5 : PySem.W.codeIn K cd5 "_law_far" = true) (k5 : PySem.W.keepIn K (.ref f5) = true)
    (a6 : PySem.W.nsIn K mainGlobals "_law_wave" = some (some (.ref f6))) (l6 : K.lookup f6 = some ⟨oc6, od6, .func (PySem.W.fnOf "_law_wave" "_law_wave" (defArgs s_wave) (defBody s_wave) (defScope s_wave) .none kV6 dc6 pm6 an6 cd6 ct6), sl6⟩) (c6 : PySem.W.codeIn K cd6 "_law_wave" = true) (k6 : PySem.W.keepIn K (.ref f6) = true)
    (a7 : PySem.W.nsIn K mainGlobals "_law_last" = some (some (.ref f7))) (l7 : K.lookup f7 = some ⟨oc7, od7, .func (PySem.W.fnOf "_law_last" "_law_last" (defArgs s_last) (defBody s_last) (defScope s_last) .none kV7 dc7 pm7 an7 cd7 ct7), sl7⟩) (c7 : PySem.W.codeIn K cd7 "_law_last" = true) (k7 : PySem.W.keepIn K (.ref f7) = true)
    (a8 : PySem.W.nsIn K mainGlobals "_law_is_let" = some (some (.ref f8))) (l8 : K.lookup f8 = some ⟨oc8, od8, .func (PySem.W.fnOf "_law_is_let" "_law_is_let" (defArgs s_is_let) (defBody s_is_let) (defScope s_is_let) .none kV8 dc8 pm8 an8 cd8 ct8), sl8⟩) (c8 : PySem.W.codeIn K cd8 "_law_is_let" = true) (k8 : PySem.W.keepIn K (.ref f8) = true)
    (a9 : PySem.W.nsIn K mainGlobals "_law_same" = some (some (.ref f9))) (l9 : K.lookup f9 = some ⟨oc9, od9, .func (PySem.W.fnOf "_law_same" "_law_same" (defArgs s_same) (defBody s_same) (defScope s_same) .none kV9 dc9 pm9 an9 cd9 ct9), sl9⟩) (c9 : PySem.W.codeIn K cd9 "_law_same" = true) (k9 : PySem.W.keepIn K (.ref f9) = true)
    (a10 : PySem.W.nsIn K mainGlobals "law" = some (some (.ref f10))) (l10 : K.lookup f10 = some ⟨oc10, od10, .func (PySem.W.fnOf "law" "law" (defArgs s_law) (defBody s_law) (defScope s_law) .none kV10 dc10 pm10 an10 cd10 ct10), sl10⟩) (c10 : PySem.W.codeIn K cd10 "law" = true) (k10 : PySem.W.keepIn K (.ref f10) = true)
    (z_bool : PySem.W.nsIn K mainGlobals "bool" = some none)
    (z_int : PySem.W.nsIn K mainGlobals "int" = some none)
    (z_isinstance : PySem.W.nsIn K mainGlobals "isinstance" = some none)
    (z_len : PySem.W.nsIn K mainGlobals "len" = some none)
    (z_list : PySem.W.nsIn K mainGlobals "list" = some none)
    (z_range : PySem.W.nsIn K mainGlobals "range" = some none)
    (z_sum : PySem.W.nsIn K mainGlobals "sum" = some none)
    (z_tuple : PySem.W.nsIn K mainGlobals "tuple" = some none) :
    ∃ fd : FuncData, (∀ (s : Shared) (v : Value), BindsTo s fd ⟨[v], []⟩ [("_law_script", v)]) ∧ ∀ base : Heap, K.In base → base.Ns mainGlobals mg → FnOk l.prog w K mg base CX0 4 fa fd ["_law_script"] (sp_law K) := by
  have e := hfa.symm.trans (PySem.W.mg_of X G a10)
  cases e
  have F1 := fun_mk (st := s_word_of) l1 c1 k1
  have b1 := F1.binds (ps := ["wave"]) fun _ _ _ _ _ _ us hl => match us, hl with | [_], _ => rfl
  have F2 := fun_mk (st := s_lets) l2 c2 k2
  have b2 := F2.binds (ps := ["word", "wave"]) fun _ _ _ _ _ _ us hl => match us, hl with | [_, _], _ => rfl
  have F3 := fun_mk (st := s_deck) l3 c3 k3
  have b3 := F3.binds (ps := ["_law_script"]) fun _ _ _ _ _ _ us hl => match us, hl with | [_], _ => rfl
  have F4 := fun_mk (st := s_draw) l4 c4 k4
  have b4 := F4.binds (ps := ["_law_deck_here", "_law_most"]) fun _ _ _ _ _ _ us hl => match us, hl with | [_, _], _ => rfl
  have F5 := fun_mk (st := s_far) l5 c5 k5
  have b5 := F5.binds (ps := ["_law_deck_here"]) fun _ _ _ _ _ _ us hl => match us, hl with | [_], _ => rfl
  have F6 := fun_mk (st := s_wave) l6 c6 k6
  have b6 := F6.binds (ps := ["_law_deck_here"]) fun _ _ _ _ _ _ us hl => match us, hl with | [_], _ => rfl
  have F7 := fun_mk (st := s_last) l7 c7 k7
  have b7 := F7.binds (ps := ["_law_wave_here"]) fun _ _ _ _ _ _ us hl => match us, hl with | [_], _ => rfl
  have F8 := fun_mk (st := s_is_let) l8 c8 k8
  have b8 := F8.binds (ps := ["_law_word", "_law_wave_here"]) fun _ _ _ _ _ _ us hl => match us, hl with | [_, _], _ => rfl
  have F9 := fun_mk (st := s_same) l9 c9 k9
  have b9 := F9.binds (ps := ["_law_found", "_law_due"]) fun _ _ _ _ _ _ us hl => match us, hl with | [_, _], _ => rfl
  have F10 := fun_mk (st := s_law) l10 c10 k10
  have b10 := F10.binds (ps := ["_law_script"]) fun _ _ _ _ _ _ us hl => match us, hl with | [_], _ => rfl
  let T : Tx K mg := { f_word_of := _, fd_word_of := _, F_word_of := F1, g_word_of := PySem.W.mg_of X G a1, b_word_of := b1, f_lets := _, fd_lets := _, F_lets := F2, g_lets := PySem.W.mg_of X G a2, b_lets := b2, f_deck := _, fd_deck := _, F_deck := F3, g_deck := PySem.W.mg_of X G a3, b_deck := b3, f_draw := _, fd_draw := _, F_draw := F4, g_draw := PySem.W.mg_of X G a4, b_draw := b4, f_far := _, fd_far := _, F_far := F5, g_far := PySem.W.mg_of X G a5, b_far := b5, f_wave := _, fd_wave := _, F_wave := F6, g_wave := PySem.W.mg_of X G a6, b_wave := b6, f_last := _, fd_last := _, F_last := F7, g_last := PySem.W.mg_of X G a7, b_last := b7, f_is_let := _, fd_is_let := _, F_is_let := F8, g_is_let := PySem.W.mg_of X G a8, b_is_let := b8, f_same := _, fd_same := _, F_same := F9, g_same := PySem.W.mg_of X G a9, b_same := b9, f_law := _, fd_law := _, F_law := F10, g_law := PySem.W.mg_of X G a10, b_law := b10, m_bool := PySem.W.mg_none_of X G z_bool, m_int := PySem.W.mg_none_of X G z_int, m_isinstance := PySem.W.mg_none_of X G z_isinstance, m_len := PySem.W.mg_none_of X G z_len, m_list := PySem.W.mg_none_of X G z_list, m_range := PySem.W.mg_none_of X G z_range, m_sum := PySem.W.mg_none_of X G z_sum, m_tuple := PySem.W.mg_none_of X G z_tuple }
  exact ⟨_, fun s v => .of_eq rfl, fun base _ _ => ok_law T⟩
end Gk
open PySem PySem.W PyProof.Rows
set_option maxRecDepth 100000 in
set_option maxHeartbeats 0 in
theorem PySem.Challenge.cw_glitchnet_k15_words_of_waves_holds : PySem.Challenge.rw_glitchnet_k15_words_of_waves.Holds := by
  w_on; o_law; k_head; (case hw => w_witness2)
  k_fill
  refine L2.walk_of (l := PySem.Challenge.rw_glitchnet_k15_words_of_waves) (n := 63) (k := 4) (x := "_law_script") (CX := fun _ => L2.CX0) (sp := fun w => Gk.sp_law _) rfl (by decide) rfl ⟨rfl, by decide, by decide⟩ (fun w h Y => PySem.W.kIn_of Y) ?F (fun _ _ a ns hl _ hS => ⟨a, ns, rfl, hS, hl, fun _ => rfl⟩) (fun _ _ _ _ _ h => h)
  case F =>
    intro w mg fa h KX G hmg
    refine' Gk.all_mk KX G hmg ?a1 ?l1 ?c1 ?k1 ?a2 ?l2 ?c2 ?k2 ?a3 ?l3 ?c3 ?k3 ?a4 ?l4 ?c4 ?k4 ?a5 ?l5 ?c5 ?k5 ?a6 ?l6 ?c6 ?k6 ?a7 ?l7 ?c7 ?k7 ?a8 ?l8 ?c8 ?k8 ?a9 ?l9 ?c9 ?k9 ?a10 ?l10 ?c10 ?k10 ?z_bool ?z_int ?z_isinstance ?z_len ?z_list ?z_range ?z_sum ?z_tuple
    (case a1 => k_is)
    (case l1 => k_is)
    (case c1 => k_is)
    (case k1 => k_is)
    (case a2 => k_is)
    (case l2 => k_is)
    (case c2 => k_is)
    (case k2 => k_is)
    (case a3 => k_is)
    (case l3 => k_is)
    (case c3 => k_is)
    (case k3 => k_is)
    (case a4 => k_is)
    (case l4 => k_is)
    (case c4 => k_is)
    (case k4 => k_is)
    (case a5 => k_is)
    (case l5 => k_is)
    (case c5 => k_is)
    (case k5 => k_is)
    (case a6 => k_is)
    (case l6 => k_is)
    (case c6 => k_is)
    (case k6 => k_is)
    (case a7 => k_is)
    (case l7 => k_is)
    (case c7 => k_is)
    (case k7 => k_is)
    (case a8 => k_is)
    (case l8 => k_is)
    (case c8 => k_is)
    (case k8 => k_is)
    (case a9 => k_is)
    (case l9 => k_is)
    (case c9 => k_is)
    (case k9 => k_is)
    (case a10 => k_is)
    (case l10 => k_is)
    (case c10 => k_is)
    (case k10 => k_is)
    (case z_bool => k_is)
    (case z_int => k_is)
    (case z_isinstance => k_is)
    (case z_len => k_is)
    (case z_list => k_is)
    (case z_range => k_is)
    (case z_sum => k_is)
    (case z_tuple => k_is)
