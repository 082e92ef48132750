import PyProof.Rows.All
import Wide.All
import OpenK.AllK
import Wide.FinOn
import KE.GoesMore
import HandS.ForMost
import HandS.IsInst
import HandS.TupLe
import HandS.TupAny
import HandS.TupMul
import HandS.More
import HandS.Codes
import HandS.Conv
import HandS.Deep
import HandS.TupSets
import HandS.Style
import HandS.Strs
import HandS.AnyAll
import HandS.GenList
import HandS.JoinGen
import HandS.Zip
import HandS.Text
import KE.KRevSl
import HandS.Rev
import HandS.SetFor
import HandS.Wide
import HandS.WideBits
import HandS.FStr
import HandS.RevTup
import HandS.Head0
import HandS.Head1
import HandS.Head2
import HandS.HeadEnd
import HandS.HeadHook1
import HandS.HeadHook2
import HandS.HeadHook3
import HandS.HeadHook4
import HandS.HeadWalk
import HandS.Defaults
import HandS.ReplaceLit
import KE.KUnpackStar
import PyProof.ReprLen
import PyProof.ReprRoads
import PyProof.TupleOfStr
import PyProof.ListStr
import PySem.Challenge.RW_glitchnet_k33_ledgers_of_any_hand
set_option Elab.async false
set_option linter.all false
set_option maxRecDepth 100000
set_option maxHeartbeats 1000000
namespace Gk
open PySem PySem.Spec PyProof.Rows L2
/-! ### the text -/
def topS (i : Nat) : Stmt := PySem.Challenge.pw_glitchnet_k33_ledgers_of_any_hand.main.body.getD i (.Pass ⟨0, 0, 0, 0⟩)
abbrev s_is_whole : Stmt := topS 1
abbrev s_choices_of : Stmt := topS 3
abbrev s_table_worth : Stmt := topS 4
abbrev s_settled : Stmt := topS 5
abbrev s_input_numbers : Stmt := topS 7
abbrev s_at_wires : Stmt := topS 8
abbrev s_steps_from : Stmt := topS 9
abbrev s_worth_by : Stmt := topS 10
abbrev s_strides_of : Stmt := topS 11
abbrev s_many_counts : Stmt := topS 12
abbrev s_ledger_holds : Stmt := topS 14
abbrev s_part_holds : Stmt := topS 15
abbrev s_deck : Stmt := topS 17
abbrev s_draw : Stmt := topS 18
abbrev s_table : Stmt := topS 19
abbrev s_worth : Stmt := topS 20
abbrev s_counts : Stmt := topS 21
abbrev s_worths : Stmt := topS 22
abbrev s_fars : Stmt := topS 23
abbrev s_ins : Stmt := topS 24
abbrev s_net : Stmt := topS 25
abbrev s_change : Stmt := topS 26
abbrev s_l_settled : Stmt := topS 27
abbrev s_of : Stmt := topS 28
abbrev s_still : Stmt := topS 29
abbrev s_size : Stmt := topS 30
abbrev s_more : Stmt := topS 31
abbrev s_own : Stmt := topS 32
abbrev s_part_right : Stmt := topS 33
abbrev s_right : Stmt := topS 34
abbrev s_number_bent : Stmt := topS 35
abbrev s_bent : Stmt := topS 36
abbrev s_law : Stmt := topS 37
theorem sc_is_whole : FnScope ["thing"] ["thing"] (defScope s_is_whole) := ⟨rfl, rfl, rfl, by decide +kernel, rfl, by decide +kernel, by decide +kernel⟩
theorem sc_choices_of : FnScope ["lists", "choices", "options", "choice", "option"] ["lists"] (defScope s_choices_of) := ⟨rfl, rfl, rfl, by decide +kernel, rfl, by decide +kernel, by decide +kernel⟩
theorem sc_table_worth : FnScope ["table", "worths", "place", "worth"] ["table", "worths"] (defScope s_table_worth) := ⟨rfl, rfl, rfl, by decide +kernel, rfl, by decide +kernel, by decide +kernel⟩
theorem sc_settled : FnScope ["net", "row", "worths", "table", "ins", "wire"] ["net", "row"] (defScope s_settled) := ⟨rfl, rfl, rfl, by decide +kernel, rfl, by decide +kernel, by decide +kernel⟩
theorem sc_input_numbers : FnScope ["change", "a", "b", "before", "after"] ["change"] (defScope s_input_numbers) := ⟨rfl, rfl, rfl, by decide +kernel, rfl, by decide +kernel, by decide +kernel⟩
theorem sc_at_wires : FnScope ["row", "wires", "wire"] ["row", "wires"] (defScope s_at_wires) := ⟨rfl, rfl, rfl, by decide +kernel, rfl, by decide +kernel, by decide +kernel⟩
theorem sc_steps_from : FnScope ["table", "firsts", "numbers", "every", "worths", "strides", "steps", "at", "counts", "number", "place", "count"] ["table", "firsts", "numbers"] (defScope s_steps_from) := ⟨rfl, rfl, rfl, by decide +kernel, rfl, by decide +kernel, by decide +kernel⟩
theorem sc_worth_by : FnScope ["table", "firsts", "counts", "first", "count"] ["table", "firsts", "counts"] (defScope s_worth_by) := ⟨rfl, rfl, rfl, by decide +kernel, rfl, by decide +kernel, by decide +kernel⟩
theorem sc_strides_of : FnScope ["numbers", "place"] ["numbers"] (defScope s_strides_of) := ⟨rfl, rfl, rfl, by decide +kernel, rfl, by decide +kernel, by decide +kernel⟩
theorem sc_many_counts : FnScope ["numbers", "many", "number"] ["numbers"] (defScope s_many_counts) := ⟨rfl, rfl, rfl, by decide +kernel, rfl, by decide +kernel, by decide +kernel⟩
theorem sc_ledger_holds : FnScope ["net", "change", "thing", "gates", "firsts", "numbers", "table", "ins", "part"] ["net", "change", "thing"] (defScope s_ledger_holds) := ⟨rfl, rfl, rfl, by decide +kernel, rfl, by decide +kernel, by decide +kernel⟩
theorem sc_part_holds : FnScope ["table", "firsts", "numbers", "thing", "number", "steps", "place", "behind", "turned"] ["table", "firsts", "numbers", "thing"] (defScope s_part_holds) := ⟨rfl, rfl, rfl, by decide +kernel, rfl, by decide +kernel, by decide +kernel⟩
theorem sc_deck : FnScope ["_law_script", "_law_cells"] ["_law_script"] (defScope s_deck) := ⟨rfl, rfl, rfl, by decide +kernel, rfl, by decide +kernel, by decide +kernel⟩
theorem sc_draw : FnScope ["_law_deck_here", "_law_most", "_law_at", "_law_cells", "_law_seed", "_law_number"] ["_law_deck_here", "_law_most"] (defScope s_draw) := ⟨rfl, rfl, rfl, by decide +kernel, rfl, by decide +kernel, by decide +kernel⟩
theorem sc_table : FnScope ["_law_deck_here", "_law_many", "_law_told", "_law_some", "_law_k"] ["_law_deck_here", "_law_many"] (defScope s_table) := ⟨rfl, rfl, rfl, by decide +kernel, rfl, by decide +kernel, by decide +kernel⟩
theorem sc_worth : FnScope ["_law_table_here", "_law_worths_here", "_law_number", "_law_worth_here"] ["_law_table_here", "_law_worths_here"] (defScope s_worth) := ⟨rfl, rfl, rfl, by decide +kernel, rfl, by decide +kernel, by decide +kernel⟩
theorem sc_counts : FnScope ["_law_numbers", "_law_rows", "_law_number", "_law_longer", "_law_row", "_law_k"] ["_law_numbers"] (defScope s_counts) := ⟨rfl, rfl, rfl, by decide +kernel, rfl, by decide +kernel, by decide +kernel⟩
theorem sc_worths : FnScope ["_law_table_here", "_law_firsts", "_law_rows", "_law_found", "_law_row", "_law_first", "_law_count"] ["_law_table_here", "_law_firsts", "_law_rows"] (defScope s_worths) := ⟨rfl, rfl, rfl, by decide +kernel, rfl, by decide +kernel, by decide +kernel⟩
theorem sc_fars : FnScope ["_law_numbers", "_law_found", "_law_far", "_law_number"] ["_law_numbers"] (defScope s_fars) := ⟨rfl, rfl, rfl, by decide +kernel, rfl, by decide +kernel, by decide +kernel⟩
theorem sc_ins : FnScope ["_law_deck_here", "_law_wires", "_law_many", "_law_free", "_law_ins_here", "_law_j"] ["_law_deck_here", "_law_wires", "_law_many", "_law_free"] (defScope s_ins) := ⟨rfl, rfl, rfl, by decide +kernel, rfl, by decide +kernel, by decide +kernel⟩
theorem sc_net : FnScope ["_law_deck_here", "_law_formula", "_law_long", "_law_many", "_law_free", "_law_gates", "_law_k", "_law_ins_here", "_law_wire"] ["_law_deck_here", "_law_formula", "_law_long"] (defScope s_net) := ⟨rfl, rfl, rfl, by decide +kernel, rfl, by decide +kernel, by decide +kernel⟩
theorem sc_change : FnScope ["_law_deck_here", "_law_many", "_law_way", "_law_one", "_law_other", "_law_k", "_law_worth_here"] ["_law_deck_here", "_law_many"] (defScope s_change) := ⟨rfl, rfl, rfl, by decide +kernel, rfl, by decide +kernel, by decide +kernel⟩
theorem sc_l_settled : FnScope ["_law_net_here", "_law_row", "_law_worths_here", "_law_table_here", "_law_ins_here", "_law_wire"] ["_law_net_here", "_law_row"] (defScope s_l_settled) := ⟨rfl, rfl, rfl, by decide +kernel, rfl, by decide +kernel, by decide +kernel⟩
theorem sc_of : FnScope ["_law_worths_here", "_law_ins_here", "_law_wire"] ["_law_worths_here", "_law_ins_here"] (defScope s_of) := ⟨rfl, rfl, rfl, by decide +kernel, rfl, by decide +kernel, by decide +kernel⟩
theorem sc_still : FnScope ["_law_table_here", "_law_firsts", "_law_numbers", "_law_rows", "_law_signs", "_law_fars_here", "_law_found", "_law_at", "_law_count", "_law_number", "_law_far", "_law_come"] ["_law_table_here", "_law_firsts", "_law_numbers"] (defScope s_still) := ⟨rfl, rfl, rfl, by decide +kernel, rfl, by decide +kernel, by decide +kernel⟩
theorem sc_size : FnScope ["_law_numbers", "_law_size_here", "_law_number"] ["_law_numbers"] (defScope s_size) := ⟨rfl, rfl, rfl, by decide +kernel, rfl, by decide +kernel, by decide +kernel⟩
theorem sc_more : FnScope ["_law_deck_here", "_law_part", "_law_way", "_law_much", "_law_at", "_law_one"] ["_law_deck_here", "_law_part"] (defScope s_more) := ⟨rfl, rfl, rfl, by decide +kernel, rfl, by decide +kernel, by decide +kernel⟩
theorem sc_own : FnScope ["_law_deck_here", "_law_net_here", "_law_change_here", "_law_firsts", "_law_numbers", "_law_found", "_law_table_here", "_law_ins_here", "_law_part", "_law_one", "_law_other"] ["_law_deck_here", "_law_net_here", "_law_change_here"] (defScope s_own) := ⟨rfl, rfl, rfl, by decide +kernel, rfl, by decide +kernel, by decide +kernel⟩
theorem sc_part_right : FnScope ["_law_table_here", "_law_firsts", "_law_numbers", "_law_part", "_law_rows", "_law_signs", "_law_fars_here", "_law_at", "_law_place", "_law_there", "_law_one"] ["_law_table_here", "_law_firsts", "_law_numbers", "_law_part"] (defScope s_part_right) := ⟨rfl, rfl, rfl, by decide +kernel, rfl, by decide +kernel, by decide +kernel⟩
theorem sc_right : FnScope ["_law_net_here", "_law_change_here", "_law_thing", "_law_firsts", "_law_numbers", "_law_k", "_law_table_here", "_law_ins_here", "_law_one", "_law_other"] ["_law_net_here", "_law_change_here", "_law_thing"] (defScope s_right) := ⟨rfl, rfl, rfl, by decide +kernel, rfl, by decide +kernel, by decide +kernel⟩
theorem sc_number_bent : FnScope ["_law_deck_here", "_law_part", "_law_way", "_law_at", "_law_one", "_law_other"] ["_law_deck_here", "_law_part"] (defScope s_number_bent) := ⟨rfl, rfl, rfl, by decide +kernel, rfl, by decide +kernel, by decide +kernel⟩
theorem sc_bent : FnScope ["_law_deck_here", "_law_ledger", "_law_way", "_law_k", "_law_j", "_law_part", "_law_some"] ["_law_deck_here", "_law_ledger"] (defScope s_bent) := ⟨rfl, rfl, rfl, by decide +kernel, rfl, by decide +kernel, by decide +kernel⟩
theorem sc_law : FnScope ["_law_script", "_law_deck_here", "_law_turn", "_law_spoilt", "_law_net_here", "_law_change_here", "_law_ledger", "_law_again", "_law_thing", "_law_kept", "_law_held"] ["_law_script"] (defScope s_law) := ⟨rfl, rfl, rfl, by decide +kernel, rfl, by decide +kernel, by decide +kernel⟩
structure Tx (K : PySem.W.Frag) (mg : Str → Option Value) where
  f_is_whole : Addr
  fd_is_whole : FuncData
  F_is_whole : Fun K "is_whole" "is_whole" s_is_whole f_is_whole fd_is_whole
  g_is_whole : mg "is_whole" = some (.ref f_is_whole)
  b_is_whole : Binds K fd_is_whole ["thing"] []
  f_choices_of : Addr
  fd_choices_of : FuncData
  F_choices_of : Fun K "choices_of" "choices_of" s_choices_of f_choices_of fd_choices_of
  g_choices_of : mg "choices_of" = some (.ref f_choices_of)
  b_choices_of : Binds K fd_choices_of ["lists"] []
  f_table_worth : Addr
  fd_table_worth : FuncData
  F_table_worth : Fun K "table_worth" "table_worth" s_table_worth f_table_worth fd_table_worth
  g_table_worth : mg "table_worth" = some (.ref f_table_worth)
  b_table_worth : Binds K fd_table_worth ["table", "worths"] []
  f_settled : Addr
  fd_settled : FuncData
  F_settled : Fun K "settled" "settled" s_settled f_settled fd_settled
  g_settled : mg "settled" = some (.ref f_settled)
  b_settled : Binds K fd_settled ["net", "row"] []
  f_input_numbers : Addr
  fd_input_numbers : FuncData
  F_input_numbers : Fun K "input_numbers" "input_numbers" s_input_numbers f_input_numbers fd_input_numbers
  g_input_numbers : mg "input_numbers" = some (.ref f_input_numbers)
  b_input_numbers : Binds K fd_input_numbers ["change"] []
  c_input_numbers : Addr
  P_input_numbers : Addr
  cd_input_numbers : fd_input_numbers.code = .ref c_input_numbers
  f_at_wires : Addr
  fd_at_wires : FuncData
  F_at_wires : Fun K "at_wires" "at_wires" s_at_wires f_at_wires fd_at_wires
  g_at_wires : mg "at_wires" = some (.ref f_at_wires)
  b_at_wires : Binds K fd_at_wires ["row", "wires"] []
  c_at_wires : Addr
  P_at_wires : Addr
  cd_at_wires : fd_at_wires.code = .ref c_at_wires
  f_steps_from : Addr
  fd_steps_from : FuncData
  F_steps_from : Fun K "steps_from" "steps_from" s_steps_from f_steps_from fd_steps_from
  g_steps_from : mg "steps_from" = some (.ref f_steps_from)
  b_steps_from : Binds K fd_steps_from ["table", "firsts", "numbers"] []
  f_worth_by : Addr
  fd_worth_by : FuncData
  F_worth_by : Fun K "worth_by" "worth_by" s_worth_by f_worth_by fd_worth_by
  g_worth_by : mg "worth_by" = some (.ref f_worth_by)
  b_worth_by : Binds K fd_worth_by ["table", "firsts", "counts"] []
  f_strides_of : Addr
  fd_strides_of : FuncData
  F_strides_of : Fun K "strides_of" "strides_of" s_strides_of f_strides_of fd_strides_of
  g_strides_of : mg "strides_of" = some (.ref f_strides_of)
  b_strides_of : Binds K fd_strides_of ["numbers"] []
  f_many_counts : Addr
  fd_many_counts : FuncData
  F_many_counts : Fun K "many_counts" "many_counts" s_many_counts f_many_counts fd_many_counts
  g_many_counts : mg "many_counts" = some (.ref f_many_counts)
  b_many_counts : Binds K fd_many_counts ["numbers"] []
  f_ledger_holds : Addr
  fd_ledger_holds : FuncData
  F_ledger_holds : Fun K "ledger_holds" "ledger_holds" s_ledger_holds f_ledger_holds fd_ledger_holds
  g_ledger_holds : mg "ledger_holds" = some (.ref f_ledger_holds)
  b_ledger_holds : Binds K fd_ledger_holds ["net", "change", "thing"] []
  f_part_holds : Addr
  fd_part_holds : FuncData
  F_part_holds : Fun K "part_holds" "part_holds" s_part_holds f_part_holds fd_part_holds
  g_part_holds : mg "part_holds" = some (.ref f_part_holds)
  b_part_holds : Binds K fd_part_holds ["table", "firsts", "numbers", "thing"] []
  c_part_holds : Addr
  P_part_holds : Addr
  cd_part_holds : fd_part_holds.code = .ref c_part_holds
  f_deck : Addr
  fd_deck : FuncData
  F_deck : Fun K "_law_deck" "_law_deck" s_deck f_deck fd_deck
  g_deck : mg "_law_deck" = some (.ref f_deck)
  b_deck : Binds K fd_deck ["_law_script"] []
  f_draw : Addr
  fd_draw : FuncData
  F_draw : Fun K "_law_draw" "_law_draw" s_draw f_draw fd_draw
  g_draw : mg "_law_draw" = some (.ref f_draw)
  b_draw : Binds K fd_draw ["_law_deck_here", "_law_most"] []
  f_table : Addr
  fd_table : FuncData
  F_table : Fun K "_law_table" "_law_table" s_table f_table fd_table
  g_table : mg "_law_table" = some (.ref f_table)
  b_table : Binds K fd_table ["_law_deck_here", "_law_many"] []
  f_worth : Addr
  fd_worth : FuncData
  F_worth : Fun K "_law_worth" "_law_worth" s_worth f_worth fd_worth
  g_worth : mg "_law_worth" = some (.ref f_worth)
  b_worth : Binds K fd_worth ["_law_table_here", "_law_worths_here"] []
  f_counts : Addr
  fd_counts : FuncData
  F_counts : Fun K "_law_counts" "_law_counts" s_counts f_counts fd_counts
  g_counts : mg "_law_counts" = some (.ref f_counts)
  b_counts : Binds K fd_counts ["_law_numbers"] []
  f_worths : Addr
  fd_worths : FuncData
  F_worths : Fun K "_law_worths" "_law_worths" s_worths f_worths fd_worths
  g_worths : mg "_law_worths" = some (.ref f_worths)
  b_worths : Binds K fd_worths ["_law_table_here", "_law_firsts", "_law_rows"] []
  f_fars : Addr
  fd_fars : FuncData
  F_fars : Fun K "_law_fars" "_law_fars" s_fars f_fars fd_fars
  g_fars : mg "_law_fars" = some (.ref f_fars)
  b_fars : Binds K fd_fars ["_law_numbers"] []
  f_ins : Addr
  fd_ins : FuncData
  F_ins : Fun K "_law_ins" "_law_ins" s_ins f_ins fd_ins
  g_ins : mg "_law_ins" = some (.ref f_ins)
  b_ins : Binds K fd_ins ["_law_deck_here", "_law_wires", "_law_many", "_law_free"] []
  f_net : Addr
  fd_net : FuncData
  F_net : Fun K "_law_net" "_law_net" s_net f_net fd_net
  g_net : mg "_law_net" = some (.ref f_net)
  b_net : Binds K fd_net ["_law_deck_here", "_law_formula", "_law_long"] []
  f_change : Addr
  fd_change : FuncData
  F_change : Fun K "_law_change" "_law_change" s_change f_change fd_change
  g_change : mg "_law_change" = some (.ref f_change)
  b_change : Binds K fd_change ["_law_deck_here", "_law_many"] []
  f_l_settled : Addr
  fd_l_settled : FuncData
  F_l_settled : Fun K "_law_settled" "_law_settled" s_l_settled f_l_settled fd_l_settled
  g_l_settled : mg "_law_settled" = some (.ref f_l_settled)
  b_l_settled : Binds K fd_l_settled ["_law_net_here", "_law_row"] []
  f_of : Addr
  fd_of : FuncData
  F_of : Fun K "_law_of" "_law_of" s_of f_of fd_of
  g_of : mg "_law_of" = some (.ref f_of)
  b_of : Binds K fd_of ["_law_worths_here", "_law_ins_here"] []
  f_still : Addr
  fd_still : FuncData
  F_still : Fun K "_law_still" "_law_still" s_still f_still fd_still
  g_still : mg "_law_still" = some (.ref f_still)
  b_still : Binds K fd_still ["_law_table_here", "_law_firsts", "_law_numbers"] []
  f_size : Addr
  fd_size : FuncData
  F_size : Fun K "_law_size" "_law_size" s_size f_size fd_size
  g_size : mg "_law_size" = some (.ref f_size)
  b_size : Binds K fd_size ["_law_numbers"] []
  f_more : Addr
  fd_more : FuncData
  F_more : Fun K "_law_more" "_law_more" s_more f_more fd_more
  g_more : mg "_law_more" = some (.ref f_more)
  b_more : Binds K fd_more ["_law_deck_here", "_law_part"] []
  f_own : Addr
  fd_own : FuncData
  F_own : Fun K "_law_own" "_law_own" s_own f_own fd_own
  g_own : mg "_law_own" = some (.ref f_own)
  b_own : Binds K fd_own ["_law_deck_here", "_law_net_here", "_law_change_here"] []
  f_part_right : Addr
  fd_part_right : FuncData
  F_part_right : Fun K "_law_part_right" "_law_part_right" s_part_right f_part_right fd_part_right
  g_part_right : mg "_law_part_right" = some (.ref f_part_right)
  b_part_right : Binds K fd_part_right ["_law_table_here", "_law_firsts", "_law_numbers", "_law_part"] []
  f_right : Addr
  fd_right : FuncData
  F_right : Fun K "_law_right" "_law_right" s_right f_right fd_right
  g_right : mg "_law_right" = some (.ref f_right)
  b_right : Binds K fd_right ["_law_net_here", "_law_change_here", "_law_thing"] []
  f_number_bent : Addr
  fd_number_bent : FuncData
  F_number_bent : Fun K "_law_number_bent" "_law_number_bent" s_number_bent f_number_bent fd_number_bent
  g_number_bent : mg "_law_number_bent" = some (.ref f_number_bent)
  b_number_bent : Binds K fd_number_bent ["_law_deck_here", "_law_part"] []
  f_bent : Addr
  fd_bent : FuncData
  F_bent : Fun K "_law_bent" "_law_bent" s_bent f_bent fd_bent
  g_bent : mg "_law_bent" = some (.ref f_bent)
  b_bent : Binds K fd_bent ["_law_deck_here", "_law_ledger"] []
  f_law : Addr
  fd_law : FuncData
  F_law : Fun K "law" "law" s_law f_law fd_law
  g_law : mg "law" = some (.ref f_law)
  b_law : Binds K fd_law ["_law_script"] []
  m_all : mg "all" = none
  m_bool : mg "bool" = none
  m_enumerate : mg "enumerate" = none
  m_int : mg "int" = none
  m_isinstance : mg "isinstance" = none
  m_len : mg "len" = none
  m_list : mg "list" = none
  m_max : mg "max" = none
  m_min : mg "min" = none
  m_range : mg "range" = none
  m_repr : mg "repr" = none
  m_str : mg "str" = none
  m_sum : mg "sum" = none
  m_tuple : mg "tuple" = none
  m_zip : mg "zip" = none
structure Tb (base : Heap) {K : PySem.W.Frag} {mg : Str → Option Value} (T : Tx K mg) : Prop where
  TB_input_numbers : GxR.TabB base mg T.c_input_numbers T.P_input_numbers
  TB_at_wires : GxR.TabB base mg T.c_at_wires T.P_at_wires
  TB_part_holds : GxR.TabB base mg T.c_part_holds T.P_part_holds
def Tx.tabs {K : PySem.W.Frag} {mg : Str → Option Value} (T : Tx K mg) : List Addr := [T.P_input_numbers, T.P_at_wires, T.P_part_holds]
/-! ### generator expressions whose elements may call -/
theorem inv_moved {X : Cx} {cp : List (Addr × Obj)} {σ : L2.St} {H : Hp} {s s' : Shared} (I : Inv X cp σ H s) (os : s'.os = s.os) (bare : AllBare s'.gens) (k : ∀ b o, s.heap.get? b = some o → s'.heap.get? b = some o) : Inv X cp σ H s' :=
  I.call' (ch := []) os (Un.kept k) (I.hok.kept k) bare fun b hb => absurd hb (by simp)
/-- the context of a generator expression's frame: C its frame, s, H the entry, fp its iterator's objects -/
abbrev gblk (X : Cx) (A : Around) (s : Shared) (H : Hp) (cenv : Env) (fp : List Addr) : Cx :=
  { X with A := A, s_0 := s, H_0 := H, env := cenv, outer := X.stack, stack := cenv :: X.stack, ex := fp, fn := fun _ => false, pn := [], xe := fun _ _ => False }
section
variable {X : Cx} {pins : List (Addr × Obj)} {σ : L2.St} {H : Hp} {s : Shared}
theorem gen_start {scope : Scope} {own : List (Str × Nat)} {fp : List Addr} {A : Around} {code it : Value} {s5 : Shared} {cp : List (Addr × Obj)}
    (I : Inv X pins σ H s) (ok : BlkOk X.N X.env.scope scope own) (nocell : ∀ y ∈ scope.names, y.2 ≠ .cell) (hN : X.N.Nodup) (hfp : ∀ b ∈ fp, FpOk X pins H b ∧ b < s.heap.objs.size)
    (hh : A.handled = none) (hfr : A.frames = some (genEnv scope (cloFrom X.env.cells scope.names []) s.heap.objs.size code builtinsNs X.env :: X.stack))
    (os : s5.os = s.os) (bare : AllBare s5.gens) (kp : ∀ b o, s.heap.get? b = some o → s5.heap.get? b = some o)
    (hns : s5.heap.Ns s.heap.objs.size fun y => if y = ".0" then some it else none)
    (hcp : ∀ p ∈ cp, s.heap.objs.size < p.1 ∧ s5.heap.get? p.1 = some p.2 ∧ ∀ v, p.2.data ≠ .cell v) :
    Inv (gblk X A s H (genEnv scope (cloFrom X.env.cells scope.names []) s.heap.objs.size code builtinsNs X.env) fp) cp (wipe σ (own.map (·.2))) H s5 := by
  have hfree : ∀ y ∈ scope.names, y.2 = .free → ∃ c, X.env.cells.lookup y.1 = some c := fun y hy e => by
    rcases ok.free y hy e with k | k
    · exact I.ok.has _ (.inl k)
    · exact I.ok.has _ (.inr k)
  generalize hcenv : genEnv scope (cloFrom X.env.cells scope.names []) s.heap.objs.size code builtinsNs X.env = cenv at hfr ⊢
  have hL : cenv.locals = s.heap.objs.size := by rw [← hcenv]; rfl
  have hcl : cenv.cells = cloFrom X.env.cells scope.names [] := by rw [← hcenv]; rfl
  have hsc : cenv.scope = scope := by rw [← hcenv]; rfl
  have cm : ∀ {y c}, (y, c) ∈ cloFrom X.env.cells scope.names [] → X.env.cells.lookup y = some c ∧ c < s.heap.objs.size := fun {y c} hm => by
    rcases cloFrom_mem hm with hm | ⟨h1, rfl⟩
    · cases hm
    · obtain ⟨c, hc⟩ := hfree _ h1 rfl
      rw [hc]
      obtain ⟨w, z⟩ := I.cell _ _ hc
      exact ⟨rfl, z.lt⟩
  have mem : ∀ {y c}, cenv.cells.lookup y = some c → X.env.cells.lookup y = some c ∧ c < s.heap.objs.size := fun {y c} e => by
    rw [hcl] at e
    exact cm (PySem.mem_of_lookup e)
  have look : ∀ {y}, scope.names.lookup y = some .free → ∃ c, cenv.cells.lookup y = some c ∧ X.env.cells.lookup y = some c := fun {y} hl => by
    have hy : (y, NameKind.free) ∈ scope.names := PySem.mem_of_lookup hl
    obtain ⟨c', e'⟩ := mem_lookup (cloFrom_has (cells := X.env.cells) (acc := []) hy)
    rw [← hcl] at e'
    exact ⟨c', e', (mem e').1⟩
  have okB : (gblk X A s H cenv fp).Ok := by
    refine ⟨I.ok.mod, by show cenv.scope.kind = _; rw [hsc]; exact ok.kind, by show cenv.globals = _; rw [← hcenv]; exact I.ok.glob, by show cenv.builtins = _; rw [← hcenv]; rfl, by show s.heap.objs.size ≤ cenv.locals; rw [hL]; exact Nat.le_refl _,
      fun y z c e1 e2 => I.ok.inj y z c (mem e1).1 (mem e2).1, fun y hy => ?_, fun y c z e => (by cases z), fun _ => hh, hfr, .inr ⟨rfl, by show cenv.frame = some cenv.locals; rw [← hcenv]; rfl⟩, fun b hb => ⟨?_, fun y c e z => ?_⟩, I.bs, Nat.le_trans I.ok.bsz I.sz, fun b o e hb => ?_, fun b hb z => ?_, I.stack, I.stkFree⟩
    · have hy' : scope.names.lookup y = some .cell ∨ scope.names.lookup y = some .free := by
        rw [← hsc]
        exact hy
      rcases hy' with e | e
      · exact absurd rfl (nocell _ (PySem.mem_of_lookup e))
      · obtain ⟨c, h1, _⟩ := look e
        exact ⟨c, h1⟩
    · show b ≠ cenv.locals
      rw [hL]; exact Nat.ne_of_lt (hfp b hb).2
    · exact (hfp b hb).1.2.2.2.2.1 y c (mem e).1 z
    · rcases (hfp b hb).1.2.2.2.1 with z | z
      · exact I.ok.noex b o e z
      · exact absurd (Nat.lt_of_lt_of_le (Heap.lt_size e) (Nat.le_trans I.ok.bsz z)) (Nat.lt_irrefl _)
    · rcases List.mem_cons.mp (I.stkSub b z) with z | z
      · exact (hfp b hb).1.2.1 z
      · exact (hfp b hb).1.2.2.1 z
  refine ⟨okB, os, bare, Un.kept kp, ⟨_, (by show s5.heap.Ns cenv.locals _; rw [hL]; exact hns), fun i y av e1 e2 e3 => ?_⟩, fun y c e => ?_, ?_, fun y c e => I.freeC y c (mem e).1, fun p hp => ?_, I.hok.kept kp, by rw [wipe_length]; exact I.len⟩
  · obtain ⟨e2, hne⟩ := wipe_some e2
    have e3 : Vis scope y := by rw [← hsc]; exact e3
    have no : ∀ k, scope.names.lookup y = some k → ¬ (k = .local ∨ k = .cell) := fun k e hh => by
      rcases ok.own _ (PySem.mem_of_lookup e) hh with e' | e'
      · obtain ⟨p, hp, hpy⟩ := List.mem_map.mp e'
        have e3 := ok.ix p hp
        have : p.1 = y := hpy
        rw [this] at e3
        exact hne (List.mem_map.mpr ⟨p, hp, nodup_ix hN e3 e1⟩)
      · exact e' (List.mem_of_getElem? e1)
    have hfr2 : scope.names.lookup y = some .free := by
      rcases e3 with e | e | e
      · exact absurd (.inl rfl) (no _ e)
      · exact absurd (.inr rfl) (no _ e)
      · exact e
    obtain ⟨m, hn, hl⟩ := I.loc
    have hvis : Vis X.env.scope y := (ok.free _ (PySem.mem_of_lookup hfr2) rfl).elim (fun k => .inr (.inl k)) (fun k => .inr (.inr k))
    obtain ⟨w, r, q⟩ := hl i y av e1 e2 hvis
    refine ⟨w, r, .inr ⟨.inr (by show cenv.scope.names.lookup y = some .free; rw [hsc]; exact hfr2), ?_⟩⟩
    obtain ⟨c, h1, h2⟩ := look hfr2
    rcases q with ⟨k, _⟩ | ⟨_, c', e', z⟩
    · have k : X.env.scope.names.lookup y = some .local := k
      rcases ok.free _ (PySem.mem_of_lookup hfr2) rfl with k' | k' <;> rw [show X.env.scope.names.lookup y = _ from k'] at k <;> cases k
    · rw [h2] at e'; cases e'
      exact ⟨c, h1, z.keeps kp⟩
  · obtain ⟨w, z⟩ := I.cell y c (mem e).1
    exact ⟨w, z.keeps kp⟩
  · show H cenv.locals = none
    rw [hL]; exact I.hok.fresh (Nat.le_refl _)
  · have hp : p ∈ cp := by simpa using hp
    obtain ⟨h1, h2, h3⟩ := hcp p hp
    refine ⟨h2, I.hok.fresh (Nat.le_of_lt h1), by show p.1 ≠ cenv.locals; rw [hL]; exact Nat.ne_of_gt h1, fun z => ?_, h3⟩
    rcases List.mem_cons.mp (I.stkSub _ z) with z | z
    · exact absurd (Nat.lt_trans I.lt h1) (by rw [z]; exact Nat.lt_irrefl _)
    · exact I.nofs (Nat.le_of_lt h1) z
end
/-! ### the talk of a generator and who asks it -/
section
variable {α : Type}
/-- handed out: x; the asker's state a (laid down in the pins cp) goes to one with Nx -/
def YG (Xg : Cx) (fp : List Addr) (tn : Nat → Heap → Prop) (AC : α → List (Addr × Obj) → Prop) (Yd : α → V → Hp → (α → Hp → Prop) → Prop) : Protocol := fun _ s0 v s kap =>
  ∃ (a : α) (x : V) (σ : L2.St) (H : Hp) (i : Nat) (cp : List (Addr × Obj)) (Nx : α → Hp → Prop), RelV x v ∧ AC a cp ∧ (∀ p ∈ cp, s0.heap.get? p.1 = some p.2) ∧ Inv Xg cp σ H s ∧ tn i s.heap ∧ (∀ b ∈ fp, H b = none) ∧ Yd a x H Nx ∧
    ∀ a' cp' s', Nx a' H → AC a' cp' → Inv Xg cp' σ H s' → tn i s'.heap → kap (.send .none) s'
def RG (Xg : Cx) (AC : α → List (Addr × Obj) → Prop) (End : α → Hp → Prop) : GenEnd := fun _ s0 r s =>
  ((r = .ok (.ret .none) ∨ r = .ok .next) ∧ ∃ (a : α) (σ : L2.St) (H : Hp) (cp : List (Addr × Obj)), AC a cp ∧ (∀ p ∈ cp, s0.heap.get? p.1 = some p.2) ∧ Inv Xg cp σ H s ∧ End a H) ∨ ∃ e, r = .error e ∧ False
/-- a generator's turns -/
def tGx (J : It) (g : TG) (tt : TT) (te : TE) (σ0 : L2.St) (vs : List Nat) (End : α → Hp → Prop) (Yd : α → V → Hp → (α → Hp → Prop) → Prop) (W : Nat → Nat → α → Hp → Prop) : Prop :=
  ∀ i m a H, W i m a H → (J.stop i H ∧ End a H) ∨ (J.go i H ∧ ∃ Nx : α → Hp → Prop, (∀ a' H', Nx a' H' → ∃ m', m' < m ∧ W (i + 1) m' a' H') ∧
    ∀ x H', J.yld i H x H' → g x σ0 H' fun σ2 H2 => wipe σ2 vs = σ0 ∧ tt σ2 H2 fun b H3 => if b = true then te σ2 H3 fun y H4 => Yd a y H4 Nx else Nx a H3)
theorem wipe_wipe_some {σ σ2 : L2.St} {vs : List Nat} (h : wipe σ2 vs = σ) : ∀ (j : Nat) v, σ[j]? = some (some v) → σ2[j]? = some (some v) := fun j v e => by
  rw [← h] at e
  exact (wipe_some e).1
theorem seg_gx {X : Cx} {A A' : Around} {s_0 : Shared} {H_0 : Hp} {elt tg iter : Expr} {ifs : List Expr} {scope : Scope} {pos : Pos} {it : Addr} {fp : List Addr} {tn : Nat → Heap → Prop} {J : It} {cenv : Env} {g : TG} {tt : TT} {te : TE} {σ0 : L2.St} {vs : List Nat}
    {AC : α → List (Addr × Obj) → Prop} {End : α → Hp → Prop} {Yd : α → V → Hp → (α → Hp → Prop) → Prop} {W : Nat → Nat → α → Hp → Prop}
    (hA : A.over (.compLoop (.GeneratorExp elt [⟨tg, iter, ifs, 0⟩] scope pos) 0 (.ref it) .none cenv) [] = A') (hc : X.calm = true) (hco : cenv.scope.isCoroutine = false)
    (T : Turn X.prog X.w X.K tg J fp it tn) (pg : PG (gblk X A' s_0 H_0 cenv fp) tg g) (pt : PTs (gblk X A' s_0 H_0 cenv fp) ifs tt) (pe : PE (gblk X A' s_0 H_0 cenv fp) elt te)
    (hAC : ∀ a cp, AC a cp → ∀ p ∈ cp, ∀ b ∈ fp, p.1 ≠ b) (turn : tGx J g tt te σ0 vs End Yd W) :
    ∀ (m n i : Nat) (a : α) (H : Hp) (s₀ s : Shared) (cp : List (Addr × Obj)), m < n → W i m a H → AC a cp → (∀ p ∈ cp, s₀.heap.get? p.1 = some p.2) → Inv (gblk X A' s_0 H_0 cenv fp) cp σ0 H s → tn i s.heap → (∀ b ∈ fp, H b = none) →
      Seg (model X.prog X.w) A (RG (gblk X A' s_0 H_0 cenv fp) AC End) (YG (gblk X A' s_0 H_0 cenv fp) fp tn AC Yd) n s₀
        (.compLoop (.GeneratorExp elt [⟨tg, iter, ifs, 0⟩] scope pos) 0 (.ref it) .none cenv)
        ((model X.prog X.w).den (.compLoop (.GeneratorExp elt [⟨tg, iter, ifs, 0⟩] scope pos) 0 (.ref it) .none cenv)) [] s := by
  have stat : ∀ {a : α} {cp : List (Addr × Obj)} {σ' : L2.St} {H' : Hp} {s' : Shared}, AC a cp → Inv (gblk X A' s_0 H_0 cenv fp) cp σ' H' s' → (∀ b ∈ fp, H' b = none) → ∀ b ∈ fp, FpOk (gblk X A' s_0 H_0 cenv fp) cp H' b := fun {a cp σ' H' s'} hac I' hn b hb =>
    ⟨hn b hb, (I'.ok.exf b hb).1, I'.ok.exfs b hb, .inl hb, fun x c e => (I'.ok.exf b hb).2 x c e, fun p hp => hAC a cp hac p (by simpa using hp) b hb⟩
  intro m
  induction m using Nat.strongRecOn with
  | ind m ih =>
    intro n i a H s₀ s cp hmn w hac tie I st nf
    show Seg _ A _ _ _ s₀ _ ((compTurn (.GeneratorExp elt [⟨tg, iter, ifs, 0⟩] scope pos) 0 (.ref it) .none cenv).onRaise (leaving cenv)) [] s
    rw [compTurn_gen, Sem.onRaise_eq_wrap]
    refine seg_bind_wrap (wpAny_standAt ?_)
    rcases turn i m a H w with ⟨stop, hend⟩ | ⟨go, Nx, hNx, step⟩
    · refine seg_bind_wrap ?_
      rw [hA]
      refine thnF (T.done (gblk X A' s_0 H_0 cenv fp) rfl rfl rfl hc i cp s σ0 H (fun _ _ => False) I (stat hac I nf) st stop) fun r s1 ⟨hr, I1⟩ => ?_
      subst hr
      exact seg_end (.ok .next) (.inl ⟨.inr rfl, a, _, H, cp, hac, tie, I1, hend⟩)
    · refine seg_bind_wrap ?_
      rw [hA]
      refine thnF (T.item (gblk X A' s_0 H_0 cenv fp) rfl rfl rfl hc i cp s σ0 H (fun _ _ => False) I (stat hac I nf) st go) fun r s1 ⟨u, hr, h1⟩ => ?_
      subst hr
      refine seg_bind_wrap ?_
      rw [hA]
      refine thnF h1 fun _ s2 ⟨x, H2, I2, r2, y2, st2, n2⟩ => ?_
      have I2' := I2.pinned (stat hac I2 n2) (T.obj _ _ st2)
      refine seg_bind_wrap ?_
      rw [hA]
      refine thnF (pg.run _ s2 _ H2 x u _ I2' r2 (step x H2 y2)) fun _ s3 ⟨σ3, H3, I3, hw3, q3⟩ => ?_
      refine seg_bind_wrap ?_
      rw [hA]
      refine thnF (pt.run _ s3 σ3 H3 _ I3 q3) fun b s4 ⟨H4, I4, q4⟩ => ?_
      have hl : σ0.length = σ3.length := by rw [← hw3, wipe_length]
      have fin : ∀ {s' : Shared} {H' : Hp}, Inv (gblk X A' s_0 H_0 cenv fp) (cp ++ pinsAt fp s2.heap) σ3 H' s' → Inv (gblk X A' s_0 H_0 cenv fp) cp σ0 H' s' ∧ tn (i + 1) s'.heap ∧ ∀ b ∈ fp, H' b = none := fun {s' H'} I' => by
        have pin' : ∀ b ∈ fp, ∀ o, s2.heap.get? b = some o → s'.heap.get? b = some o ∧ H' b = none := fun b hb o e =>
          let z := I'.pin (b, o) (List.mem_append_right _ (List.mem_append_right _ (mem_pinsAt hb e)))
          ⟨z.1, z.2.1⟩
        refine ⟨(I'.unpinned (pins := cp)).weak hl (wipe_wipe_some hw3), T.keep _ _ _ st2 fun b hb o e => (pin' b hb o e).1, fun b hb => ?_⟩
        obtain ⟨o, e, _⟩ := T.obj _ _ st2 b hb
        exact (pin' b hb o e).2
      cases b with
      | false =>
        simp only [Bool.false_eq_true, if_false] at q4 ⊢
        obtain ⟨m', hm, w'⟩ := hNx a H4 q4
        obtain ⟨J1, J2, J3⟩ := fin I4
        exact seg_again rfl (ih m' hm n (i + 1) a H4 s₀ s4 cp (by omega) w' hac tie J1 J2 J3)
      | true =>
        simp only [if_true] at q4 ⊢
        have hy : ∀ v, yieldOut cenv v = yieldValue v := fun v => by simp only [yieldOut, hco, Bool.false_eq_true, if_false]
        simp only [hy]
        rw [Sem.bind_eq_wrap', Sem.bind_eq_wrap', Sem.wrap_wrap, Sem.wrap_wrap]
        refine seg_wrap ?_
        rw [hA]
        refine thnF (pe.run _ s4 σ3 H4 _ I4 q4) fun yv s5 ⟨y, H5, I5, r5, q5⟩ => ?_
        obtain ⟨J1, J2, J3⟩ := fin I5
        -- at least one more
        cases n with
        | zero => exact absurd hmn (Nat.not_lt_zero _)
        | succ n =>
          refine seg_at (seg_yield rfl rfl rfl ⟨a, y, σ0, H5, i + 1, cp, Nx, r5, hac, tie, J1, J2, J3, q5, fun a' cp' s' nx hac' I' st' => ?_⟩)
          obtain ⟨m', hm, w'⟩ := hNx a' H5 nx
          exact seg_again rfl (ih m' hm n (i + 1) a' H5 s' s' cp' (by omega) w' hac' (fun p hp => (I'.pin p (List.mem_append_right _ hp)).1) I' st' J3)
end
/-! ### a generator that is made -/
section
variable {X : Cx} {pins : List (Addr × Obj)} {σ : L2.St} {H : Hp} {s : Shared}
def GenObj (o : Obj) (g : Nat) : Prop := ∃ nm qn, o.cls = .type "generator" ∧ o.data = .fields #[.int g 0, nm, qn] ∧ o.slots = #[]
theorem GenObj.isGen {o : Obj} {g : Nat} (h : GenObj o g) {a : Addr} {hp : Heap} (e : hp.get? a = some o) : hp.IsGen a g := by
  obtain ⟨nm, qn, h1, h2, h3⟩ := h
  exact ⟨o, nm, qn, e, h1, h2, h3⟩
/-- the generator u, made and not begun, in the state s5 -/
def Gx (X : Cx) (pins : List (Addr × Obj)) (σ : L2.St) (A : Around) (J : It) (g : TG) (tt : TT) (te : TE) (vs : List Nat) (H4 : Hp) (u : Value) (s5 : Shared) : Prop :=
  ∃ (A' : Around) (s_0 : Shared) (H_0 : Hp) (cenv : Env) (fp : List Addr) (ga : Addr) (gn : Nat) (go : Obj) (tn : Nat → Heap → Prop) (gs : GenState),
    u = .ref ga ∧ GenObj go gn ∧ s5.gens[gn]? = some gs ∧ gs.bare = true ∧ Inv (gblk X A' s_0 H_0 cenv fp) [(ga, go)] (wipe σ vs) H4 s5 ∧ tn 0 s5.heap ∧ (∀ b ∈ fp, H4 b = none) ∧ (∀ b ∈ fp, b < ga) ∧
    (∀ i h h', tn i h → (∀ b ∈ fp, ∀ o, h.get? b = some o → h'.get? b = some o) → tn i h') ∧ (∀ cp σ' H' s', Inv (gblk X A' s_0 H_0 cenv fp) cp σ' H' s' → Inv X pins σ H' s') ∧
    ∀ (α : Type) (AC : α → List (Addr × Obj) → Prop) (End : α → Hp → Prop) (Yd : α → V → Hp → (α → Hp → Prop) → Prop) (W : Nat → Nat → α → Hp → Prop) (m n : Nat) (a : α) (cp : List (Addr × Obj)) (s' : Shared),
      tGx J g tt te (wipe σ vs) vs End Yd W → W 0 m a H4 → m < n → (∀ a cp, AC a cp → ∀ p ∈ cp, ∀ b ∈ fp, p.1 ≠ b) → AC a cp → Inv (gblk X A' s_0 H_0 cenv fp) cp (wipe σ vs) H4 s' → tn 0 s'.heap →
      gs.Goes (model X.prog X.w) A (RG (gblk X A' s_0 H_0 cenv fp) AC End) (YG (gblk X A' s_0 H_0 cenv fp) fp tn AC Yd) n (.send .none) s'
/-- what stands about an asker -/
structure Near (A B : Around) : Prop where
  hd : B.handled = A.handled
  fr : B.frames = A.frames
  gd : B.guards = A.guards
  dp : B.depth = A.depth
  un : B.units ≤ A.units + 8
theorem gx_make {c P : Addr} {elt tg iter : Expr} {ifs : List Expr} {gpos : Pos} {scope : Scope} {own : List (Str × Nat)} {wi : TI} {g : TG} {tt : TT} {te : TE} {k : Nat} {Q' : Value → Shared → Prop} {R : It → Hp → Prop} {A : Around}
    (hr : Room (k + 1) X.A) (near : Near X.A A) (hc : X.calm = true) (hN : X.N.Nodup) (TB : GxR.TabB X.base X.mg c P) (hcode : X.env.code = .ref c) (hco : scope.isCoroutine = false) (hdot : scope.names.lookup (".0" : Str) = some NameKind.local)
    (nocell : ∀ y ∈ scope.names, y.2 ≠ .cell) (ok : BlkOk X.N X.env.scope scope own) (hi : PI X tg iter wi)
    (hg : ∀ (A' : Around) (s : Shared) (H : Hp) (C : Addr) (cl : List (Str × Addr)) (code : Value) (fp : List Addr), Room k A' → A'.guards = X.A.guards → PG (gblk X A' s H (genEnv scope cl C code builtinsNs X.env) fp) tg g)
    (ht : ∀ (A' : Around) (s : Shared) (H : Hp) (C : Addr) (cl : List (Str × Addr)) (code : Value) (fp : List Addr), Room k A' → A'.guards = X.A.guards → PTs (gblk X A' s H (genEnv scope cl C code builtinsNs X.env) fp) ifs tt)
    (he : ∀ (A' : Around) (s : Shared) (H : Hp) (C : Addr) (cl : List (Str × Addr)) (code : Value) (fp : List Addr), Room k A' → A'.guards = X.A.guards → PE (gblk X A' s H (genEnv scope cl C code builtinsNs X.env) fp) elt te)
    (hs : ∀ v, genFold iter X.env v = pure v) (I : Inv X pins σ H s) (h : wi σ H fun J H1 => GxR.TabG H1 P ∧ R J H1)
    (hQ : ∀ J H1 H2 u s5, R J H1 → GxR.Tabbed P H1 H2 → Gx X pins σ A J g tt te (own.map (·.2)) H2 u s5 → Q' u s5) :
    wpAny (model X.prog X.w) X.A (eval (.GeneratorExp elt [⟨tg, iter, ifs, 0⟩] scope gpos) X.env) Q' X.xe s := by
  have hfree : ∀ y ∈ scope.names, y.2 = .free → ∃ c, X.env.cells.lookup y.1 = some c := fun y hy e => by
    rcases ok.free y hy e with k | k
    · exact I.ok.has _ (.inl k)
    · exact I.ok.has _ (.inr k)
  refine wpAny_GeneratorExp_make hco (closure_ok hfree) nocell hdot ok.kind (by have := hr.dp; omega) ?_ hs
  refine thn (hi.run pins s σ H _ I h) fun xv s1 hx => thn hx fun itv s2 h2 => ?_
  obtain ⟨it, fp, tn, J, H2, rfl, I2, T, st2, f2, ⟨ps, hP, ht3⟩, q⟩ := h2
  refine ⟨I2.nolimit, ?_⟩
  have hPs : s2.heap.get? P = some { cls := .none, data := .fields ps } := I2.hok P _ hP
  have cd : PySem.W.CodeHd s2.heap c P := TB.code.keeps fun b u e => I2.bk b u e
  have nP : ∀ b, H2 b = none → b ≠ P := fun b e z => by
    rw [z, hP] at e
    cases e
  have cont : ∀ (code : Value) (h3 : Heap) (tk : Nat) (ps' : Array Value), Heap.ExtBut P s2.heap h3 → s2.heap.objs.size ≤ h3.objs.size → h3.get? P = some { cls := .none, data := .fields ps' } → (∃ more, ps' = ps ++ more) → TriplesOk ps'.toList →
      wpAny (model X.prog X.w) X.A (builtinsFor X.env.globals X.env.builtins) (fun bi s₄ =>
        ∀ h', h'.Ns s₄.heap.objs.size (fun y => if y = ".0" then some (Value.ref it) else none) → Heap.SameBut s₄.heap.objs.size (s₄.heap.push { cls := .type "frame", data := .dict #[] }) h' →
          Q' (.ref h'.objs.size) { s₄ with
            gens := s₄.gens.push (.fresh (.compStart (.GeneratorExp elt [⟨tg, iter, ifs, 0⟩] scope gpos) 0 (.ref it) .none (genEnv scope (cloFrom X.env.cells scope.names []) s₄.heap.objs.size code bi X.env))),
            toks := s₄.toks + 1 + 1 + 1,
            heap := h'.push { cls := .type "generator", data := .fields #[.int s₄.gens.size 0, .str "<genexpr>" (s₄.toks + 1), .str (X.env.qual ++ "<genexpr>") (s₄.toks + 1 + 1)] } }) X.xe { s2 with heap := h3, toks := tk } := by
    rintro code h3 tk ps' hx hsz hP3 ⟨more, rfl⟩ ht4
    obtain ⟨bm, ob, e1, e2, e3, e4, e5, e6, e7, e8⟩ := TB.bm
    refine wpAny_builtinsFor (m := X.mg) (by rw [I2.ok.glob]; exact (I2.mod.glob.keeps I2.bk).extBut hx TB.gP) e1 e2 (hx _ _ e4 (I2.bk _ _ e5)) e6 e7 e8 ?_
    intro h' hns hsb
    have I3 : Inv X pins σ (upd H2 P (.tbl (ps ++ more))) { s2 with heap := h3, toks := tk } := GxR.inv_tab (g' := s2.gens) (d' := s2.drawn) I2 hP (fun b o hb e => hx b o hb e) hP3 I2.bare
    have lt2 : ∀ b ∈ fp, b < s2.heap.objs.size := fun b hb => by
      obtain ⟨o, e, _⟩ := T.obj _ _ st2 b hb
      exact Heap.lt_size e
    have f3 : ∀ b ∈ fp, FpOk X pins (upd H2 P (.tbl (ps ++ more))) b ∧ b < ({ s2 with heap := h3, toks := tk } : Shared).heap.objs.size := fun b hb => by
      refine ⟨⟨?_, (f2 b hb).2⟩, Nat.lt_of_lt_of_le (lt2 b hb) hsz⟩
      rw [upd_ne (nP b (f2 b hb).1)]
      exact (f2 b hb).1
    have st3 : tn 0 h3 := T.keep _ _ _ st2 fun b hb o e => hx b o (nP b (f2 b hb).1) e
    generalize hs4 : ({ s2 with heap := h3, toks := tk } : Shared) = s4 at I3 f3 hns hsb ⊢
    have h4 : s4.heap = h3 := by rw [← hs4]
    have hsz4 : h'.objs.size = s4.heap.objs.size + 1 := by rw [hsb.1, Heap.size_push]
    have keep' : ∀ b o, s4.heap.get? b = some o → h'.get? b = some o := fun b o e => hsb.extBut b o (Nat.ne_of_lt (Heap.lt_size e)) (Heap.get?_push_of_some _ e)
    generalize hgo : ({ cls := .type "generator", data := .fields #[.int s4.gens.size 0, .str "<genexpr>" (s4.toks + 1), .str (X.env.qual ++ "<genexpr>") (s4.toks + 1 + 1)] } : Obj) = go
    have hGO : GenObj go s4.gens.size := by rw [← hgo]; exact ⟨_, _, rfl, rfl, rfl⟩
    have k5 : ∀ b o, s4.heap.get? b = some o → (h'.push go).get? b = some o := fun b o e => Heap.get?_push_of_some _ (keep' b o e)
    have pg := fun A' => hg A' s4 (upd H2 P (.tbl (ps ++ more))) s4.heap.objs.size (cloFrom X.env.cells scope.names []) code fp
    have pt := fun A' => ht A' s4 (upd H2 P (.tbl (ps ++ more))) s4.heap.objs.size (cloFrom X.env.cells scope.names []) code fp
    have pe := fun A' => he A' s4 (upd H2 P (.tbl (ps ++ more))) s4.heap.objs.size (cloFrom X.env.cells scope.names []) code fp
    generalize hce : genEnv scope (cloFrom X.env.cells scope.names []) s4.heap.objs.size code builtinsNs X.env = cenv at pg pt pe ⊢
    have hscn : cenv.scope = scope := by rw [← hce]; rfl
    generalize hA' : A.over (.compLoop (.GeneratorExp elt [⟨tg, iter, ifs, 0⟩] scope gpos) 0 (.ref it) .none cenv) [] = A'
    have hfrA : A'.frames = some (cenv :: X.stack) := by
      rw [← hA']
      show pushEnvs [cenv] A.frames = _
      rw [near.fr, I2.ok.frames]
      rfl
    have hhd : A'.handled = none := by
      rw [← hA']
      show A.handled = none
      rw [near.hd]
      exact hr.hd
    have rm : Room k A' := by
      refine ⟨hhd, ?_, ?_⟩
      · have := hr.dp
        have := near.dp
        rw [← hA']
        show A.depth + 0 + 1 + 3 * k + 5 < _
        omega
      · have := hr.un
        have := near.un
        rw [← hA']
        show A.units + 0 + 3 + 16 * k + 200 < _
        omega
    have gdA : A'.guards = X.A.guards := by
      rw [← hA']
      show pushGuards [] A.guards = _
      rw [near.gd]
      rfl
    have I5 : Inv (gblk X A' s4 (upd H2 P (.tbl (ps ++ more))) cenv fp) [(h'.objs.size, go)] (wipe σ (own.map (·.2))) (upd H2 P (.tbl (ps ++ more)))
        { s4 with gens := s4.gens.push (.fresh (.compStart (.GeneratorExp elt [⟨tg, iter, ifs, 0⟩] scope gpos) 0 (.ref it) .none cenv)), toks := s4.toks + 1 + 1 + 1, heap := h'.push go } := by
      subst hce
      refine gen_start (it := .ref it) I3 ok nocell hN f3 hhd hfrA rfl (I3.bare.push rfl) k5 (hns.push _) fun p hp => ?_
      have e : p = (h'.objs.size, go) := by simpa using hp
      subst e
      refine ⟨by show s4.heap.objs.size < h'.objs.size; omega, Heap.get?_push_size _ (by rw [← hgo]; rfl), fun v z => ?_⟩
      rw [← hgo] at z
      cases z
    refine hQ J H2 _ _ _ q ⟨⟨_, upd_same, ht4⟩, fun b hb => upd_ne hb⟩ ⟨A', s4, _, cenv, fp, h'.objs.size, s4.gens.size, go, tn, _, rfl, hGO, Array.getElem?_push_size .., rfl, I5, ?_, fun b hb => (f3 b hb).1.1, fun b hb => ?_, T.keep, fun cp σ' H' s' I' => ?_, ?_⟩
    · exact T.keep _ _ _ st3 fun b _ o e => k5 b o (by rw [h4]; exact e)
    · have := (f3 b hb).2
      rw [hsz4]
      exact Nat.lt_succ_of_lt this
    · exact I3.call' (ch := fp) I'.os I'.base I'.hok I'.bare fun b hb => ⟨(f3 b hb).1.2.2.2.1, (f3 b hb).1.2.1, (f3 b hb).1.2.2.2.2.1, (f3 b hb).1.2.2.2.2.2⟩
    · intro α AC End Yd W m n a cp s' turn w hmn hAC hac I' st'
      refine ⟨rfl, ?_⟩
      have loop := seg_gx (A := A) (pos := gpos) (iter := iter) (scope := scope) hA' hc (by rw [hscn]; exact hco) T (pg A' rm gdA) (pt A' rm gdA) (pe A' rm gdA) hAC turn m n 0 a _ s' s' cp hmn w hac (fun p hp => (I'.pin p (List.mem_append_right _ hp)).1) I' st' fun b hb => (f3 b hb).1.1
      show Seg _ A _ _ _ s' _ ((compStart (.GeneratorExp elt [⟨tg, iter, ifs, 0⟩] scope gpos) 0 (.ref it) .none cenv).onRaise (leaving cenv)) [] s'
      unfold compStart
      rw [Sem.onRaise_eq_wrap]
      show Seg _ A _ _ _ s' _ ((ask >>= _).wrap _ _ _ _) [] s'
      refine seg_bind_wrap (wpAny_askSetting ?_)
      split
      · exact seg_again rfl loop
      · first
          | exact seg_bind_wrap (wpAny_rule (seg_bind_wrap (wpAny_standAt (seg_bind_wrap (T.self _ 0 s' _ _ st' (seg_again rfl loop))))))
          | (refine seg_bind_wrap (wpAny_rule ?_); show Seg _ A _ _ _ s' _ ((standAt iter.pos >>= _).wrap _ _ _ _) [] s'; exact seg_bind_wrap (wpAny_standAt (seg_bind_wrap (T.self _ 0 s' _ _ st' (seg_again rfl loop)))))
  cases hf : codeAmong gpos ps.toList with
  | none =>
    refine wpAny_genexprCodeX hcode (cd.code hPs ht3) (cd.tab hPs) hf fun c' h' tk hx hge hlt hco' _ htab' _ => ?_
    obtain ⟨o1, vs, f1, tf, fl, tg, inF, tx, tt, op, _, _, _, _, _, _, _, _, _, htr, _⟩ := hco'
    exact cont _ h' tk _ hx (Nat.le_trans hge (Nat.le_of_lt hlt)) htab'.2 ⟨_, rfl⟩ htr
  | some cv =>
    refine wpAny_genexprCode_hit hcode (cd.code hPs ht3) hf ?_
    exact cont cv s2.heap s2.toks ps (Heap.ExtBut.refl _ _) (Nat.le_refl _) hPs ⟨#[], by simp⟩ ht3
end
/-! ### asking -/
section
variable {α : Type} {X : Cx} {A A' : Around} {s_0 : Shared} {H_0 : Hp} {cenv : Env} {fp : List Addr} {tn : Nat → Heap → Prop} {AC : α → List (Addr × Obj) → Prop} {End : α → Hp → Prop} {Yd : α → V → Hp → (α → Hp → Prop) → Prop} {ga : Addr} {gn n : Nat} {go : Obj}
theorem next_gx2 {gs : GenState} {s : Shared} {Q : Option Value → Shared → Prop} {E : Value → Shared → Prop} (hh : A.handled = none) (hroom : A.depth < recursionLimit) (hl : s.heap.NoLimit) (hG : GenObj go gn) (e : s.heap.get? ga = some go) (hgs : s.gens[gn]? = some gs)
    (hgo : gs.Goes (model X.prog X.w) A.in1 (RG (gblk X A' s_0 H_0 cenv fp) AC End) (YG (gblk X A' s_0 H_0 cenv fp) fp tn AC Yd) n (.send .none) (s.setGen gn .running))
    (item : ∀ (a : α) (x : V) (σ : L2.St) (H : Hp) (i : Nat) (cp : List (Addr × Obj)) (Nx : α → Hp → Prop) (v : Value) (s1 : Shared) (gs' : GenState), RelV x v → AC a cp → (∀ p ∈ cp, s.heap.get? p.1 = some p.2) → Inv (gblk X A' s_0 H_0 cenv fp) cp σ H s1 → tn i s1.heap → Yd a x H Nx → s1.gens[gn]? = some gs' →
      (∀ a' cp' s', Nx a' H → AC a' cp' → Inv (gblk X A' s_0 H_0 cenv fp) cp' σ H s' → tn i s'.heap → ∃ m, n = m + 1 ∧ gs'.Goes (model X.prog X.w) A.in1 (RG (gblk X A' s_0 H_0 cenv fp) AC End) (YG (gblk X A' s_0 H_0 cenv fp) fp tn AC Yd) m (.send .none) s') → Q (some v) s1)
    (done : ∀ (a : α) (σ : L2.St) (H : Hp) (cp : List (Addr × Obj)) (s1 : Shared), AC a cp → (∀ p ∈ cp, s.heap.get? p.1 = some p.2) → Inv (gblk X A' s_0 H_0 cenv fp) cp σ H s1 → End a H → Q none s1) :
    wpAny (model X.prog X.w) A (pyNext (.ref ga)) Q E s := by
  have hgl : gn < s.gens.size := (Array.getElem?_eq_some_iff.mp hgs).1
  refine GenW.wpAny_gsz (n := gn + 1) hgl (next_genG (Er := fun _ _ => False) hh hl hroom (hG.isGen e) hgs hgo (fun v s₁ gs' hbare hv => ?_) (fun s₁ hp h' hk => ?_) fun e s₁ he => he.elim)
  · intro hsz
    obtain ⟨a, x, σ, H, i, cp, Nx, r, hac, tie, I, st, nf, hy, kap⟩ := hv
    have hsz1 : gn < s₁.gens.size := by
      have q : (s₁.setGen gn gs').gens.size = s₁.gens.size := GenW.setGen_size _ _ _
      have hsz' : gn + 1 ≤ (s₁.setGen gn gs').gens.size := hsz
      omega
    refine item a x σ H i cp Nx v (s₁.setGen gn gs') gs' r hac tie (inv_moved I rfl (allBare_setGen I.bare hbare) fun _ _ q => q) st hy (setGen_at hsz1) fun a' cp' s' nx hac' I' st' => ?_
    have z := kap a' cp' s' nx hac' I' st'
    cases n with
    | zero => exact z.elim
    | succ m => exact ⟨m, rfl, z⟩
  · intro _
    obtain ⟨a, σ, H, cp, hac, tie, I, q⟩ := hp
    exact done a σ H cp _ hac tie (inv_moved I rfl (allBare_setGen I.bare rfl) hk) q
theorem next_gx {gs : GenState} {s : Shared} {Q : Option Value → Shared → Prop} {E : Value → Shared → Prop} (hh : A.handled = none) (hroom : A.depth < recursionLimit) (hl : s.heap.NoLimit) (hG : GenObj go gn) (e : s.heap.get? ga = some go) (hgs : s.gens[gn]? = some gs)
    (hgo : gs.Goes (model X.prog X.w) A.in1 (RG (gblk X A' s_0 H_0 cenv fp) AC End) (YG (gblk X A' s_0 H_0 cenv fp) fp tn AC Yd) n (.send .none) (s.setGen gn .running))
    (item : ∀ (a : α) (x : V) (σ : L2.St) (H : Hp) (i : Nat) (cp : List (Addr × Obj)) (Nx : α → Hp → Prop) (v : Value) (s1 : Shared) (gs' : GenState), RelV x v → AC a cp → Inv (gblk X A' s_0 H_0 cenv fp) cp σ H s1 → tn i s1.heap → Yd a x H Nx → s1.gens[gn]? = some gs' →
      (∀ a' cp' s', Nx a' H → AC a' cp' → Inv (gblk X A' s_0 H_0 cenv fp) cp' σ H s' → tn i s'.heap → ∃ m, n = m + 1 ∧ gs'.Goes (model X.prog X.w) A.in1 (RG (gblk X A' s_0 H_0 cenv fp) AC End) (YG (gblk X A' s_0 H_0 cenv fp) fp tn AC Yd) m (.send .none) s') → Q (some v) s1)
    (done : ∀ (a : α) (σ : L2.St) (H : Hp) (cp : List (Addr × Obj)) (s1 : Shared), AC a cp → Inv (gblk X A' s_0 H_0 cenv fp) cp σ H s1 → End a H → Q none s1) :
    wpAny (model X.prog X.w) A (pyNext (.ref ga)) Q E s :=
  next_gx2 hh hroom hl hG e hgs hgo (fun a x σ H i cp Nx v s1 gs' r hac _ I st hy at_ kap => item a x σ H i cp Nx v s1 gs' r hac I st hy at_ kap) fun a σ H cp s1 hac _ I q => done a σ H cp s1 hac I q
/-- all(..) asks on -/
theorem all_gx {R : Result → Shared → Prop} {Stop : Hp → Prop} {End : Unit → Hp → Prop} (hh : A.handled = none) (hroom : A.depth < recursionLimit) (hG : GenObj go gn)
    (yes : ∀ (σ : L2.St) (H : Hp) (cp : List (Addr × Obj)) (s1 : Shared), Inv (gblk X A' s_0 H_0 cenv fp) cp σ H s1 → End () H → R (.ok (.ret (.bool true))) s1)
    (no : ∀ (σ : L2.St) (H : Hp) (cp : List (Addr × Obj)) (s1 : Shared), Inv (gblk X A' s_0 H_0 cenv fp) cp σ H s1 → Stop H → R (.ok (.ret (.bool false))) s1) :
    ∀ (n : Nat) (s : Shared), s.heap.NoLimit → s.heap.get? ga = some go → (∃ gs, s.gens[gn]? = some gs ∧ gs.Goes (model X.prog X.w) A.in1.in1 (RG (gblk X A' s_0 H_0 cenv fp) (fun _ cp => cp = [(ga, go)]) End)
      (YG (gblk X A' s_0 H_0 cenv fp) fp tn (fun _ cp => cp = [(ga, go)]) (fun _ y H Nx => ∃ b : Bool, y = .bl b ∧ if b = true then Nx () H else Stop H)) n (.send .none) (s.setGen gn .running)) →
      codeAny (model X.prog X.w) A (.builtin "all.loop" ⟨[.ref ga], []⟩) R s := by
  intro n
  induction n with
  | zero =>
    rintro s hl e ⟨gs, hgs, hgo⟩
    refine codeAny_builtin F.entry_all_loop ?_
    rw [Around.under_plainId F.plain_all_loop _]
    show wpAny _ A.in1 (pyNext (.ref ga) >>= _) _ _ s
    refine wpAny_bind (next_gx (A := A.in1) hh hroom hl hG e hgs hgo (fun a x σ H i cp Nx v s1 gs' r hac I st hy at_ kap => ?_) fun a σ H cp s1 hac I q => ?_)
    · obtain ⟨b, rfl, hb⟩ := hy
      cases (show v = Value.bool b from r)
      refine wpAny_bind (wpAny_holding (wpAny_truthy_bool ?_))
      refine wpAny_bind (wpAny_letGo ?_)
      cases b with
      | true =>
        obtain ⟨m, hm, _⟩ := kap () cp s1 hb hac I st
        cases hm
      | false =>
        simp only [Bool.false_eq_true, if_false] at hb ⊢
        exact wpAny_bind (wpAny_rule (wpAny_pure (no σ H cp s1 I hb)))
    · exact wpAny_bind (wpAny_rule (wpAny_pure (yes σ H cp s1 I q)))
  | succ n ih =>
    rintro s hl e ⟨gs, hgs, hgo⟩
    refine codeAny_builtin F.entry_all_loop ?_
    rw [Around.under_plainId F.plain_all_loop _]
    show wpAny _ A.in1 (pyNext (.ref ga) >>= _) _ _ s
    refine wpAny_bind (next_gx (A := A.in1) hh hroom hl hG e hgs hgo (fun a x σ H i cp Nx v s1 gs' r hac I st hy at_ kap => ?_) fun a σ H cp s1 hac I q => ?_)
    · obtain ⟨b, rfl, hb⟩ := hy
      cases (show v = Value.bool b from r)
      refine wpAny_bind (wpAny_holding (wpAny_truthy_bool ?_))
      refine wpAny_bind (wpAny_letGo ?_)
      cases b with
      | true =>
        simp only [if_true] at hb ⊢
        subst hac
        refine wpAny_pure ⟨plainId_quiet F.plain_all_loop _, ih s1 I.nolimit (I.pin (ga, go) (List.mem_append_right _ List.mem_cons_self)).1 ⟨gs', at_, ?_⟩⟩
        obtain ⟨m, hm, z⟩ := kap () [(ga, go)] (s1.setGen gn .running) hb rfl (inv_moved I rfl (allBare_setGen I.bare rfl) fun _ _ q => q) st
        cases hm
        exact z
      | false =>
        simp only [Bool.false_eq_true, if_false] at hb ⊢
        exact wpAny_bind (wpAny_rule (wpAny_pure (no σ H cp s1 I hb)))
    · exact wpAny_bind (wpAny_rule (wpAny_pure (yes σ H cp s1 I q)))
end
section
variable {X : Cx}
/-- all(elt for tg in iter ..) -/
def tAllX (P : Addr) (wi : TI) (g : TG) (tt : TT) (te : TE) (vs : List Nat) : TE := fun σ H Q => wi σ H fun J H1 => GxR.TabG H1 P ∧ ∀ H2, GxR.Tabbed P H1 H2 → ∃ W : Nat → Nat → Unit → Hp → Prop, (∃ m, W 0 m () H2) ∧
  tGx J g tt te (wipe σ vs) vs (fun _ H => Q (.bl true) H) (fun _ y H Nx => ∃ b : Bool, y = .bl b ∧ if b = true then Nx () H else Q (.bl false) H) W
theorem pe_allX {c P : Addr} {elt tg iter : Expr} {ifs : List Expr} {p pos gpos : Pos} {scope : Scope} {own : List (Str × Nat)} {wi : TI} {g : TG} {tt : TT} {te : TE} {k : Nat}
    (hr : Room (k + 1) X.A) (hc : X.calm = true) (hN : X.N.Nodup) (hgl : Gl X "all") (hm : X.mg "all" = none) (hb : bootBuiltins "all" = some (.builtin "all")) (TB : GxR.TabB X.base X.mg c P) (hcode : X.env.code = .ref c)
    (hco : scope.isCoroutine = false) (hdot : scope.names.lookup (".0" : Str) = some NameKind.local) (nocell : ∀ y ∈ scope.names, y.2 ≠ .cell) (ok : BlkOk X.N X.env.scope scope own) (hi : PI X tg iter wi)
    (hg : ∀ (A' : Around) (s : Shared) (H : Hp) (C : Addr) (cl : List (Str × Addr)) (code : Value) (fp : List Addr), Room k A' → A'.guards = X.A.guards → PG (gblk X A' s H (genEnv scope cl C code builtinsNs X.env) fp) tg g)
    (ht : ∀ (A' : Around) (s : Shared) (H : Hp) (C : Addr) (cl : List (Str × Addr)) (code : Value) (fp : List Addr), Room k A' → A'.guards = X.A.guards → PTs (gblk X A' s H (genEnv scope cl C code builtinsNs X.env) fp) ifs tt)
    (he : ∀ (A' : Around) (s : Shared) (H : Hp) (C : Addr) (cl : List (Str × Addr)) (code : Value) (fp : List Addr), Room k A' → A'.guards = X.A.guards → PE (gblk X A' s H (genEnv scope cl C code builtinsNs X.env) fp) elt te)
    (hs : ∀ v, genFold iter X.env v = pure v)
    (hst : starEach [.GeneratorExp elt [⟨tg, iter, ifs, 0⟩] scope gpos] X.env = (false, eval (.GeneratorExp elt [⟨tg, iter, ifs, 0⟩] scope gpos) X.env) :: starEach [] X.env := by rfl) :
    PE X (.Call (.Name "all" p) [.GeneratorExp elt [⟨tg, iter, ifs, 0⟩] scope gpos] [] pos) (tAllX P wi g tt te (own.map (·.2))) := by
  refine ⟨fun pins s σ H Q I h => ?_⟩
  refine wpAny_Call_Name_kw (ld_blt I hgl hm hb ?_)
  refine PyProof.Rows.callWith_builtin1 ?_ hst (by rfl)
  rw [hst]
  show wpAny _ _ (spliced ((false, eval (.GeneratorExp elt [⟨tg, iter, ifs, 0⟩] scope gpos) X.env) :: backTo pos (starEach [] X.env))) _ _ s
  refine Calls.spliced_cons (gx_make (A := X.A.in1.in1) hr ⟨rfl, rfl, rfl, rfl, (by show X.A.units + 1 + 1 ≤ _; omega)⟩ hc hN TB hcode hco hdot nocell ok hi hg ht he hs I h fun J H1 H2 u s5 hR hT hG => ?_)
  obtain ⟨A', s_0, H_0, cenv, fp, ga, gn, go, tn, gs, rfl, hGO, hgs, hbare, I5, st5, nf, hlt, keep, back, goes⟩ := hG
  obtain ⟨W, ⟨m, w0⟩, turn⟩ := hR H2 hT
  refine Calls.spliced_nil ?_
  have pin5 := (I5.pin (ga, go) (List.mem_append_right _ List.mem_cons_self)).1
  refine call_function_tree F.kind_all F.plain_all F.entry_all (F.args_all1 _) ?_
  unfold Builtin.«all»
  refine wpAny_bind (m := oneArg "all" _) (wpAny_pure ?_)
  refine wpAny_bind (wpAny_pyIter_gen (hGO.isGen pin5) ?_)
  refine wpAny_pure ⟨plainId_quiet F.plain_all_loop _, all_gx (A' := A') (s_0 := s_0) (H_0 := H_0) (cenv := cenv) (fp := fp) (tn := tn) (go := go) (gn := gn) (Stop := fun H => Q (.bl false) H) (End := fun _ H => Q (.bl true) H) hr.hd hr.depth hGO
    (fun σ' H' cp s1 I1 q => ⟨.bl true, H', back _ _ _ _ I1, rfl, q⟩) (fun σ' H' cp s1 I1 q => ⟨.bl false, H', back _ _ _ _ I1, rfl, q⟩) (m + 1) s5 I5.nolimit pin5 ⟨gs, hgs, ?_⟩⟩
  refine goes Unit _ _ _ W m (m + 1) () [(ga, go)] _ turn w0 (Nat.lt_succ_self _) (fun a cp hac p hp b hb z => ?_) rfl (inv_moved I5 rfl (allBare_setGen I5.bare rfl) fun _ _ q => q) st5
  subst hac
  have e : p = (ga, go) := by simpa using hp
  subst e
  exact absurd (hlt b hb) (by rw [← z]; exact Nat.lt_irrefl _)
end
/-! ### tuple(..) -/
section
variable {X : Cx} {A A' : Around} {s_0 : Shared} {H_0 : Hp} {cenv : Env} {fp : List Addr} {tn : Nat → Heap → Prop} {ga S : Addr} {gn n : Nat} {go : Obj}
/-- the asker's list S holds what is out -/
def ACl (ga : Addr) (go : Obj) (S : Addr) (ys : List V) (cp : List (Addr × Obj)) : Prop := ∃ (acc : Array Value) (c : Nat), cp = [(ga, go), (S, lstObj acc c)] ∧ Vals ys acc.toList
def YdL (ys : List V) (y : V) (H : Hp) (Nx : List V → Hp → Prop) : Prop := ys.length < sizeLine ∧ Nx (ys ++ [y]) H
theorem ext_gx {R : Result → Shared → Prop} {End : List V → Hp → Prop} {res : Value} (hh : A.handled = none) (hroom : A.depth < recursionLimit) (hG : GenObj go gn) (hSa : S ≠ ga) (far : (gblk X A' s_0 H_0 cenv fp).s_0.heap.objs.size ≤ S) (hSc : ∀ x c, cenv.cells.lookup x = some c → c ≠ S)
    (keep : ∀ i h h', tn i h → (∀ b ∈ fp, ∀ o, h.get? b = some o → h'.get? b = some o) → tn i h') (hSf : ∀ b ∈ fp, b ≠ S)
    (yes : ∀ (σ : L2.St) (H : Hp) (ys : List V) (acc : Array Value) (c : Nat) (s1 : Shared), Inv (gblk X A' s_0 H_0 cenv fp) [(ga, go), (S, lstObj acc c)] σ H s1 → Vals ys acc.toList → End ys H → R (.ok (.ret res)) s1) :
    ∀ (n : Nat) (s : Shared), s.heap.NoLimit → s.heap.get? ga = some go → (∃ gs, s.gens[gn]? = some gs ∧ gs.Goes (model X.prog X.w) A.in1.in1 (RG (gblk X A' s_0 H_0 cenv fp) (ACl ga go S) End)
      (YG (gblk X A' s_0 H_0 cenv fp) fp tn (ACl ga go S) YdL) n (.send .none) (s.setGen gn .running)) →
      codeAny (model X.prog X.w) A (.builtin "list.extend.loop" ⟨[.ref S, .ref ga, res], []⟩) R s := by
  intro n
  induction n with
  | zero =>
    rintro s hl e ⟨gs, hgs, hgo⟩
    refine codeAny_builtin F.entry_extend_loop ?_
    rw [Around.under_plainId F.plain_extend_loop _]
    show wpAny _ A.in1 (pyNext (.ref ga) >>= _) _ _ s
    refine wpAny_bind (next_gx (A := A.in1) hh hroom hl hG e hgs hgo (fun ys x σ H i cp Nx v s1 gs' r hac I st hy at_ kap => ?_) fun ys σ H cp s1 hac I q => ?_)
    · obtain ⟨acc, c, rfl, rv⟩ := hac
      have pS := I.pin (S, lstObj acc c) (List.mem_append_right _ (List.mem_cons_of_mem _ List.mem_cons_self))
      have I0 : Inv (gblk X A' s_0 H_0 cenv fp) [(ga, go)] σ H s1 := I.pins_of fun p hp => I.pin p (List.mem_append_right _ (by rw [List.mem_singleton.mp hp]; exact List.mem_cons_self))
      have I1 := I0.turned (t' := s1.toks) (h' := s1.heap.update S (Obj.mapSeq (·.push v))) (it := S) (fun b o hb q => (Heap.get?_update_other _ _ (Ne.symm hb)).trans q) pS.2.1 pS.2.2.1 (.inr far) hSc (fun p hp => by rw [List.mem_singleton.mp (show p ∈ [(ga, go)] by simpa using hp)]; exact Ne.symm hSa)
      have e2 := Heap.get?_update_self (Obj.mapSeq (·.push v)) pS.1 rfl
      obtain ⟨m, hm, _⟩ := kap (ys ++ [x]) [(ga, go), (S, _)] _ hy.2 ⟨acc.push v, _, rfl, by rw [Array.toList_push]; exact rv.append (.cons r .nil)⟩ (I1.pins_of fun p hp => by
        rcases List.mem_cons.mp hp with z | z
        · rw [z]; exact I1.pin (ga, go) (List.mem_append_right _ List.mem_cons_self)
        · rw [List.mem_singleton.mp z]; exact ⟨e2, pS.2.1, pS.2.2.1, pS.2.2.2.1, fun v q => by cases q⟩) (keep _ _ _ st fun b hb o q => (Heap.get?_update_other _ _ (Ne.symm (hSf b hb))).trans q)
      cases hm
    · obtain ⟨acc, c, rfl, rv⟩ := hac
      exact wpAny_pure (yes σ H ys acc c s1 I rv q)
  | succ n ih =>
    rintro s hl e ⟨gs, hgs, hgo⟩
    refine codeAny_builtin F.entry_extend_loop ?_
    rw [Around.under_plainId F.plain_extend_loop _]
    show wpAny _ A.in1 (pyNext (.ref ga) >>= _) _ _ s
    refine wpAny_bind (next_gx (A := A.in1) hh hroom hl hG e hgs hgo (fun ys x σ H i cp Nx v s1 gs' r hac I st hy at_ kap => ?_) fun ys σ H cp s1 hac I q => ?_)
    · obtain ⟨acc, c, rfl, rv⟩ := hac
      have pS := I.pin (S, lstObj acc c) (List.mem_append_right _ (List.mem_cons_of_mem _ List.mem_cons_self))
      have I0 : Inv (gblk X A' s_0 H_0 cenv fp) [(ga, go)] σ H s1 := I.pins_of fun p hp => I.pin p (List.mem_append_right _ (by rw [List.mem_singleton.mp hp]; exact List.mem_cons_self))
      have I1 := I0.turned (t' := s1.toks) (h' := s1.heap.update S (Obj.mapSeq (·.push v))) (it := S) (fun b o hb q => (Heap.get?_update_other _ _ (Ne.symm hb)).trans q) pS.2.1 pS.2.2.1 (.inr far) hSc (fun p hp => by rw [List.mem_singleton.mp (show p ∈ [(ga, go)] by simpa using hp)]; exact Ne.symm hSa)
      have e2 := Heap.get?_update_self (Obj.mapSeq (·.push v)) pS.1 rfl
      have hln := rv.length
      have hlt : acc.size < sizeLine := by
        have := hy.1
        rw [hln] at this
        simpa using this
      have pG := I1.pin (ga, go) (List.mem_append_right _ List.mem_cons_self)
      show wpAny _ A.in1 (updateSeq S (·.push v) >>= _) _ _ _
      refine wpAny_bind ?_
      refine wpAny_updateSeq pS.1 rfl (wpAny_pure ⟨plainId_quiet F.plain_extend_loop _, ih _ I1.nolimit pG.1 ⟨gs', at_, ?_⟩⟩) (Nat.le_of_lt hlt) (by show (acc.push v).size ≤ sizeLine + 1; rw [Array.size_push]; omega)
      obtain ⟨m, hm, z⟩ := kap (ys ++ [x]) [(ga, go), (S, _)] (({ s1 with heap := s1.heap.update S (Obj.mapSeq (·.push v)) } : Shared).setGen gn .running) hy.2 ⟨acc.push v, _, rfl, by rw [Array.toList_push]; exact rv.append (.cons r .nil)⟩ (inv_moved (I1.pins_of fun p hp => by
        rcases List.mem_cons.mp hp with z | z
        · rw [z]; exact pG
        · rw [List.mem_singleton.mp z]; exact ⟨e2, pS.2.1, pS.2.2.1, pS.2.2.2.1, fun v q => by cases q⟩) rfl (allBare_setGen (s := { s1 with heap := s1.heap.update S (Obj.mapSeq (·.push v)) }) I1.bare rfl) fun _ _ q => q) (keep _ _ _ st fun b hb o q => (Heap.get?_update_other _ _ (Ne.symm (hSf b hb))).trans q)
      cases hm
      exact z
    · obtain ⟨acc, c, rfl, rv⟩ := hac
      exact wpAny_pure (yes σ H ys acc c s1 I rv q)
end
section
variable {X : Cx} {pins : List (Addr × Obj)} {σ : L2.St} {s5 : Shared} {J : It} {g : TG} {tt : TT} {te : TE} {vs : List Nat} {H4 : Hp} {u : Value}
/-- all that a generator hands out, in a list of the asker's own -/
theorem collect_gx {A : Around} {E : Value → Shared → Prop} {Q : List Value → Shared → Prop} {End : List V → Hp → Prop} {W : Nat → Nat → List V → Hp → Prop} {m : Nat} (hh : A.handled = none) (hroom : A.depth < recursionLimit) (G : Gx X pins σ A.in1.in1 J g tt te vs H4 u s5)
    (w0 : W 0 m [] H4) (turn : tGx J g tt te (wipe σ vs) vs End YdL W)
    (hQ : ∀ (s' : Shared) (acc : Array Value) (ys : List V) (H' : Hp), Inv X pins σ H' s' → Vals ys acc.toList → End ys H' → Q acc.toList s') : wpAny (model X.prog X.w) A (collect u) Q E s5 := by
  obtain ⟨A', s_0, H_0, cenv, fp, ga, gn, go, tn, gs, rfl, hGO, hgs, hbare, I5, st5, nf, hlt, keep, back, goes⟩ := G
  have pin5 := I5.pin (ga, go) (List.mem_append_right _ List.mem_cons_self)
  have glt : ga < s5.heap.objs.size := Heap.lt_size pin5.1
  have hSI : s5.heap.objs.size ≠ ga := Nat.ne_of_gt glt
  unfold collect
  refine wpAny_bind (wpAny_runValue (codeAny_builtin F.entry_proto_collect ?_))
  rw [Around.under_plainId F.plain_proto_collect _]
  show wpAny _ A.in1 (newList [] >>= fun l => again (.builtin "list.__iadd__" ⟨[l, .ref ga], []⟩)) _ _ s5
  refine wpAny_bind (wpAny_newObj_type ?_)
  refine wpAny_pure ⟨plainId_quiet F.plain_list_iadd _, codeAny_builtin F.entry_list_iadd ?_⟩
  rw [Around.under_plainId F.plain_list_iadd _]
  show wpAny _ A.in1 (Builtin.List.listExtendWith (.ref s5.heap.objs.size) (.ref ga) (.ref s5.heap.objs.size)) _ _ _
  unfold Builtin.List.listExtendWith
  have k1 : ∀ b o, s5.heap.get? b = some o → (s5.heap.push { cls := .type "list", data := .seq ([] : List Value).toArray }).get? b = some o := fun b o e => Heap.get?_push_of_some _ e
  have hT : Shared.TypeIs { s5 with heap := s5.heap.push { cls := .type "list", data := .seq ([] : List Value).toArray } } (.ref ga) "generator" := Heap.IsGen.typeIs (s := { s5 with heap := _ }) (hGO.isGen (k1 _ _ pin5.1))
  refine wpAny_bind (wpAny_typeOf hT ?_)
  have h1 : Builtin.List.listSameRef (.ref s5.heap.objs.size) (.ref ga) = false := by simp [Builtin.List.listSameRef, hSI]
  have h2 : (Value.type "generator" == Value.type "list") = false := by decide
  have h3 : (Value.type "generator" == Value.type "tuple") = false := by decide
  simp only [h1, h2, h3, Bool.or_false, Bool.false_eq_true, if_false]
  refine wpAny_bind (wpAny_pyIter_gen (s := { s5 with heap := _ }) (hGO.isGen (k1 _ _ pin5.1)) ?_)
  refine wpAny_bind (wpAny_holding ?_)
  unfold Builtin.List.listLengthHint
  refine wpAny_bind (wpAny_specialOf hT F.gen_no_len ?_)
  show wpAny _ A.in1 (specialOf (Value.ref ga) (Str.ofString "__length_hint__") >>= _) _ _ _
  refine wpAny_bind (wpAny_specialOf hT F.gen_no_hint ?_)
  refine wpAny_pure ?_
  show wpAny _ A.in1 (rule "list.extend.makes-room" >>= fun _ => Builtin.List.listTouch (.ref s5.heap.objs.size) >>= fun _ =>
    again (.builtin "list.extend.loop" ⟨[.ref s5.heap.objs.size, .ref ga, .ref s5.heap.objs.size], []⟩)) _ _ _
  refine wpAny_bind (wpAny_rule ?_)
  have hS₁ : (s5.heap.push { cls := .type "list", data := .seq ([] : List Value).toArray }).get? s5.heap.objs.size = some { cls := .type "list", data := .seq ([] : List Value).toArray } := Heap.get?_push_size _ rfl
  refine wpAny_bind ?_
  show wpAny _ A.in1 (updateSeq s5.heap.objs.size (·.push .none) >>= fun _ => updateSeq s5.heap.objs.size (·.pop)) _ _ _
  refine wpAny_bind (wpAny_updateSeq hS₁ rfl ?_)
  have hS₂ := Heap.get?_update_self (Obj.mapSeq (·.push Value.none)) hS₁ rfl
  refine wpAny_updateSeq hS₂ rfl ?_
  have hS₃ := Heap.get?_update_self (Obj.mapSeq (·.pop)) hS₂ rfl
  obtain ⟨c3, hS₄⟩ : ∃ c, (((s5.heap.push { cls := .type "list", data := .seq ([] : List Value).toArray }).update s5.heap.objs.size (Obj.mapSeq (·.push Value.none))).update s5.heap.objs.size (Obj.mapSeq (·.pop))).get? s5.heap.objs.size = some (lstObj #[] c) := ⟨_, hS₃⟩
  have k3 : ∀ b o, s5.heap.get? b = some o → (((s5.heap.push { cls := .type "list", data := .seq ([] : List Value).toArray }).update s5.heap.objs.size (Obj.mapSeq (·.push Value.none))).update s5.heap.objs.size (Obj.mapSeq (·.pop))).get? b = some o :=
    fun b o e => (Heap.get?_update_other _ _ (Ne.symm (Nat.ne_of_lt (Heap.lt_size e)))).trans ((Heap.get?_update_other _ _ (Ne.symm (Nat.ne_of_lt (Heap.lt_size e)))).trans (k1 b o e))
  have fS : FpOk (gblk X A' s_0 H_0 cenv fp) [(ga, go)] H4 s5.heap.objs.size := I5.fpOk (Nat.le_refl _) (I5.hok.fresh (Nat.le_refl _))
  have hfS : ∀ b ∈ fp, b ≠ s5.heap.objs.size := fun b hb => Nat.ne_of_lt (Nat.lt_trans (hlt b hb) glt)
  have I6 := inv_moved (s' := { s5 with heap := ((s5.heap.push { cls := .type "list", data := .seq ([] : List Value).toArray }).update s5.heap.objs.size (Obj.mapSeq (·.push Value.none))).update s5.heap.objs.size (Obj.mapSeq (·.pop)) }) I5 rfl I5.bare k3
  refine wpAny_pure ⟨plainId_quiet F.plain_extend_loop _, ext_gx (A := A) (A' := A') (s_0 := s_0) (H_0 := H_0) (cenv := cenv) (fp := fp) (tn := tn) (go := go) (gn := gn) (End := End) hh hroom hGO hSI ?_ fS.2.2.2.2.1 keep hfS
    (fun σ' H' ys acc c s1 I1 rv q => ?_) (m + 1) _ I6.nolimit (k3 _ _ pin5.1) ⟨gs, hgs, ?_⟩⟩
  · exact Nat.le_trans I5.sz (Nat.le_refl _)
  · show wpAny _ A (load s5.heap.objs.size >>= _) _ _ s1
    have pS := (I1.pin (s5.heap.objs.size, lstObj acc c) (List.mem_append_right _ (List.mem_cons_of_mem _ List.mem_cons_self))).1
    refine wpAny_bind (wpAny_load pS ?_)
    exact wpAny_pure (hQ s1 acc ys H' (back _ _ _ _ I1) rv q)
  · refine goes (List V) (ACl ga go s5.heap.objs.size) End YdL W m (m + 1) [] [(ga, go), (s5.heap.objs.size, lstObj #[] c3)] _ turn w0 (Nat.lt_succ_self _) (fun ys cp hac p hp b hb z => ?_) ⟨#[], c3, rfl, .nil⟩
      (inv_moved (I6.pins_of fun p hp => ?_) rfl (allBare_setGen (s := { s5 with heap := _ }) I5.bare rfl) fun _ _ q => q) (keep _ _ _ st5 fun b hb o q => k3 b o q)
    · obtain ⟨acc, c, rfl, _⟩ := hac
      rcases List.mem_cons.mp hp with e | e
      · rw [e] at z
        exact absurd (hlt b hb) (by rw [← z]; exact Nat.lt_irrefl _)
      · rw [List.mem_singleton.mp e] at z
        exact hfS b hb z.symm
    · rcases List.mem_cons.mp hp with e | e
      · rw [e]
        exact I6.pin (ga, go) (List.mem_append_right _ List.mem_cons_self)
      · rw [List.mem_singleton.mp e]
        exact ⟨hS₄, fS.1, fS.2.1, fS.2.2.1, fun v q => by cases q⟩
end
section
variable {X : Cx}
/-- tuple(elt for tg in iter ..) -/
def tTupX (P : Addr) (wi : TI) (g : TG) (tt : TT) (te : TE) (vs : List Nat) : TE := fun σ H Q => wi σ H fun J H1 => GxR.TabG H1 P ∧ ∀ H2, GxR.Tabbed P H1 H2 → ∃ W : Nat → Nat → List V → Hp → Prop, (∃ m, W 0 m [] H2) ∧
  tGx J g tt te (wipe σ vs) vs (fun ys H => ys.length ≤ sizeLine ∧ ∀ p, H p = none → Q (.ref p) (upd H p (.tup ys))) YdL W
theorem pe_tupX {c P : Addr} {elt tg iter : Expr} {ifs : List Expr} {p pos gpos : Pos} {scope : Scope} {own : List (Str × Nat)} {wi : TI} {g : TG} {tt : TT} {te : TE} {k : Nat}
    (hr : Room (k + 1) X.A) (hc : X.calm = true) (hN : X.N.Nodup) (hgl : Gl X "tuple") (hm : X.mg "tuple" = none) (hb : bootBuiltins "tuple" = some (.type "tuple")) (TB : GxR.TabB X.base X.mg c P) (hcode : X.env.code = .ref c)
    (hco : scope.isCoroutine = false) (hdot : scope.names.lookup (".0" : Str) = some NameKind.local) (nocell : ∀ y ∈ scope.names, y.2 ≠ .cell) (ok : BlkOk X.N X.env.scope scope own) (hi : PI X tg iter wi)
    (hg : ∀ (A' : Around) (s : Shared) (H : Hp) (C : Addr) (cl : List (Str × Addr)) (code : Value) (fp : List Addr), Room k A' → A'.guards = X.A.guards → PG (gblk X A' s H (genEnv scope cl C code builtinsNs X.env) fp) tg g)
    (ht : ∀ (A' : Around) (s : Shared) (H : Hp) (C : Addr) (cl : List (Str × Addr)) (code : Value) (fp : List Addr), Room k A' → A'.guards = X.A.guards → PTs (gblk X A' s H (genEnv scope cl C code builtinsNs X.env) fp) ifs tt)
    (he : ∀ (A' : Around) (s : Shared) (H : Hp) (C : Addr) (cl : List (Str × Addr)) (code : Value) (fp : List Addr), Room k A' → A'.guards = X.A.guards → PE (gblk X A' s H (genEnv scope cl C code builtinsNs X.env) fp) elt te)
    (hs : ∀ v, genFold iter X.env v = pure v)
    (hst : starEach [.GeneratorExp elt [⟨tg, iter, ifs, 0⟩] scope gpos] X.env = (false, eval (.GeneratorExp elt [⟨tg, iter, ifs, 0⟩] scope gpos) X.env) :: starEach [] X.env := by rfl) :
    PE X (.Call (.Name "tuple" p) [.GeneratorExp elt [⟨tg, iter, ifs, 0⟩] scope gpos] [] pos) (tTupX P wi g tt te (own.map (·.2))) := by
  refine ⟨fun pins s σ H Q I h => ?_⟩
  refine wpAny_Call_Name_kw (ld_blt I hgl hm hb ?_)
  refine PyProof.Rows.callWith_type1 ?_ hst (by rfl)
  rw [hst]
  show wpAny _ _ (spliced ((false, eval (.GeneratorExp elt [⟨tg, iter, ifs, 0⟩] scope gpos) X.env) :: backTo pos (starEach [] X.env))) _ _ s
  refine Calls.spliced_cons (gx_make (A := X.A.in1.in1.in1.in1) hr ⟨rfl, rfl, rfl, rfl, (by show X.A.units + 1 + 1 + 1 + 1 ≤ _; omega)⟩ hc hN TB hcode hco hdot nocell ok hi hg ht he hs I h fun J H1 H2 u s5 hR hT hG => ?_)
  obtain ⟨W, ⟨m, w0⟩, turn⟩ := hR H2 hT
  refine Calls.spliced_nil ?_
  have ⟨A', s_0, H_0, cenv, fp, ga, gn, go, tn, gs, eu, hGO, hgs, hbare, I5, st5, nf, hlt, keep, back, goes⟩ := hG
  have pin5 := (I5.pin (ga, go) (List.mem_append_right _ List.mem_cons_self)).1
  rw [eu] at hG ⊢
  refine callType_codes (Q₁ := fun obj s₁ => s₁.TypeIs obj "tuple" ∧ EP X pins σ Q obj s₁) F.called_tuple (F.typeCall_tuple_1 _) F.entry_object_init ?_ fun obj s₁ h₁ =>
    ⟨h₁.1, F.args_object_init_2 obj _, object_init_meets F.called_tuple.init.lookup F.called_tuple.made (by decide) X.prog X.w X.A.in1 _ s₁ ⟨h₁.1, rfl, h₁.2⟩⟩
  refine codeAny_of_tree ?_
  show wpAny _ X.A.in1.in1 (do checkBuiltinCall "tuple.__new__" ⟨[.type "tuple", .ref ga], []⟩; again (.builtin "tuple.__new__" ⟨[.type "tuple", .ref ga], []⟩)) _ _ s5
  refine wpAny_bind (wpAny_of_eq (F.newCall_tuple_1 _) (wpAny_pure ⟨plainId_quiet F.plain_tuple_new _, codeAny_builtin F.entry_tuple_new ?_⟩))
  rw [Around.under_plainId F.plain_tuple_new _]
  have hsub := sub_tuple_self
  have hinit := init_tuple_lookup
  have hmh := madeHere_tuple
  have hTI : s5.TypeIs (.ref ga) "generator" := (hGO.isGen pin5).typeIs
  have col : ∀ {Q0 : List Value → Shared → Prop} {E0 : Value → Shared → Prop}, (∀ (s' : Shared) (acc : Array Value), (∃ (ys : List V) (H' : Hp), Inv X pins σ H' s' ∧ Vals ys acc.toList ∧ ys.length ≤ sizeLine ∧ ∀ p, H' p = none → Q (.ref p) (upd H' p (.tup ys))) → Q0 acc.toList s') →
      wpAny (model X.prog X.w) X.A.in1.in1 (collect (.ref ga)) Q0 E0 s5 := fun hq => collect_gx hr.hd hr.depth hG w0 turn (fun s' acc ys H' I' rv q => hq s' acc ⟨ys, H', I', rv, q.1, q.2⟩)
  wp_walk using wpAny_typeOf hTI, col
  rintro s' acc ⟨ys, H', I', rv, small, q⟩
  show wpAny _ _ (Builtin.Tuple.tupleExact acc.toList.toArray >>= fun v => ret v) _ _ _
  unfold Builtin.Tuple.tupleExact
  refine wpAny_bind (wpAny_newObj_type ?_ (by show acc.toList.toArray.size ≤ sizeLine; rw [List.size_toArray, ← rv.length]; exact small))
  refine wpAny_pure ?_
  have free : H' s'.heap.objs.size = none := I'.hok.fresh (Nat.le_refl _)
  refine ⟨⟨_, Heap.get?_push_size _ rfl, rfl⟩, .ref s'.heap.objs.size, upd H' s'.heap.objs.size (.tup ys), I'.laid (t' := s'.toks) (fun b u z => Heap.get?_push_of_some _ z) (Nat.le_refl _) ⟨small, acc.toList, rv, ?_⟩, rfl, q _ free⟩
  exact ⟨_, Heap.get?_push_size _ rfl, rfl, 0, rfl⟩
end
/-! ### a def by its body, its code object known -/
theorem okC {P : Program} {w : World} {K : PySem.W.Frag} {mg : Str → Option Value} {base : Heap} {x qual : Str} {st : Stmt} {f : Addr} {fd : FuncData} {N ps : List Str} {k : Nat} {sp : Sp} (F : Fun K x qual st f fd) (S : FnScope N ps (defScope st)) (len : ∀ vs H Q E, sp vs H Q E → vs.length = ps.length)
    (body : ∀ (A : Around) (outer : List Env) (s : Shared) (H : Hp) (vs : List V) (Q : VK) (E : XK), Room k (A.deeper (envOfC qual (defScope st) s.heap.objs.size f fd.code)) → sp vs H Q E →
      ∃ t, PSs (cxOf CX0 P w K mg base N qual (defScope st) f fd.code A outer s H E).nox (defBody st) t ∧ t { nx := fun _ H' => Q .non H', rt := Q } (start N vs) H) : FnOk P w K mg base CX0 (k + 1) f fd ps sp := by
  obtain ⟨oc, od, kV, doc, pm, an, cdv, ct, osl, rfl, lk, hcd⟩ := F.ex
  refine fn_of lk hcd S len fun A outer s H vs Q E hr hsp => ?_
  obtain ⟨t, h, q⟩ := body A outer s H vs Q E hr hsp
  exact ⟨t, h.nox, q⟩
/-! ### from the head's facts -/
theorem fun_of {K : PySem.W.Frag} {x qual : Str} {st : Stmt} {f : Addr} {fd : FuncData} (F : FunD K x qual (defArgs st) (defBody st) (defScope st) [] [] f fd) : Fun K x qual st f fd := by
  obtain ⟨oc, od, dV, kV, doc, pm, an, cdv, ct, osl, rfl, lk, hcd, hd, _⟩ := F.ex
  rcases hd with ⟨_, rfl⟩ | ⟨z, _⟩
  · exact ⟨⟨oc, od, kV, doc, pm, an, cdv, ct, osl, rfl, lk, hcd⟩, F.kp⟩
  · exact absurd rfl z
theorem code_of {K : PySem.W.Frag} {x qual : Str} {st : Stmt} {p : He.Defn} {fd : FuncData} (F : Fun K x qual st (He.fAd K p) fd) : fd.code = .ref (He.cT K p).1 := by
  obtain ⟨oc, od, kV, doc, pm, an, cdv, ct, osl, rfl, lk, hcd⟩ := F.ex
  obtain ⟨c, rfl⟩ := He.codeIn_ref hcd
  show Value.ref c = Value.ref (He.codeOf K p)
  rw [He.codeOf_eq lk rfl]
theorem tab_of {base : Heap} {mg : Str → Option Value} {c P : Addr} (h : LamX.TabB base mg c P) : GxR.TabB base mg c P := ⟨h.code, h.bm, h.gP⟩
/-! ### heaps whose tables grow -/
def Tabs (H : Hp) (Ps : List Addr) : Prop := ∀ P ∈ Ps, GxR.TabG H P
/-- what is no table stays; tables stay tables -/
def Gr (H H' : Hp) : Prop := (∀ b o, (∀ ps, o ≠ HO.tbl ps) → H b = some o → H' b = some o) ∧ ∀ b, GxR.TabG H b → GxR.TabG H' b
theorem Gr.refl {H : Hp} : Gr H H := ⟨fun _ _ _ e => e, fun _ e => e⟩
theorem Gr.trans {H H1 H2 : Hp} (a : Gr H H1) (b : Gr H1 H2) : Gr H H2 := ⟨fun c o n e => b.1 c o n (a.1 c o n e), fun c e => b.2 c (a.2 c e)⟩
theorem Gr.of {H H' : Hp} (h : ∀ b o, H b = some o → H' b = some o) : Gr H H' := ⟨fun b o _ e => h b o e, fun b ⟨ps, e, t⟩ => ⟨ps, h _ _ e, t⟩⟩
theorem Gr.tab {P : Addr} {H H' : Hp} (t : GxR.TabG H P) (h : GxR.Tabbed P H H') : Gr H H' := by
  obtain ⟨ps, e, _⟩ := t
  refine ⟨fun b o n q => ?_, fun b q => ?_⟩
  · by_cases hb : b = P
    · rw [hb, e] at q
      exact absurd (Option.some.inj q).symm (n ps)
    · rw [h.2 b hb]; exact q
  · by_cases hb : b = P
    · rw [hb]; exact h.1
    · obtain ⟨ps', e', t'⟩ := q
      exact ⟨ps', by rw [h.2 b hb]; exact e', t'⟩
theorem Gr.tup {H H' : Hp} (g : Gr H H') {a : Addr} {xs : List V} (h : H a = some (.tup xs)) : H' a = some (.tup xs) := g.1 a _ (fun _ z => by cases z) h
theorem Gr.lst {H H' : Hp} (g : Gr H H') {a : Addr} {xs : List V} (h : H a = some (.lst xs)) : H' a = some (.lst xs) := g.1 a _ (fun _ z => by cases z) h
theorem Gr.tabs {H H' : Hp} (g : Gr H H') {Ps : List Addr} (h : Tabs H Ps) : Tabs H' Ps := fun P hP => g.2 P (h P hP)
theorem Gr.none {H : Hp} {a : Addr} {o : HO} (n : H a = Option.none) : Gr H (upd H a o) := Gr.of fun b u e => by
  rw [upd_ne (ne_of_none e n)]
  exact e
namespace CwR
/-- behind it a token is out -/
def PEp (X : Cx) (e : Expr) (t : TE) : Prop := ∀ (pins : List (Addr × Obj)) (s : Shared) (σ : L2.St) (H : Hp) (Q : VK), Inv X pins σ H s → t σ H Q → wpAny (model X.prog X.w) X.A (eval e X.env) (fun u s' => 1 ≤ s'.toks ∧ EP X pins σ Q u s') X.xe s
theorem pep_ix {X : Cx} {a : Expr} {i : Int} {j : Nat} {p pos : Pos} {ta : TE} {r : R2} (hr : IxR X r) (ha : PE X a ta) (hs : PlainIx (.Constant (.int i) j p)) : PEp X (.Subscript a (.Constant (.int i) j p) pos) (tOp r ta (tC (.int i))) := by
  intro pins s σ H Q I h
  refine Subscript_ (thn (ha.run pins s σ H _ I h) fun v s1 ⟨x, H1, I1, r1, q1⟩ => wpAny_Constant_int ?_)
  refine wpAny_mono (PySem.wpAny_toks (hr a _ pins { s1 with toks := s1.toks + 1 } σ H1 x (.int i) v (.int i s1.toks) Q (I1.tok _) r1 ⟨_, rfl⟩ q1 (hs _ _))) (fun u s2 q => ⟨?_, q.2⟩) fun _ _ z => z.2
  have h1 : s1.toks + 1 ≤ s2.toks := q.1
  omega
theorem pep_repl {X : Cx} {o : Expr} {to : TE} {y z : Str} {j k : Nat} {c0 c1 apos pos : Pos} (ho : PEp X o to) (hyz : (y == z) = false := by decide)
    (hst : starEach [.Constant (.str y) j c0, .Constant (.str z) k c1] X.env = [(false, eval (.Constant (.str y) j c0) X.env), (false, eval (.Constant (.str z) k c1) X.env)] := by rfl)
    (hbase : attributeBase o "replace" X.env (eval o X.env) = eval o X.env := by rfl) (hline : (apos.endLine == pos.line) = true := by rfl) :
    PEp X (.Call (.Attribute o "replace" apos) [.Constant (.str y) j c0, .Constant (.str z) k c1] [] pos) (CwR.tReplC to y z) := by
  intro pins s σ H Q I h
  refine PySem.Call_method2 hbase hst hline (wpAny_mono (ho pins s σ H _ I h) (fun v s1 q => ?_) fun _ _ z => z)
  obtain ⟨hk, v', H1, I1, r1, x, e1, hb, q⟩ := q
  subst e1
  obtain ⟨tx, e2⟩ := r1
  subst e2
  refine ⟨"str", _, PySem.F.plainAttrs_str, PySem.F.slot_str_replace, PySem.F.type_str_replace, typeIs_str _ _ _, (fun _ e => nomatch e), Calls.callWith_builtin rfl (Calls.evalArgs_plain (Calls.spliced_cons ?_))⟩
  refine Calls.Constant_str (Calls.spliced_cons (Calls.Constant_str (Calls.spliced_nil ?_)))
  refine wpAny_mono (PySem.wpAny_toks (PySem.SC.replace (Q := fun u s' => EP X pins σ Q u s') (by show s1.toks ≠ 0; omega) (by show s1.toks + 1 ≠ 0; omega) (by show s1.toks ≠ s1.toks + 1; omega) hyz hb fun t' k => ⟨.str (Txt.replace x y z), H1, I1.tok k, ⟨t', rfl⟩, q⟩)) (fun u s2 q => ⟨?_, q.2⟩) fun _ _ z => z.2
  have h1 : s1.toks + 1 + 1 ≤ s2.toks := q.1
  omega
theorem pe_replP {X : Cx} {e : Expr} {t : TE} (h : PEp X e t) : PE X e t := ⟨fun pins s σ H Q I q => wpAny_mono (h pins s σ H Q I q) (fun _ _ z => z.2) fun _ _ z => z⟩
end CwR

/-! ### heaps -/
theorem same_upd {H : Hp} {p : Addr} {o : HO} (h : H p = none) : Same H (upd H p o) := fun b x e => by
  rw [upd_ne (ne_of_none e h)]
  exact e
def Fr (d l : Addr) (H H' : Hp) : Prop := ∀ b o, b ≠ d → b ≠ l → H b = some o → H' b = some o
theorem Fr.trans {d l : Addr} {H H1 H2 : Hp} (a : Fr d l H H1) (b : Fr d l H1 H2) : Fr d l H H2 := fun c o h1 h2 h => b c o h1 h2 (a c o h1 h2 h)
theorem Fr.refl {d l : Addr} {H : Hp} : Fr d l H H := fun _ _ _ _ h => h
theorem Fr.new {d l p : Addr} {H : Hp} {o : HO} (h : H p = none) : Fr d l H (upd H p o) := fun b x _ _ e => same_upd h b x e
theorem Fr.of {d l : Addr} {H H' : Hp} (h : Same H H') : Fr d l H H' := fun b x _ _ e => h b x e
theorem Fr.d {d l : Addr} {H : Hp} {o : HO} : Fr d l H (upd H d o) := fun b x h1 _ e => by rw [upd_ne h1]; exact e
theorem Fr.l {d l : Addr} {H : Hp} {o : HO} : Fr d l H (upd H l o) := fun b x _ h2 e => by rw [upd_ne h2]; exact e
def Deck (H : Hp) (d l : Addr) : Prop := d ≠ l ∧ ∃ (cs : List Int) (z : Int), H d = some (.lst [.ref l, .int z]) ∧ H l = some (.lst (cs.map V.int)) ∧ cs.length ≤ 63 ∧ 0 ≤ z ∧ z < 4294967296
theorem Deck.same {H H' : Hp} {d l : Addr} (D : Deck H d l) (s : Same H H') : Deck H' d l := by
  obtain ⟨ne, cs, z, hd, hl, r⟩ := D
  exact ⟨ne, cs, z, s _ _ hd, s _ _ hl, r⟩
theorem Deck.new {H : Hp} {d l p : Addr} {o : HO} (D : Deck H d l) (h : H p = none) : Deck (upd H p o) d l := D.same (same_upd h)
theorem Deck.ne_new {H : Hp} {d l p : Addr} (D : Deck H d l) (h : H p = none) : p ≠ d ∧ p ≠ l := by
  obtain ⟨ne, cs, z, hd, hl, r⟩ := D
  exact ⟨(ne_of_none hd h).symm, (ne_of_none hl h).symm⟩
theorem p29 : (0 : Int) < 2147483629 := by decide
theorem p47 : (0 : Int) < 2147483647 := by decide
theorem p87 : (0 : Int) < 2147483587 := by decide
theorem sl1 : 1 ≤ sizeLine := by decide
theorem sl2 : 2 ≤ sizeLine := by decide
theorem sl3 : 3 ≤ sizeLine := by decide
theorem sl4 : 4 ≤ sizeLine := by decide
theorem seqIx0 {α : Type} (x : α) (xs : List α) : seqIndex? 0 (x :: xs).length = some 0 := by
  refine (ixN_seq (n := (x :: xs).length) (i := 0) (j := 0) ?_).1
  unfold ixN
  rw [if_pos (by decide), if_pos (by rw [List.length_cons]; omega)]
  rfl
theorem dpInts {K : PySem.W.Frag} {H : Hp} : ∀ cs : List Int, DpAll K H (cs.map V.int) (cs.map PyData.int)
  | [] => .nil
  | c :: r => .cons (.int c) (dpInts r)
theorem shInts (ns : List Int) : SeqAt.shaped (.list (ns.map PyData.int)) = true := by
  unfold SeqAt.shaped
  rw [Bool.and_eq_true]
  refine ⟨?_, ?_⟩
  · simp only [PyData.canLay0, canLayAll_ints]
  · simp only [PyData.depth, depthAll_ints]
    decide
theorem at_pick {xs : List V} {j : Int} (h0 : 0 ≤ j) (h1 : j < xs.length) : ∃ x, atI xs j = some x ∧ x ∈ xs := by
  obtain ⟨k, rfl⟩ : ∃ k : Nat, j = (k : Int) := ⟨j.toNat, (Int.toNat_of_nonneg h0).symm⟩
  have hk : k < xs.length := by omega
  exact ⟨xs[k], atI_nat (List.getElem?_eq_getElem hk), List.getElem_mem hk⟩
theorem units65 {k : Nat} {A : Around} (r : Room k A) : A.units + 65 < cLine := by have := r.un; omega
def rLenK (K : PySem.W.Frag) : List V → Hp → VK → Prop := fun xs H Q => ∃ p ys, xs = [.ref p] ∧ (SqL K H p ys ∨ SqT K H p ys) ∧ Q (.int ys.length) H
def rTupK (K : PySem.W.Frag) : List V → Hp → VK → Prop := fun xs H Q => ∃ p ys, xs = [.ref p] ∧ ((SqL K H p ys ∧ ∀ l, H l = none → Q (.ref l) (upd H l (.tup ys))) ∨ (SqT K H p ys ∧ Q (.ref p) H))
def rLstK (K : PySem.W.Frag) : List V → Hp → VK → Prop := fun xs H Q => ∃ p ys, xs = [.ref p] ∧ (SqL K H p ys ∨ SqT K H p ys) ∧ ∀ l, H l = none → Q (.ref l) (upd H l (.lst ys))
/-- joining ways behind a test, behind an expression -/
def tCutT (t : TT) : TT := fun σ H Q => ∃ Mid : Bool → Hp → Prop, t σ H Mid ∧ ∀ b H1, Mid b H1 → Q b H1
theorem pt_cut {X : Cx} {e : Expr} {t : TT} (h : PT X e t) : PT X e (tCutT t) := ⟨fun pins s σ H Q I hw => by
  obtain ⟨Mid, h1, q⟩ := hw
  exact thn (h.run pins s σ H _ I h1) fun c s1 ⟨H1, I1, m⟩ => ⟨H1, I1, q _ _ m⟩⟩
def tCutE (t : TE) : TE := fun σ H Q => ∃ Mid : VK, t σ H Mid ∧ ∀ v H1, Mid v H1 → Q v H1
theorem pe_cut {X : Cx} {e : Expr} {t : TE} (h : PE X e t) : PE X e (tCutE t) := ⟨fun pins s σ H Q I hw => by
  obtain ⟨Mid, h1, q⟩ := hw
  exact thn (h.run pins s σ H _ I h1) fun u s1 ⟨v, H1, I1, r, m⟩ => ⟨v, H1, I1, r, q _ _ m⟩⟩

/-! ### defs called where nothing is being shown (so that repr tells what stands there) -/
structure FnG (P : Program) (w : World) (K : PySem.W.Frag) (mg : Str → Option Value) (bs : Heap) (CX : CXT) (k : Nat) (f : Addr) (fd : FuncData) (ps : List Str) (sp : Sp) : Prop where
  many : ∀ vs H Q E, sp vs H Q E → vs.length = ps.length
  go : ∀ A : Around, A.guards = some [] → Room k A → ∀ (fr : List Env) (s : Shared) (H : Hp) (ar : Args) (us : List Value) (vs : List V) (Q : VK) (E : XK), Env0 P w K mg bs A fr s H → BindsTo s fd ar (ps.zip us) → Vals vs us → sp vs H Q E → codeAny (model P w) A (.call (.ref f) ar) (CR CX fr P w H s Q E) s
theorem FnG.of {P : Program} {w : World} {K : PySem.W.Frag} {mg : Str → Option Value} {bs : Heap} {CX : CXT} {k : Nat} {f : Addr} {fd : FuncData} {ps : List Str} {sp : Sp} (F : FnOk P w K mg bs CX k f fd ps sp) : FnG P w K mg bs CX k f fd ps sp :=
  ⟨F.len, fun A _ room fr s H ar us vs Q E e0 b r h => F.run A fr s H ar us vs Q E room e0 b r h⟩
theorem okG {CX : CXT} {P : Program} {w : World} {K : PySem.W.Frag} {mg : Str → Option Value} {bs : Heap} {x qual : Str} {st : Stmt} {f : Addr} {fd : FuncData} {N ps : List Str} {k : Nat} {sp : Sp} (F : Fun K x qual st f fd) (S : FnScope N ps (defScope st))
    (many : ∀ vs H Q E, sp vs H Q E → vs.length = ps.length)
    (body : ∀ (cdv : Value) (A : Around) (fr : List Env) (s : Shared) (H : Hp) (vs : List V) (Q : VK) (E : XK), A.guards = some [] → Room k (A.deeper (envOfC qual (defScope st) s.heap.objs.size f cdv)) → sp vs H Q E →
      ∃ t, PSs (cxOf CX P w K mg bs N qual (defScope st) f cdv A fr s H E) (defBody st) t ∧ t ⟨fun _ H' => Q .non H', Q, fun _ _ => False, fun _ _ => False⟩ (start N vs) H) : FnG P w K mg bs CX (k + 1) f fd ps sp := by
  obtain ⟨oc, od, kV, doc, pm, an, cdv, ct, osl, rfl, lk, code⟩ := F.ex
  refine ⟨many, fun A nothing room fr s H ar us vs Q E e0 bound rel told => ?_⟩
  have stays : ∀ b o, bs.get? b = some o → s.heap.get? b = some o := fun b o z => (e0.bs b o z).1
  have inK : K.In s.heap := e0.mod.kin.keeps stays
  have places : ∀ y ∈ ps.zip us, (defScope st).names.lookup y.1 = some .local ∨ ((defScope st).names.lookup y.1 = some .cell ∧ ((cellsFrom (s.heap.objs.size + 1) (defScope st).names []).lookup y.1).isSome = true) := by
    rintro ⟨n, v⟩ hy
    exact (S.par n (List.of_mem_zip hy).1).imp id fun c => ⟨c, PySem.W.cellsFrom_some _ _ _ (Or.inl c)⟩
  refine codeAny_call_function room.depth (inK _ _ lk) rfl S.co S.gen rfl (PySem.W.codeRec_of inK code) (bound _ _ _ _
    (wpAny_newFunctionEnv_cells S.kind places fun env he s1 made => ?_))
  subst he
  obtain ⟨t, runs, holds⟩ := body cdv A fr s H vs Q E nothing (room.deeper _) told
  refine ⟨(e0.mod.nolimit.keeps stays).keeps made.toInCall.keep, codeAny_func (wpAny_mono (runs.run [] s1 (start N vs) H _ (inv_start S room.hd e0 (many _ _ _ _ told) rel made) holds) (fun fl s2 z => ?_) fun _ _ z => z)⟩
  match fl, z with
  | .ret _, ⟨v, _, H', J, rv, q⟩ => exact ⟨v, H', J.os, J.bare, J.base, J.hok, rv, q⟩
  | .next, ⟨_, H', J, q⟩ => exact ⟨V.non, H', J.os, J.bare, J.base, J.hok, rfl, q⟩
  | .brk, ⟨_, _, _, q⟩ => exact q.elim
  | .cont, ⟨_, _, _, q⟩ => exact q.elim
theorem okG0 {P : Program} {w : World} {K : PySem.W.Frag} {mg : Str → Option Value} {bs : Heap} {x qual : Str} {st : Stmt} {f : Addr} {fd : FuncData} {N ps : List Str} {k : Nat} {sp : Sp} (F : Fun K x qual st f fd) (S : FnScope N ps (defScope st))
    (many : ∀ vs H Q E, sp vs H Q E → vs.length = ps.length)
    (body : ∀ (cdv : Value) (A : Around) (fr : List Env) (s : Shared) (H : Hp) (vs : List V) (Q : VK) (E : XK), A.guards = some [] → Room k (A.deeper (envOfC qual (defScope st) s.heap.objs.size f cdv)) → sp vs H Q E →
      ∃ t, PSs (cxOf CX0 P w K mg bs N qual (defScope st) f cdv A fr s H E).nox (defBody st) t ∧ t ⟨fun _ H' => Q .non H', Q, fun _ _ => False, fun _ _ => False⟩ (start N vs) H) : FnG P w K mg bs CX0 (k + 1) f fd ps sp :=
  okG F S many fun cdv A fr s H vs Q E g r h => by
    obtain ⟨t, p, q⟩ := body cdv A fr s H vs Q E g r h
    exact ⟨t, p.nox, q⟩
section
variable {X : Cx} {CX : CXT} {k : Nat} {f : Addr} {fd : FuncData} {ps : List Str} {sp : Sp} {ds : List Value} {dvs : List V} {E : XK}
theorem runG {pins : List (Addr × Obj)} {σ : L2.St} {H : Hp} {s : Shared} {Q : VK} {us : List Value} {vs : List V} (F : FnG X.prog X.w X.K X.mg X.base CX k f fd ps sp) (nothing : X.A.guards = some []) (room : Room k X.A) (hb : Binds X.K fd ps ds)
    (hd : Vals dvs ds) (out : Passes CX X E) (I : Inv X pins σ H s) (r : Vals vs us) (told : sp (vs ++ dvs) H Q E) : wpAny (model X.prog X.w) X.A (call (.ref f) us) (EP X pins σ Q) X.xe s := by
  have rel : Vals (vs ++ dvs) (us ++ ds) := r.append hd
  have size : (us ++ ds).length = ps.length := rel.length ▸ F.many _ _ _ _ told
  refine wpAny_call (codeAny_mono (F.go X.A nothing room X.stack s H _ _ _ Q E I.env0 (hb s us I.kIn size) rel told) fun res s2 z => ?_)
  match res, z with
  | .error e, z => exact out pins σ H s e s2 I z
  | .ok (.ret u), z => exact I.after z
  | .ok .next, z => exact z.elim
  | .ok .brk, z => exact z.elim
  | .ok .cont, z => exact z.elim
theorem pe_callG {x : Str} {p pos : Pos} {e : Expr} {es : List Expr} {t : TA} (F : FnG X.prog X.w X.K X.mg X.base CX k f fd ps sp) (nothing : X.A.guards = some []) (room : Room k X.A) (hg : Gl X x) (hm : X.mg x = some (.ref f)) (kp : PySem.W.keepIn X.K (.ref f) = true)
    (hb : Binds X.K fd ps ds) (hd : Vals dvs ds) (out : Passes CX X E) (ha : PA X (e :: es) t) (nd : (x == ("__debug__" : Str)) = false := by decide) (he : starEach (e :: es) X.env = (false, eval e X.env) :: starEach es X.env := by rfl)
    (hpl : (backTo pos (starEach es X.env)).any (·.1) = false := by rfl) : PE X (.Call (.Name x p) (e :: es) [] pos) (tCall sp dvs E t) := by
  refine ⟨fun pins s σ H Q I told => wpAny_Call_Name_kw (ld_glob I hg hm ?_ nd)⟩
  refine PySem.W.callWith_K (h₀ := X.base) I.ok.mod.kin kp (thn (ha.run pos pins s σ H _ I told) ?_) he hpl
  rintro us s1 ⟨vs, H1, J, r, q⟩
  exact ⟨J.kIn, runG F nothing room hb hd out J r q⟩
end
/-! ### what is shown by repr: plain data, whose lists and dicts were made by the law -/
def kD : Key → PyData
  | .inl i => .int i
  | .inr x => .str x
mutual
inductive Sh (H : Hp) : V → PyData → Prop
  | non : Sh H .non .none
  | bl (b : Bool) : Sh H (.bl b) (.bool b)
  | int (i : Int) : Sh H (.int i) (.int i)
  | str (x : Str) : Sh H (.str x) (.str x)
  | lst {a : Addr} {xs : List V} {ds : List PyData} : H a = some (.lst xs) → a ≠ sysModules → ShAll H xs ds → Sh H (.ref a) (.list ds)
  | tup {a : Addr} {xs : List V} {ds : List PyData} : H a = some (.tup xs) → ShAll H xs ds → Sh H (.ref a) (.tuple ds)
  | dic {a : Addr} {kvs : List (Key × V)} {ds : List PyData} : H a = some (.dK kvs) → ShAll H (kvs.map (·.2)) ds → Sh H (.ref a) (.dict ((kvs.map fun kv => kD kv.1).zip ds))
inductive ShAll (H : Hp) : List V → List PyData → Prop
  | nil : ShAll H [] []
  | cons {v : V} {vs : List V} {d : PyData} {ds : List PyData} : Sh H v d → ShAll H vs ds → ShAll H (v :: vs) (d :: ds)
end
theorem ShAll.length {H : Hp} : ∀ {vs : List V} {ds : List PyData}, ShAll H vs ds → vs.length = ds.length
  | _, _, .nil => rfl
  | _, _, .cons _ t => by rw [List.length_cons, List.length_cons, t.length]
mutual
theorem Sh.same {H H' : Hp} (s : Same H H') : ∀ {v : V} {d : PyData}, Sh H v d → Sh H' v d
  | _, _, .non => .non
  | _, _, .bl b => .bl b
  | _, _, .int i => .int i
  | _, _, .str x => .str x
  | _, _, .lst h n t => .lst (s _ _ h) n (t.same s)
  | _, _, .tup h t => .tup (s _ _ h) (t.same s)
  | _, _, .dic h t => .dic (s _ _ h) (t.same s)
theorem ShAll.same {H H' : Hp} (s : Same H H') : ∀ {vs : List V} {ds : List PyData}, ShAll H vs ds → ShAll H' vs ds
  | _, _, .nil => .nil
  | _, _, .cons h t => .cons (h.same s) (t.same s)
end
/-- the name of the class of such data -/
def tyD : PyData → String
  | .none => "NoneType"
  | .bool _ => "bool"
  | .int _ => "int"
  | .str _ => "str"
  | .list _ => "list"
  | .tuple _ => "tuple"
  | .dict _ => "dict"
theorem Sh.ty {K : PySem.W.Frag} {H : Hp} {v : V} {d : PyData} (h : Sh H v d) : TyX K H v (.type (tyD d)) := by
  cases h with
  | non => exact .base .non
  | bl b => exact .base (.bl b)
  | int i => exact .base (.int i)
  | str x => exact .base (.str x)
  | lst h _ _ => exact .base (.lst h)
  | tup h _ => exact .base (.tup h)
  | dic h _ => exact .base (.dK h)
section
variable {X : Cx} {pins : List (Addr × Obj)} {σ : L2.St} {H : Hp} {s : Shared}
theorem pairs_keys {P : Program} {w : World} {h : Heap} : ∀ {es : List DictEntry} {kvs : List (Key × Value)}, Pairs (mixKind P w) es kvs → ReadsAll h (es.map (·.key)) (kvs.map fun kv => kD kv.1) []
  | _, _, .nil => .nil
  | _, _, .cons (kv := kv) hk _ t => by
    have r := pairs_keys (h := h) t
    rcases keyIs_shape (k := kv.1) hk with ⟨i, u, e1, e2⟩ | ⟨x, u, e1, e2⟩
    · rw [List.map_cons, List.map_cons, e1, e2]
      exact ReadsAll.cons (as := []) (.int i u) r
    · rw [List.map_cons, List.map_cons, e1, e2]
      exact ReadsAll.cons (as := []) (.str x u) r
theorem pairs_vals {P : Program} {w : World} : ∀ {es : List DictEntry} {kvs : List (Key × Value)}, Pairs (mixKind P w) es kvs → es.map (·.val) = kvs.map (·.2)
  | _, _, .nil => rfl
  | _, _, .cons _ hv t => by rw [List.map_cons, List.map_cons, hv, pairs_vals t]
theorem kv_rel : ∀ {kvs : List (Key × V)} {vs : List (Key × Value)}, KV kvs vs → kvs.map (·.1) = vs.map (·.1) ∧ Vals (kvs.map (·.2)) (vs.map (·.2))
  | _, _, .nil => ⟨rfl, .nil⟩
  | _, _, .cons h t => by
    obtain ⟨a, b⟩ := kv_rel t
    exact ⟨by rw [List.map_cons, List.map_cons, a, h.1], .cons h.2 b⟩
mutual
theorem Sh.reads (I : Inv X pins σ H s) : ∀ (v : V) (d : PyData) (u : Value), Sh H v d → RelV v u → ∃ as, Reads s.heap u d as ∧ sysModules ∉ as
  | _, _, _, .non, r => by cases r; exact ⟨_, .none, List.not_mem_nil⟩
  | _, _, _, .bl b, r => by cases r; exact ⟨_, .bool b, List.not_mem_nil⟩
  | _, _, _, .int i, r => by obtain ⟨t, rfl⟩ := r; exact ⟨_, .int i t, List.not_mem_nil⟩
  | _, _, _, .str x, r => by obtain ⟨t, rfl⟩ := r; exact ⟨_, .str x t, List.not_mem_nil⟩
  | _, _, _, .lst (a := a) (xs := xs) h n t, r => by
    cases r
    obtain ⟨_, its, c, rv, ho⟩ := (show ObjOk X.prog X.w H s.heap a (.lst xs) from I.hok a _ h)
    obtain ⟨as, q, m⟩ := ShAll.reads I _ _ its t rv
    exact ⟨_, .list ho rfl rfl (by simpa using q), fun z => (List.mem_cons.mp z).elim (fun e => n e.symm) m⟩
  | _, _, _, .tup (a := a) (xs := xs) h t, r => by
    cases r
    obtain ⟨_, its, rv, o, ho, hc, c, hd⟩ := (show ObjOk X.prog X.w H s.heap a (.tup xs) from I.hok a _ h)
    obtain ⟨as, q, m⟩ := ShAll.reads I _ _ its t rv
    exact ⟨_, .tuple ho hc hd (by simpa using q), m⟩
  | _, _, _, .dic (a := a) (kvs := kvs) (ds := ds) h t, r => by
    cases r
    obtain ⟨_, low, vs, rel, o, es, ep, ho, hx, hd, _, hp, _⟩ := (show ObjOk X.prog X.w H s.heap a (.dK kvs) from I.hok a _ h)
    obtain ⟨rk, rv⟩ := kv_rel rel
    obtain ⟨as, q, m⟩ := ShAll.reads I _ _ (vs.map (·.2)) t rv
    have k1 : (kvs.map fun kv => kD kv.1) = vs.map fun kv => kD kv.1 := by
      have := congrArg (List.map kD) rk
      rw [List.map_map, List.map_map] at this
      exact this
    have ln : (kvs.map fun kv => kD kv.1).length = ds.length := by
      have := t.length
      rw [List.length_map] at this
      rw [List.length_map, this]
    refine ⟨_, .dict (as := []) (bs := as) ho hx.1 hd ?_ ?_, ?_⟩
    · rw [List.map_fst_zip (Nat.le_of_eq ln), k1]
      exact pairs_keys hp
    · rw [List.map_snd_zip (Nat.le_of_eq ln.symm), pairs_vals hp]
      exact q
    · intro z
      rcases List.mem_cons.mp z with e | e
      · exact absurd low (by rw [← e]; simp)
      · exact m e
theorem ShAll.reads (I : Inv X pins σ H s) : ∀ (vs : List V) (ds : List PyData) (us : List Value), ShAll H vs ds → Vals vs us → ∃ as, ReadsAll s.heap us ds as ∧ sysModules ∉ as
  | _, _, _, .nil, r => by cases r; exact ⟨_, .nil, List.not_mem_nil⟩
  | _, _, _, .cons h t, r => by
    cases r with
    | cons r1 r2 =>
      obtain ⟨as, q1, m1⟩ := Sh.reads I _ _ _ h r1
      obtain ⟨bs, q2, m2⟩ := ShAll.reads I _ _ _ t r2
      exact ⟨_, .cons q1 q2, fun z => (List.mem_append.mp z).elim m1 m2⟩
end
end
def rRepr : List V → Hp → VK → Prop := fun xs H Q => ∃ x d, xs = [x] ∧ Sh H x d ∧ d.showable = true ∧ d.shown.length ≤ sizeLine ∧ d.depth ≤ 50 ∧ Q (.str d.shown) H
theorem call_repr {X : Cx} (nothing : X.A.guards = some []) (hu : X.A.units + 64 < cLine) : CallR X (.builtin "repr") rRepr := by
  intro pins s σ H xs us Q I r h
  obtain ⟨x, d, rfl, sh, able, fits, deep, q⟩ := h
  cases r with
  | @cons _ u _ _ r1 r2 =>
    cases r2
    obtain ⟨as, rd, low⟩ := Sh.reads I _ _ _ sh r1
    have fin : ∀ h' t tk, (∀ b o, s.heap.get? b = some o → h'.get? b = some o) → EP X pins σ Q (.str d.shown t) { s with heap := h', toks := tk } := fun h' t tk kept => ⟨.str d.shown, H, I.kept kept, ⟨t, rfl⟩, q⟩
    cases sh with
    | non => cases r1; exact PySem.P.repr_of_none (fin _ _ _ fun _ _ z => z)
    | bl b => cases r1; exact PySem.P.repr_of_bool (fin _ _ _ fun _ _ z => z)
    | int i => obtain ⟨t, rfl⟩ := r1; exact PySem.P.repr_of_int (of_decide_eq_true able) (fin _ _ _ fun _ _ z => z)
    | str x => obtain ⟨t, rfl⟩ := r1; exact PySem.P.repr_of_str (fin _ _ _ fun _ _ z => z) fits
    | lst _ _ _ => cases r1; exact repr_of_reads' rd able (fun _ => low) nothing (by omega) (fun _ _ z => z) fin fits
    | tup _ _ => cases r1; exact repr_of_reads' rd able (fun _ => low) nothing (by omega) (fun _ _ z => z) fin fits
    | dic _ _ => cases r1; exact repr_of_reads' rd able (fun _ => low) nothing (by omega) (fun _ _ z => z) fin fits
/-- a display's list is none of the interpreter's own -/
def tLstN (t : TA) : TE := fun σ H Q => t σ H fun xs H1 => xs.length ≤ sizeLine ∧ ∀ p, H1 p = none → p ≠ sysModules → Q (.ref p) (upd H1 p (.lst xs))
theorem pe_lstN {X : Cx} {es : List Expr} {t : TA} {pos : Pos} (h : PA X es t) : PE X (.List es pos) (tLstN t) := by
  refine ⟨fun pins s σ H Q I told => wpAny_List_spliced (thn (h.run pos pins s σ H _ I told) ?_)⟩
  rintro us s1 ⟨xs, H1, J, r, small, q⟩
  have free : H1 s1.heap.objs.size = none := J.hok.fresh (Nat.le_refl _)
  refine ⟨by rw [← r.length]; exact small, .ref s1.heap.objs.size, upd H1 s1.heap.objs.size (.lst xs), J.laid (t' := s1.toks) (fun b u z => Heap.get?_push_of_some _ z) (Nat.le_refl _) ⟨small, us, 0, r, Heap.get?_push_size _ rfl⟩, rfl, q _ free (Nat.ne_of_gt J.big)⟩
/-! ### the end of a law whose defs are called where nothing is being shown -/
theorem law_G {P : Program} {w : World} {K : PySem.W.Frag} {mg mb : Str → Option Value} {CX : CXT} {k : Nat} {fa a : Addr} {fd : FuncData} {x : Str} {sp : Sp} {s : Shared} {vs : List Value} {ns : List Int}
    (inK : K.In s.heap) (gl : s.heap.Ns mainGlobals mg) (bl : s.heap.Ns builtinsNs mb) (boot : ∀ y : Str, y ≠ "__name__" → mb y = bootBuiltins y) (lim : s.heap.NoLimit) (ng : s.gens = #[])
    (at_ : s.heap.get? a = some { cls := .type "list", data := .seq vs.toArray }) (are : IntsAre vs ns) (small : ns.length ≤ sizeLine) (room : Room k callerA)
    (F : ∀ bs : Heap, K.In bs → bs.Ns mainGlobals mg → FnG P w K mg bs CX k fa fd [x] sp) (bound : ∀ (s : Shared) (u : Value), BindsTo s fd ⟨[u], []⟩ [(x, u)])
    (told : ∀ H : Hp, Only H → SqL K H a (ns.map V.int) → sp [.ref a] H (fun v _ => v = .bl true) fun _ _ _ => False)
    (noX : ∀ H e s', CX [] H s (fun _ _ _ => False) e s' → False) :
    codeAny (model P w) callerA (.call (.ref fa) ⟨[.ref a], []⟩) (fun r s' => r = .ok (.ret (.bool true)) ∧ OldK s.heap s'.heap ∧ s'.os = s.os ∧ AllBare s'.gens) s := by
  have main : ∀ H : Hp, Only H → SqL K H a (ns.map V.int) → HOk P w H s.heap → (∀ b, H b ≠ none → b = a) → (H a ≠ none → K.lookup a = none) →
      codeAny (model P w) callerA (.call (.ref fa) ⟨[.ref a], []⟩) (fun r s' => r = .ok (.ret (.bool true)) ∧ OldK s.heap s'.heap ∧ s'.os = s.os ∧ AllBare s'.gens) s := by
    intro H only list ok alone out
    have seen : ∀ {b : Addr} {o : Obj}, s.heap.get? b = some o → H b = none → (hidT s.heap H).get? b = some o := fun z n => hidT_get z n
    have dict : ∀ {b : Addr} {o : Obj} {es : Array DictEntry} {ep : Nat}, s.heap.get? b = some o → o.data = .dict es ep → H b = none := by
      intro b o es ep z dz
      refine Classical.byContradiction fun some_ => ?_
      have eb := alone b some_
      rw [eb, at_] at z
      cases z
      cases (show Data.seq vs.toArray _ = Data.dict es ep from dz)
    have names : ∀ {b : Addr} {m : Str → Option Value}, s.heap.Ns b m → (hidT s.heap H).Ns b m := by
      rintro b m ⟨o, es, ep, z, dz, rest⟩
      exact ⟨o, es, ep, seen z (dict z dz), dz, rest⟩
    have inB : K.In (hidT s.heap H) := by
      intro b o z
      refine seen (inK b o z) (Classical.byContradiction fun some_ => ?_)
      have eb := alone b some_
      subst eb
      rw [out some_] at z
      cases z
    obtain ⟨ml, l1, l2⟩ := lim
    have mod : Mod K mg (hidT s.heap H) := ⟨inB, names gl, ⟨mb, names bl, boot⟩, ⟨ml, names l1, l2⟩⟩
    have env : Env0 P w K mg (hidT s.heap H) callerA [] s H := { frames := rfl, mod := mod, bs := fun b o z => of_hidT z, bsz := Nat.le_of_eq (hidT_size _ _), funs := trivial, frf := (fun b hb => by cases (show b ∈ ([] : List Addr) from hb)), hok := ok, bare := .of_eq ng }
    refine codeAny_mono ((F _ inB (names gl)).go callerA rfl room [] s H _ [.ref a] [.ref a] _ _ env (bound s (.ref a)) (.cons rfl .nil) (told H only list)) fun r s2 z => ?_
    match r, z with
    | .error e, z => exact (noX H e s2 z).elim
    | .ok .next, z => exact z.elim
    | .ok .brk, z => exact z.elim
    | .ok .cont, z => exact z.elim
    | .ok (.ret u), ⟨v, H2, os, bare, un, ok2, rel, q⟩ =>
      cases (show v = V.bl true from q)
      cases (show u = Value.bool true from rel)
      refine ⟨rfl, OldK.of_keep fun b o z => ?_, os, bare⟩
      by_cases hb : H b = none
      · exact un.keep b o z hb (fun m => by cases (show b ∈ ([] : List Addr) from m)) (fun m => by cases m)
      · rcases only b with n | ⟨ob, xs, f⟩
        · exact absurd n hb
        · have o1 := (ok b _ f).1
          have o2 := (ok2 b _ (un.frzs b ob _ f)).1
          rw [z] at o1
          rw [Option.some.inj o1]
          exact o2
  have rel := vals_ints are
  cases hk : K.lookup a with
  | some o =>
    have z := inK a o hk
    rw [at_] at z
    cases z
    exact main (fun _ => none) (fun _ => .inl rfl) (.inr ⟨_, vs.toArray, _, hk, rfl, rfl, rfl, by rw [List.size_toArray, are.length]; exact small, by simpa using rel⟩) (fun b u z => by cases z) (fun b z => absurd rfl z) fun z => absurd rfl z
  | none =>
    have on : ∀ b : Addr, b = a → (if b = a then some (HO.frz { cls := .type "list", data := .seq vs.toArray } (.lst (ns.map V.int))) else none) = some (HO.frz { cls := .type "list", data := .seq vs.toArray } (.lst (ns.map V.int))) := fun b e => if_pos e
    refine main (fun b => if b = a then some (.frz { cls := .type "list", data := .seq vs.toArray } (.lst (ns.map V.int))) else none) (fun b => ?_) (.inl (.inr ⟨_, on a rfl⟩)) (fun b u z => ?_) (fun b z => ?_) fun _ => hk
    · rcases Classical.em (b = a) with e | e
      · exact .inr ⟨_, _, on b e⟩
      · exact .inl (if_neg e)
    · rcases Classical.em (b = a) with e | e
      · have := (on b e).symm.trans z
        cases this
        subst e
        exact ⟨at_, by rw [List.length_map]; exact small, vs, _, rel, at_⟩
      · have := (if_neg e).symm.trans z
        cases this
    · exact Classical.byContradiction fun e => z (if_neg e)
theorem walk_G {l : PySem.W.OpenLaw} {n k : Nat} {q : Program} {loose : List Str} {XP : (Str → Option Value) → Heap → Prop} {YP : World → Heap → Prop} {d : DefRec} {K : Params → PySem.W.Frag} {CX : World → CXT} {sp : World → Sp} {x : Str}
    (most : l.most = some n) (small : n ≤ sizeLine) (nodef : d.params.defaults = []) (room : Room k callerA) (inK : ∀ (w : World) (h : Heap), YP w h → (K w.params).In h)
    (F : ∀ (w : World) (mg : Str → Option Value) (fa : Addr) (h : Heap), (K w.params).In h → h.Ns mainGlobals mg → mg d.name = some (.ref fa) →
      ∃ fd : FuncData, (∀ (s : Shared) (u : Value), BindsTo s fd ⟨[u], []⟩ [(x, u)]) ∧ ∀ bs : Heap, (K w.params).In bs → bs.Ns mainGlobals mg → FnG l.prog w (K w.params) mg bs (CX w) k fa fd [x] (sp w))
    (told : ∀ (w : World) (H : Hp) (a : Addr) (ns : List Int), ns.length ≤ n → Only H → SqL (K w.params) H a (ns.map V.int) → sp w [.ref a] H (fun v _ => v = .bl true) fun _ _ _ => False)
    (noX : ∀ (w : World) (H : Hp) (s : Shared) (e : Value) (s' : Shared), CX w [] H s (fun _ _ _ => False) e s' → False) :
    PySem.W.WalkO q loose XP YP l.row.toRowW d [] (fun f vs => PySem.call f vs) := by
  refine Att.attach_call most nodef fun w s₀ s₁ mg mb fa o pm cd doc a vs ns G Y ho hd hcd hmg hobj hints hlen hg => ?_
  obtain ⟨fd, bound, FG⟩ := F w mg fa _ (inK w _ Y) G.T.g hmg
  exact law_G (inK w _ Y) G.T.g G.T.b G.T.builtins G.T.nolimit hg hobj hints (Nat.le_trans hlen small) room FG bound (fun H only list => told w H a ns hlen only list) fun H e s2 => noX w H s₁ e s2

/-! ### the end of a law whose defs are called where nothing is being shown, with tables of code objects -/
def LawAtG (l : PySem.W.OpenLaw) (w : World) (K : PySem.W.Frag) (CX : CXT) (k n : Nat) (x : Str) (mg : Str → Option Value) (f : Addr) (top : Heap) : Prop :=
  ∃ (fd : FuncData) (ts : List (Addr × Addr)) (sp : Sp), (∀ t ∈ ts, top.get? t.2 = some { cls := .none, data := .fields #[] }) ∧ (∀ t ∈ ts, K.lookup t.2 = none) ∧ (∀ t ∈ ts, PySem.W.CodeHd top t.1 t.2) ∧ (∀ (st : Shared) (v : Value), BindsTo st fd ⟨[v], []⟩ [(x, v)]) ∧
    (∀ (H : Hp) (p : Addr) (zs : List Int), zs.length ≤ n → (∀ z ∈ zs, Builtin.Int.intBits z ≤ 1048576) → (∀ t ∈ ts, H t.2 = some (.tbl #[])) → SqL K H p (zs.map V.int) → sp [.ref p] H (fun v _ => v = .bl true) fun _ _ _ => False) ∧
    ∀ under : Heap, K.In under → under.Ns mainGlobals mg → (∀ t ∈ ts, LamX.TabB under mg t.1 t.2) → FnG l.prog w K mg under CX k f fd [x] sp
theorem law_GT {P : Program} {w : World} {K : PySem.W.Frag} {mg mb : Str → Option Value} {CX : CXT} {k : Nat} {f p : Addr} {ts : List (Addr × Addr)} {fd : FuncData} {x : Str} {sp : Sp} {s : Shared} {us : List Value} {zs : List Int}
    (inK : K.In s.heap) (gl : s.heap.Ns mainGlobals mg) (bl : s.heap.Ns builtinsNs mb) (boot : ∀ y : Str, y ≠ "__name__" → mb y = bootBuiltins y) (lim : s.heap.NoLimit) (ng : s.gens = #[])
    (bare : ∀ t ∈ ts, s.heap.get? t.2 = some { cls := .none, data := .fields #[] }) (out : ∀ t ∈ ts, K.lookup t.2 = none) (code : ∀ t ∈ ts, PySem.W.CodeHd s.heap t.1 t.2)
    (bmod : ∃ (m : Addr) (o : Obj), mg "__builtins__" = some (.ref m) ∧ m ≠ builtinsNs ∧ s.heap.get? m = some o ∧ o.cls = .type "module" ∧ o.dict = some builtinsNs ∧ o.data = .plain)
    (script : s.heap.get? p = some { cls := .type "list", data := .seq us.toArray }) (are : IntsAre us zs) (small : zs.length ≤ sizeLine) (room : Room k callerA)
    (F : ∀ under : Heap, K.In under → under.Ns mainGlobals mg → (∀ t ∈ ts, LamX.TabB under mg t.1 t.2) → FnG P w K mg under CX k f fd [x] sp) (bound : ∀ (st : Shared) (v : Value), BindsTo st fd ⟨[v], []⟩ [(x, v)])
    (told : ∀ H : Hp, (∀ t ∈ ts, H t.2 = some (.tbl #[])) → SqL K H p (zs.map V.int) → sp [.ref p] H (fun v _ => v = .bl true) fun _ _ _ => False)
    (noX : ∀ H e st, CX [] H s (fun _ _ _ => False) e st → False) :
    codeAny (model P w) callerA (.call (.ref f) ⟨[.ref p], []⟩) (fun r st => r = .ok (.ret (.bool true)) ∧ OldK s.heap st.heap ∧ st.os = s.os ∧ AllBare st.gens) s := by
  have tabAt : ∀ c ∈ ts.map Prod.snd, s.heap.get? c = some { cls := .none, data := .fields #[] } := by
    intro c hc
    obtain ⟨t, ht, rfl⟩ := List.mem_map.mp hc
    exact bare t ht
  have inTs : ∀ {t : Addr × Addr}, t ∈ ts → t.2 ∈ ts.map Prod.snd := fun ht => List.mem_map_of_mem ht
  have pNo : ¬ p ∈ ts.map Prod.snd := by
    intro hp
    have both := (tabAt p hp).symm.trans script
    have kinds := congrArg (fun o : Option Obj => o.map Obj.cls) both
    simp at kinds
  have main : ∀ H : Hp, (∀ t ∈ ts, H t.2 = some (.tbl #[])) → (∀ c, H c = none ∨ c ∈ ts.map Prod.snd ∨ ∃ o ys, H c = some (.frz o (.lst ys))) → SqL K H p (zs.map V.int) → HOk P w H s.heap → (∀ c, H c ≠ none → c = p ∨ c ∈ ts.map Prod.snd) → (H p ≠ none → K.lookup p = none) →
      codeAny (model P w) callerA (.call (.ref f) ⟨[.ref p], []⟩) (fun r st => r = .ok (.ret (.bool true)) ∧ OldK s.heap st.heap ∧ st.os = s.os ∧ AllBare st.gens) s := by
    intro H tabs kinds list ok alone off
    have free : ∀ {c : Addr} {o : Obj}, s.heap.get? c = some o → (∀ ys m, ¬ o.data = .seq ys m) → ¬ o.data = .fields #[] → H c = none := by
      intro c o ho n1 n2
      refine Classical.byContradiction fun some_ => ?_
      rcases alone c some_ with rfl | hc
      · cases Option.some.inj (ho.symm.trans script)
        exact n1 _ _ rfl
      · cases Option.some.inj (ho.symm.trans (tabAt c hc))
        exact n2 rfl
    have names : ∀ {c : Addr} {m : Str → Option Value}, s.heap.Ns c m → (hidT s.heap H).Ns c m := by
      rintro c m ⟨o, es, ep, ho, dz, more⟩
      refine ⟨o, es, ep, hidT_get ho (free ho (fun ys j z => ?_) fun z => ?_), dz, more⟩ <;> exact Data.noConfusion (dz.symm.trans z)
    have inB : K.In (hidT s.heap H) := by
      intro c o ho
      refine hidT_get (inK c o ho) (Classical.byContradiction fun some_ => ?_)
      rcases alone c some_ with rfl | hc
      · exact absurd (ho.symm.trans (off some_)) (by simp)
      · obtain ⟨t, ht, rfl⟩ := List.mem_map.mp hc
        exact absurd (ho.symm.trans (out t ht)) (by simp)
    obtain ⟨ml, l1, l2⟩ := lim
    have mod : L2.Mod K mg (hidT s.heap H) := ⟨inB, names gl, ⟨mb, names bl, boot⟩, ⟨ml, names l1, l2⟩⟩
    have tables : ∀ t ∈ ts, LamX.TabB (hidT s.heap H) mg t.1 t.2 := by
      intro t ht
      constructor
      · obtain ⟨o, ys, file, tf, flags, tg, inF, text, tt, c1, c2, c3, c4, c5, c6, c7, c8, c9, c10⟩ := code t ht
        refine ⟨o, ys, file, tf, flags, tg, inF, text, tt, hidT_get c1 (free c1 (fun us j z => Data.noConfusion (c3.symm.trans z)) fun z => ?_), c2, c3, c4, c5, c6, c7, c8, c9, c10⟩
        have z2 := c3.symm.trans z
        cases z2
        simp at c4
      · obtain ⟨m, o, b1, b2, b3, b4, b5, b6⟩ := bmod
        refine ⟨m, o, b1, b2, fun z => ?_, fun z => ?_, hidT_get b3 (free b3 (fun us j z => Data.noConfusion (b6.symm.trans z)) fun z => Data.noConfusion (b6.symm.trans z)), b4, b5, b6⟩
        · obtain ⟨o', es, ep, ho, dz, _⟩ := gl
          subst z
          cases Option.some.inj (b3.symm.trans ho)
          exact Data.noConfusion (b6.symm.trans dz)
        · subst z
          cases Option.some.inj (b3.symm.trans (bare t ht))
          exact Data.noConfusion b6
      · intro z
        obtain ⟨o', es, ep, ho, dz, _⟩ := gl
        rw [z] at ho
        cases Option.some.inj (ho.symm.trans (bare t ht))
        exact Data.noConfusion dz
    have env : Env0 P w K mg (hidT s.heap H) callerA [] s H := { frames := rfl, mod := mod, bs := fun c o z => of_hidT z, bsz := Nat.le_of_eq (hidT_size _ _), funs := trivial, frf := (fun c hc => by cases (show c ∈ ([] : List Addr) from hc)), hok := ok, bare := .of_eq ng }
    refine codeAny_mono ((F _ inB (names gl) tables).go callerA rfl room [] s H _ [.ref p] [.ref p] _ _ env (bound s (.ref p)) (.cons rfl .nil) (told H tabs list)) fun r st z => ?_
    match r, z with
    | .error e, z => exact (noX H e st z).elim
    | .ok .next, z => exact z.elim
    | .ok .brk, z => exact z.elim
    | .ok .cont, z => exact z.elim
    | .ok (.ret u), ⟨v, H2, os, bg, un, ok2, rel, q⟩ =>
      cases (show v = V.bl true from q)
      cases (show u = Value.bool true from rel)
      have old : ∀ c o, ¬ c ∈ ts.map Prod.snd → s.heap.get? c = some o → st.heap.get? c = some o := by
        intro c o nc ho
        by_cases hc : H c = none
        · exact un.keep c o ho hc (fun m => by cases (show c ∈ ([] : List Addr) from m)) (fun m => by cases m)
        · rcases kinds c with n | n | ⟨ob, ys, fz⟩
          · exact absurd n hc
          · exact absurd n nc
          · have o1 := (ok c _ fz).1
            have o2 := (ok2 c _ (un.frzs c ob _ fz)).1
            rw [ho] at o1
            rw [Option.some.inj o1]
            exact o2
      have grown : ∀ c ∈ ts.map Prod.snd, ∃ more : Array Value, st.heap.get? c = some { cls := .none, data := .fields more } := by
        intro c hc
        obtain ⟨t, ht, rfl⟩ := List.mem_map.mp hc
        obtain ⟨more, hm⟩ := un.tbls t.2 #[] (tabs t ht)
        exact ⟨_, ok2 t.2 _ hm⟩
      refine ⟨rfl, ⟨fun c o ho => ?_, fun c o ho => ?_⟩, os, bg⟩
      · by_cases hc : c ∈ ts.map Prod.snd
        · obtain ⟨more, hm⟩ := grown c hc
          obtain ⟨t, ht, rfl⟩ := List.mem_map.mp hc
          cases Option.some.inj (ho.symm.trans (bare t ht))
          exact .inr (.inl ⟨((code t ht).tab (bare t ht)).isCodeTable, rfl, #[], more, rfl, by rw [Array.empty_append]; exact hm⟩)
        · exact .inl (old c o hc ho)
      · by_cases hc : c ∈ ts.map Prod.snd
        · obtain ⟨more, hm⟩ := grown c hc
          exact ⟨_, hm⟩
        · exact ⟨o, old c o hc ho⟩
  have rel := vals_ints are
  let base : Hp := fun c => if c ∈ ts.map Prod.snd then some (.tbl #[]) else none
  have onT : ∀ {c : Addr}, c ∈ ts.map Prod.snd → base c = some (.tbl #[]) := fun hc => if_pos hc
  have offT : ∀ {c : Addr}, ¬ c ∈ ts.map Prod.snd → base c = none := fun hc => if_neg hc
  cases hk : K.lookup p with
  | some o =>
    cases Option.some.inj ((inK p o hk).symm.trans script)
    refine main base (fun t ht => onT (inTs ht)) (fun c => ?_) (.inr ⟨_, us.toArray, _, hk, rfl, rfl, rfl, by rw [List.size_toArray, are.length]; exact small, by simpa using rel⟩) (fun c u z => ?_) (fun c z => ?_) fun z => absurd (offT pNo) z
    · rcases Classical.em (c ∈ ts.map Prod.snd) with hc | hc
      · exact .inr (.inl hc)
      · exact .inl (offT hc)
    · rcases Classical.em (c ∈ ts.map Prod.snd) with hc | hc
      · cases Option.some.inj ((onT hc).symm.trans z)
        exact tabAt c hc
      · exact absurd ((offT hc).symm.trans z) (by simp)
    · exact .inr (Classical.byContradiction fun hc => z (offT hc))
  | none =>
    let frz : HO := .frz { cls := .type "list", data := .seq us.toArray } (.lst (zs.map V.int))
    have onP : (fun c => if c = p then some frz else base c) p = some frz := if_pos rfl
    have offP : ∀ {c : Addr}, ¬ c = p → (fun c => if c = p then some frz else base c) c = base c := fun hc => if_neg hc
    refine main (fun c => if c = p then some frz else base c) (fun t ht => ?_) (fun c => ?_) (.inl (.inr ⟨_, onP⟩)) (fun c u z => ?_) (fun c z => ?_) fun _ => hk
    · refine (offP fun e => pNo ?_).trans (onT (inTs ht))
      rw [← e]
      exact inTs ht
    · rcases Classical.em (c = p) with rfl | e
      · exact .inr (.inr ⟨_, _, onP⟩)
      · rcases Classical.em (c ∈ ts.map Prod.snd) with hc | hc
        · exact .inr (.inl hc)
        · exact .inl ((offP e).trans (offT hc))
    · rcases Classical.em (c = p) with rfl | e
      · cases Option.some.inj (onP.symm.trans z)
        exact ⟨script, by rw [List.length_map]; exact small, us, _, rel, script⟩
      · have z := (offP e).symm.trans z
        rcases Classical.em (c ∈ ts.map Prod.snd) with hc | hc
        · cases Option.some.inj ((onT hc).symm.trans z)
          exact tabAt c hc
        · exact absurd ((offT hc).symm.trans z) (by simp)
    · rcases Classical.em (c = p) with e | e
      · exact .inl e
      · exact .inr (Classical.byContradiction fun hc => z ((offP e).trans (offT hc)))
theorem walk_GT {l : PySem.W.OpenLaw} {n k : Nat} {q : Program} {loose : List Str} {XP : (Str → Option Value) → Heap → Prop} {YP : World → Heap → Prop} {d : DefRec} {CX : World → CXT} {x : Str}
    (most : l.most = some n) (small : n ≤ sizeLine) (nodef : d.params.defaults = []) (room : Room k callerA)
    (F : ∀ (w : World) (mg : Str → Option Value) (f : Addr) (top : Heap), YP w top → top.Ns mainGlobals mg → mg d.name = some (.ref f) → ∃ K : PySem.W.Frag, K.In top ∧ LawAtG l w K (CX w) k n x mg f top)
    (noX : ∀ (w : World) (H : Hp) (s : Shared) (e : Value) (st : Shared), CX w [] H s (fun _ _ _ => False) e st → False) :
    PySem.W.WalkO q loose XP YP l.row.toRowW d [] (fun f vs => PySem.call f vs) := by
  refine Att.attach_callB most nodef fun w s0 s mg mb f o pm cd doc p us zs G Y ho hd hcd named script are few bits ng => ?_
  obtain ⟨K, inK, fd, ts, sp, bare, out, code, bound, told, FG⟩ := F w mg f _ Y G.T.g named
  exact law_GT inK G.T.g G.T.b G.T.builtins G.T.nolimit ng bare out code G.T.bmain script are (Nat.le_trans few small) room FG bound (fun H tabs list => told H p zs few bits tabs list) fun H e st => noX w H s e st

/-! ### data made by the law or the program: numbers, truths, texts, lists and tuples of these -/
mutual
inductive Tk (H : Hp) : V → PyData → Prop
  | bl (b : Bool) : Tk H (.bl b) (.bool b)
  | int (i : Int) : Tk H (.int i) (.int i)
  | str (x : Str) : Tk H (.str x) (.str x)
  | lst {a : Addr} {xs : List V} {ds : List PyData} : H a = some (.lst xs) → TkAll H xs ds → Tk H (.ref a) (.list ds)
  | tup {a : Addr} {xs : List V} {ds : List PyData} : H a = some (.tup xs) → TkAll H xs ds → Tk H (.ref a) (.tuple ds)
inductive TkAll (H : Hp) : List V → List PyData → Prop
  | nil : TkAll H [] []
  | cons {v : V} {vs : List V} {d : PyData} {ds : List PyData} : Tk H v d → TkAll H vs ds → TkAll H (v :: vs) (d :: ds)
end
theorem TkAll.length {H : Hp} : ∀ {vs : List V} {ds : List PyData}, TkAll H vs ds → vs.length = ds.length
  | _, _, .nil => rfl
  | _, _, .cons _ t => by rw [List.length_cons, List.length_cons, t.length]
mutual
theorem Tk.same {H H' : Hp} (s : Same H H') : ∀ {v : V} {d : PyData}, Tk H v d → Tk H' v d
  | _, _, .bl b => .bl b
  | _, _, .int i => .int i
  | _, _, .str x => .str x
  | _, _, .lst h t => .lst (s _ _ h) (t.same s)
  | _, _, .tup h t => .tup (s _ _ h) (t.same s)
theorem TkAll.same {H H' : Hp} (s : Same H H') : ∀ {vs : List V} {ds : List PyData}, TkAll H vs ds → TkAll H' vs ds
  | _, _, .nil => .nil
  | _, _, .cons h t => .cons (h.same s) (t.same s)
end
theorem TkAll.get {H : Hp} : ∀ {xs : List V} {ds : List PyData} {j : Nat} {x : V}, TkAll H xs ds → xs[j]? = some x → ∃ d, ds[j]? = some d ∧ Tk H x d
  | _, _, _, _, .nil, h => by simp at h
  | _, _, 0, _, .cons (d := d) a _, h => by
    cases (Option.some.inj h)
    exact ⟨d, rfl, a⟩
  | _, _, j + 1, _, .cons _ t, h => t.get h
theorem TkAll.append {H : Hp} : ∀ {xs ys : List V} {ds es : List PyData}, TkAll H xs ds → TkAll H ys es → TkAll H (xs ++ ys) (ds ++ es)
  | _, _, _, _, .nil, t => t
  | _, _, _, _, .cons a r, t => .cons a (r.append t)
theorem TkAll.ints {H : Hp} : ∀ ns : List Int, TkAll H (ns.map V.int) (ns.map PyData.int)
  | [] => .nil
  | n :: r => .cons (.int n) (TkAll.ints r)
theorem Tk.int_inv {H : Hp} {v : V} {i : Int} (h : Tk H v (.int i)) : v = .int i := by cases h; rfl
theorem Tk.tup_inv {H : Hp} {v : V} {ds : List PyData} (h : Tk H v (.tuple ds)) : ∃ a xs, v = .ref a ∧ H a = some (.tup xs) ∧ TkAll H xs ds := by
  cases h with
  | tup h t => exact ⟨_, _, rfl, h, t⟩
theorem Tk.lst_inv {H : Hp} {v : V} {ds : List PyData} (h : Tk H v (.list ds)) : ∃ a xs, v = .ref a ∧ H a = some (.lst xs) ∧ TkAll H xs ds := by
  cases h with
  | lst h t => exact ⟨_, _, rfl, h, t⟩
theorem TkAll.int_inv {H : Hp} : ∀ {vs : List V} {ns : List Int}, TkAll H vs (ns.map PyData.int) → vs = ns.map V.int
  | _, [], .nil => rfl
  | _, n :: r, .cons h t => by rw [List.map_cons, h.int_inv, t.int_inv]
/-- heaps without one place -/
def hd1 (p : Addr) (H : Hp) : Hp := fun b => if b = p then none else H b
theorem hd1_le {p : Addr} {H : Hp} : Same (hd1 p H) H := fun b o e => by
  unfold hd1 at e
  by_cases h : b = p
  · rw [if_pos h] at e; cases e
  · rw [if_neg h] at e; exact e
theorem hd1_same {p : Addr} {H H' : Hp} (s : Same H H') : Same (hd1 p H) (hd1 p H') := fun b o e => by
  unfold hd1 at e ⊢
  by_cases h : b = p
  · rw [if_pos h] at e; cases e
  · rw [if_neg h] at e ⊢; exact s _ _ e
theorem hd1_upd {p : Addr} {H : Hp} {o : HO} : Same (hd1 p H) (hd1 p (upd H p o)) := fun b x e => by
  unfold hd1 at e ⊢
  by_cases h : b = p
  · rw [if_pos h] at e; cases e
  · rw [if_neg h] at e ⊢; rw [upd_ne h]; exact e
theorem hd1_at {p b : Addr} {H : Hp} (h : b ≠ p) : hd1 p H b = H b := if_neg h
theorem hd1_of {p : Addr} {H H' : Hp} (s : Same H H') (n : H p = none) : Same H (hd1 p H') := fun b o e => by
  rw [hd1_at (ne_of_none e n)]
  exact s _ _ e
theorem same_of_hd1 {p : Addr} {H H' : Hp} {o : HO} (s : Same H (hd1 p H')) : Same H (upd H' p o) := fun b x e => by
  have z := s b x e
  unfold hd1 at z
  by_cases h : b = p
  · rw [if_pos h] at z; cases z
  · rw [if_neg h] at z; rw [upd_ne h]; exact z

/-! ### tables and gates -/
def tabOf (bs : List Bool) : Str := ⟨(bs.map fun b => if b = true then 49 else 48).toArray⟩
def plc (ws : List Int) : Int := ws.foldl (fun p w => 2 * p + w) 0
def gateM (bs : List Bool) (ws : List Int) : Int := if bs.getD (plc ws).toNat false = true then 1 else 0
theorem plc_snoc (ws : List Int) (w : Int) : plc (ws ++ [w]) = 2 * plc ws + w := by
  unfold plc
  rw [List.foldl_append]
  rfl
theorem plc_take {ws : List Int} {i : Nat} {u : Int} (h : ws[i]? = some u) : plc (ws.take (i + 1)) = 2 * plc (ws.take i) + u := by
  rw [List.take_add_one, h]
  exact plc_snoc _ _
theorem plc_bd : ∀ (n : Nat) (ws : List Int), ws.length = n → (∀ w ∈ ws, w = 0 ∨ w = 1) → 0 ≤ plc ws ∧ plc ws < 2 ^ n := by
  intro n
  induction n with
  | zero =>
    intro ws h _
    cases List.eq_nil_of_length_eq_zero h
    decide
  | succ n ih =>
    intro ws h hw
    have hne : ws ≠ [] := fun z => by rw [z] at h; cases h
    obtain ⟨r, x, rfl⟩ : ∃ r x, ws = r ++ [x] := ⟨ws.dropLast, ws.getLast hne, (List.dropLast_concat_getLast hne).symm⟩
    have hr := ih r (by rw [List.length_append] at h; simpa using h) fun w h' => hw w (List.mem_append_left _ h')
    have hx := hw x (by simp)
    rw [plc_snoc, Int.pow_succ]
    omega
theorem gate01 (bs : List Bool) (ws : List Int) : gateM bs ws = 0 ∨ gateM bs ws = 1 := by
  unfold gateM
  split
  · exact .inr rfl
  · exact .inl rfl
theorem int_sign (b : Bool) : PySem.intText? ⟨#[if b = true then 49 else 48]⟩ = some (if b = true then 1 else 0) := by
  cases b <;> decide +kernel
def spGate (K : PySem.W.Frag) : Sp := fun vs H Q _ => ∃ (bs : List Bool) (la : Addr) (ws : List Int), vs = [.str (tabOf bs), .ref la] ∧ SqL K H la (ws.map V.int) ∧ (∀ w ∈ ws, w = 0 ∨ w = 1) ∧ bs.length = 2 ^ ws.length ∧ ws.length ≤ 3 ∧ Q (.int (gateM bs ws)) H
theorem gate_read {bs : List Bool} {ws : List Int} (hw : ∀ w ∈ ws, w = 0 ∨ w = 1) (hb : bs.length = 2 ^ ws.length) (h3 : ws.length ≤ 3) : ∃ b : Bool, 0 ≤ plc ws ∧ plc ws < 2 ^ 63 ∧ plc ws < (tabOf bs).length ∧ (tabOf bs).cps[(plc ws).toNat]? = some (if b = true then 49 else 48) ∧ gateM bs ws = if b = true then 1 else 0 := by
  obtain ⟨p0, p1⟩ := plc_bd _ ws rfl hw
  have p8 : plc ws < 8 := by
    have : (2 : Int) ^ ws.length ≤ 8 := by
      have : ws.length = 0 ∨ ws.length = 1 ∨ ws.length = 2 ∨ ws.length = 3 := by omega
      rcases this with h | h | h | h <;> rw [h] <;> decide
    omega
  have hlt : (plc ws).toNat < bs.length := by
    have : ((2 ^ ws.length : Nat) : Int) = (2 : Int) ^ ws.length := by simp
    omega
  refine ⟨bs[(plc ws).toNat], p0, by omega, ?_, ?_, ?_⟩
  · have : (tabOf bs).length = bs.length := by simp [tabOf, Str.length]
    rw [this]
    omega
  · simp [tabOf, List.getElem?_eq_getElem hlt]
  · unfold gateM
    rw [List.getD_eq_getElem?_getD, List.getElem?_eq_getElem hlt]
    rfl

/-! ### walks -/
theorem gx_tup {α : Type} {K : PySem.W.Frag} {a : Addr} {xs : List V} {g : TG} {tt : TT} {te : TE} {vs : List Nat} {σ0 : L2.St} {End : α → Hp → Prop} {Yd : α → V → Hp → (α → Hp → Prop) → Prop} {a0 : α} {H0 : Hp} (Pv : Nat → α → Hp → Prop) (h0 : Pv 0 a0 H0)
    (hl : ∀ i c H, i ≤ xs.length → Pv i c H → SqT K H a xs)
    (hs : ∀ i x c H, xs[i]? = some x → Pv i c H → g x σ0 H fun σ2 H2 => wipe σ2 vs = σ0 ∧ tt σ2 H2 fun b H3 => if b = true then te σ2 H3 fun y H4 => Yd c y H4 (Pv (i + 1)) else Pv (i + 1) c H3) (hd : ∀ c H, Pv xs.length c H → End c H) :
    ∃ W : Nat → Nat → α → Hp → Prop, (∃ m, W 0 m a0 H0) ∧ tGx (Itt K a) g tt te σ0 vs End Yd W := by
  refine ⟨fun i m c H => m = xs.length - i ∧ i ≤ xs.length ∧ Pv i c H, ⟨xs.length, rfl, Nat.zero_le _, h0⟩, ?_⟩
  rintro i m c H ⟨rfl, hi, p⟩
  by_cases hlt : i < xs.length
  · have hx : xs[i]? = some xs[i] := List.getElem?_eq_getElem hlt
    refine .inr ⟨⟨xs, xs[i], hl i c H hi p, hx⟩, Pv (i + 1), fun c' H' p' => ⟨xs.length - (i + 1), by omega, rfl, hlt, p'⟩, fun x H' y => ?_⟩
    obtain ⟨rfl, y⟩ := y
    exact hs i x c _ (y xs (hl i c _ hi p)) p
  · have e : i = xs.length := by omega
    subst e
    exact .inl ⟨⟨xs, hl _ c H hi p, Nat.le_refl _⟩, hd c H p⟩
theorem lc_zipT {K : PySem.W.Frag} {a b : Addr} {xs ys : List V} {g : TG} {tt : TT} {te : TE} {vs : List Nat} {σ : L2.St} {H1 : Hp} {D : Addr} {Qd : Hp → Prop} (el : xs.length = ys.length) (Pv : Nat → Hp → Prop) (h0 : Pv 0 (upd H1 D (.lst []))) (hl : ∀ i H, i ≤ xs.length → Pv i H → SqT K H a xs ∧ SqT K H b ys)
    (hs : ∀ i x y T H, xs[i]? = some x → ys[i]? = some y → H T = none → Pv i H → g (.ref T) (wipe σ vs) (upd H T (.tup [x, y])) fun σ2 H2 => wipe σ2 vs = wipe σ vs ∧ tt σ2 H2 fun b H3 =>
      if b = true then te σ2 H3 fun y H4 => ∃ acc, H4 D = some (.lst acc) ∧ acc.length < sizeLine ∧ Pv (i + 1) (upd H4 D (.lst (acc ++ [y]))) else Pv (i + 1) H3) (hd : ∀ H, Pv xs.length H → Qd H) :
    ∃ W : Nat → Nat → Hp → Prop, (∃ m, W 0 m (upd H1 D (.lst []))) ∧ ∀ i m H, W i m H →
      ((RZ.ItzT K a b).stop i H ∧ Qd H) ∨ ((RZ.ItzT K a b).go i H ∧ ∃ Nx : Hp → Prop, (∀ H', Nx H' → ∃ m', m' < m ∧ W (i + 1) m' H') ∧ ∀ x H', (RZ.ItzT K a b).yld i H x H' → g x (wipe σ vs) H' fun σ2 H2 => wipe σ2 vs = wipe σ vs ∧ tt σ2 H2 fun b H3 =>
        if b = true then te σ2 H3 fun y H4 => ∃ acc, H4 D = some (.lst acc) ∧ acc.length < sizeLine ∧ Nx (upd H4 D (.lst (acc ++ [y]))) else Nx H3) := by
  refine ⟨fun i m H => m = xs.length - i ∧ i ≤ xs.length ∧ Pv i H, ⟨xs.length, by simp, Nat.zero_le _, h0⟩, ?_⟩
  rintro i m H ⟨rfl, hi, p⟩
  obtain ⟨qx, qy⟩ := hl i H hi p
  by_cases hlt : i < xs.length
  · have hx : xs[i]? = some xs[i] := List.getElem?_eq_getElem hlt
    have hy : ys[i]? = some (ys[i]'(by omega)) := List.getElem?_eq_getElem _
    refine .inr ⟨⟨xs, ys, _, _, qx, qy, hx, hy⟩, Pv (i + 1), fun H' p' => ⟨xs.length - (i + 1), by omega, rfl, hlt, p'⟩, fun x H' y => ?_⟩
    obtain ⟨T, x1, y1, rfl, nT, rfl, e1, e2⟩ := y
    exact hs i x1 y1 T H (e1 xs qx) (e2 ys qy) nT p
  · have e : i = xs.length := by omega
    subst e
    exact .inl ⟨⟨xs, ys, qx, qy, .inl (Nat.le_refl _)⟩, hd H p⟩

/-! ### enumerate(tuple) -/
theorem draws_tuple {P : Program} {w : World} {A : Around} (hA : A.handled = none) (it a : Addr) (items : Array Value) (hne : a ≠ it) : Draws P w A it [it, a] items.size (fun i v => items[i]? = some v) (fun i h => h.IsTupleIter it a i ∧ h.IsTuple a items) where
  live := fun _ _ st => let ⟨o, ho, _⟩ := st.1; ⟨o, ho⟩
  frame := fun _ _ _ st hk => ⟨st.1.at fun o e => hk it (by simp) o e, by
    obtain ⟨o, ho, r⟩ := st.2
    exact ⟨o, hk a (by simp) o ho, r⟩⟩
  item := fun i s Q E hi st hQ => by
    refine RZ.nextOf_tuple_item st.1 st.2 (x := items[i]) (by simp [hi]) fun h' hit' hs' => ?_
    refine hQ _ h' s.toks (by simp [hi]) ⟨hit', ?_⟩ hs'
    obtain ⟨o, ho, r⟩ := st.2
    exact ⟨o, hs'.extBut a o hne ho, r⟩
  done := fun s Q E st hE => RZ.nextOf_tuple_end hA st.1 st.2 (by simp) hE
open PySem.AutoSeq1 in
set_option maxHeartbeats 1000000 in
theorem meets_enumerate_newT (l : Addr) (items : Array Value) (o : Obj) (hc : o.cls = .type "tuple") (n : Nat) (hd : o.data = .seq items n) :
    Meets (Builtin.«enumerate.__new__» ⟨[.type "enumerate", .ref l], []⟩) (fun _ R s => s.heap.get? l = some o ∧
      R (.ok (.ret (.ref (s.heap.push { cls := .type "tuple_iterator", data := .fields #[.ref l, .int 0 0] }).objs.size)))
        { s with heap := (s.heap.push { cls := .type "tuple_iterator", data := .fields #[.ref l, .int 0 0] }).push { cls := .type "enumerate", data := .fields #[.none, .bool false, .ref s.heap.objs.size, rawInt 0, .none, .none] } }) :=
  .of_wp fun prog w A R s h => by
    obtain ⟨hp, g, d, tk, os⟩ := s; obtain ⟨hl, h⟩ := h
    have hsub := sub_enumerate
    have hL : Heap.IsTuple (Shared.heap ⟨hp, g, d, tk, os⟩) l items := ⟨_, hl, hc, n, hd⟩
    wp_walk using wpAny_loadPart' hl
    refine wpAny_stack_any fun st => wpAny_pure ?_
    split
    · rename_i c _ _ _ _ _
      cases (c == Value.type "enumerate")
      · wp_walk using wpAny_loadPart' hl, wpAny_pyIter_tuple hL
        exact ⟨_, rfl, h⟩
      · wp_walk using wpAny_loadPart' hl, wpAny_pyIter_tuple hL
        exact ⟨_, rfl, h⟩
    · wp_walk using wpAny_loadPart' hl, wpAny_pyIter_tuple hL
      exact ⟨_, rfl, h⟩
theorem call_enumerate_tuple {prog : Program} {w : World} {A : Around} {E : Value → Shared → Prop} {s : Shared} {l : Addr} {items : Array Value} {Q : Value → Shared → Prop} (hL : s.heap.IsTuple l items)
    (h : ∀ h', IsEnum h' (s.heap.objs.size + 1) s.heap.objs.size 0 .none → h'.IsTupleIter s.heap.objs.size l 0 → h'.objs.size = s.heap.objs.size + 2 →
      (∀ b o, s.heap.get? b = some o → h'.get? b = some o) → Q (.ref (s.heap.objs.size + 1)) { s with heap := h' }) :
    wpAny (model prog w) A (call (.type "enumerate") [.ref l]) Q E s := by
  obtain ⟨o, hl, hc, n, hd⟩ := hL
  refine callType_new F.called_enumerate (by decide) (F.typeCall_enumerate_1 _) (F.newCall_enumerate_1 _) (fun obj => F.args_object_init_2 obj _) F.entry_enumerate_new
    (meets_enumerate_newT l items o hc n hd) ⟨hl, ?_⟩
  have hz : (s.heap.push { cls := .type "tuple_iterator", data := .fields #[.ref l, .int 0 0] }).objs.size = s.heap.objs.size + 1 := Heap.size_push ..
  show _ ∧ _
  rw [hz]
  have he : IsEnum ((s.heap.push { cls := .type "tuple_iterator", data := .fields #[.ref l, .int 0 0] }).push
      { cls := .type "enumerate", data := .fields #[.none, .bool false, .ref s.heap.objs.size, rawInt 0, .none, .none] }) (s.heap.objs.size + 1) s.heap.objs.size 0 .none := by
    have := Heap.get?_push_size (s.heap.push { cls := .type "tuple_iterator", data := .fields #[.ref l, .int 0 0] })
      (o := { cls := .type "enumerate", data := .fields #[.none, .bool false, .ref s.heap.objs.size, rawInt 0, .none, .none] }) rfl
    rw [hz] at this; exact this
  refine ⟨⟨_, he, rfl⟩, h _ he ⟨_, Heap.get?_push_of_some _ (Heap.get?_push_size _ rfl), rfl, rfl⟩ (by rw [Heap.size_push, hz]) fun b o x => Heap.get?_push_of_some _ (Heap.get?_push_of_some _ x)⟩
/-- the tuple at a, each item in a new pair -/
def IteT (K : PySem.W.Frag) (a : Addr) : It :=
  ⟨fun i H => ∃ (xs : List V) (x : V), SqT K H a xs ∧ xs[i]? = some x, fun i H v H' => ∃ T x, v = .ref T ∧ H T = none ∧ H' = upd H T (.tup [.int (i : Nat), x]) ∧ ∀ xs, SqT K H a xs → xs[i]? = some x, fun i H => ∃ xs : List V, SqT K H a xs ∧ xs.length = i⟩
theorem turn_enumT {P : Program} {w : World} {K : PySem.W.Frag} {elts : List Expr} {kk : Nat} {tpos : Pos} (a e it : Addr) :
    Turn P w K (.Tuple elts kk tpos) (IteT K a) [e, it] e (fun i h => (∃ old, IsEnum h e it ((i : Nat) : Int) old) ∧ h.IsTupleIter it a i ∧ e ≠ it) where
  mem := by simp
  obj := fun i h st b hb => by
    obtain ⟨⟨old, he⟩, ⟨o, ho, hc, hd⟩, _⟩ := st
    have e' : b = e ∨ b = it := by simpa using hb
    rcases e' with z | z
    · rw [z]; exact ⟨_, he, fun v q => nomatch q⟩
    · rw [z]; exact ⟨o, ho, fun v q => by rw [hd] at q; cases q⟩
  keep := fun i h h' st k => let ⟨⟨old, he⟩, hi, hne⟩ := st; ⟨⟨old, k e (by simp) _ he⟩, hi.at fun o q => k it (by simp) o q, hne⟩
  item := by
    intro X hP hw hK hc i pins s σ H E I hf st hg
    subst hP hw hK
    obtain ⟨⟨old, he⟩, hit, hne⟩ := st
    obtain ⟨xs, x, hq, hx⟩ := hg
    obtain ⟨its, rv, p, hz⟩ := I.tuple hq
    obtain ⟨u, hu, ru⟩ := rv.get hx
    have hel : e < s.heap.objs.size := Heap.lt_size he
    have hil : it < s.heap.objs.size := by obtain ⟨_, q, _⟩ := hit; exact Heap.lt_size q
    have hpt : s.heap.IsTuple a its.toArray := p
    have hai : a ≠ it := fun z => by
      obtain ⟨o1, h1, c1, _⟩ := hpt
      obtain ⟨o2, h2, c2, _⟩ := hit
      rw [z, h2] at h1
      cases h1
      rw [c2] at c1
      exact absurd (Value.type.inj c1) (by decide)
    have hae : e ≠ a := fun z => by
      obtain ⟨o1, h1, c1, _⟩ := hpt
      rw [← z, he] at h1
      cases h1
      exact absurd (Value.type.inj c1) (by decide)
    have hil2 : i < its.toArray.size := by
      rw [List.size_toArray]
      exact (List.getElem?_eq_some_iff.mp hu).1
    refine wpAny_pyNext_enum_itemD (draws_tuple (A := X.A.in1) (I.ok.hd hc) it a its.toArray hai) he ⟨hit, hpt⟩ hil2 hne (by simp only [List.mem_cons, List.not_mem_nil, or_false, not_or]; exact ⟨hne, hae⟩) fun y h' tk hy ho hst hT hsz hk => ?_
    have hyu : y = u := by
      have : its[i]? = some y := by simpa using hy
      rw [hu] at this
      exact (Option.some.inj this).symm
    subst hyu
    have hit' := hst.1
    refine ⟨_, rfl, wpAny_letOwnedTupleGo_enum (s := { s with heap := h', toks := tk + 1 }) ho fun h'' he' sb => ?_⟩
    have hT2 : h''.get? s.heap.objs.size = some { cls := .type "tuple", data := .seq #[.int i tk, y] } := (sb.2 _ (Nat.ne_of_gt hel)).trans hT
    have new : ObjOk X.prog X.w (upd H s.heap.objs.size (.tup [.int (i : Nat), x])) h'' s.heap.objs.size (.tup [.int (i : Nat), x]) :=
      ⟨by show 2 ≤ sizeLine; decide, [.int i tk, y], .cons ⟨_, rfl⟩ (.cons ru .nil), ⟨_, hT2, rfl, _, rfl⟩⟩
    have I1 : Inv X pins σ (upd H s.heap.objs.size (.tup [.int (i : Nat), x])) { s with heap := h'', toks := tk + 1 } :=
      I.turnedNew (ch := [e, it]) (fun b ob hb q => (sb.2 b (fun z => hb (by simp [z]))).trans (hk b ob (fun z => hb (by simp [z])) (fun z => hb (by simp [z])) q)) hf (Nat.le_refl _) new
    refine ⟨.ref s.heap.objs.size, _, I1, rfl, ⟨_, x, rfl, I.hok.fresh (Nat.le_refl _), rfl, fun ys hy => by rw [I.tuple_inj hy hq]; exact hx⟩, ⟨⟨y, ?_⟩, hit'.at fun o q => (sb.2 it (Ne.symm hne)).trans q, hne⟩, fun b hb => ?_⟩
    · have e1 : ((i + 1 : Nat) : Int) = (i : Int) + 1 := by omega
      rw [e1]; exact he'
    · have hb' : b < s.heap.objs.size := by
        have e' : b = e ∨ b = it := by simpa using hb
        rcases e' with z | z
        · rw [z]; exact hel
        · rw [z]; exact hil
      rw [upd_ne (Nat.ne_of_lt hb')]
      exact (hf b hb).1
  done := by
    intro X hP hw hK hc i pins s σ H E I hf st hg
    subst hP hw hK
    obtain ⟨⟨old, he⟩, hit, hne⟩ := st
    obtain ⟨xs, hq, hx⟩ := hg
    obtain ⟨its, rv, p, hz⟩ := I.tuple hq
    obtain ⟨f0, f1, f2, f3, f4, f5⟩ := hf it (by simp)
    have hl := rv.length
    have hpt : s.heap.IsTuple a its.toArray := p
    have hai : a ≠ it := fun z => by
      obtain ⟨o1, h1, c1, _⟩ := hpt
      obtain ⟨o2, h2, c2, _⟩ := hit
      rw [z, h2] at h1
      cases h1
      rw [c2] at c1
      exact absurd (Value.type.inj c1) (by decide)
    have hn : i = its.toArray.size := by rw [List.size_toArray]; omega
    exact wpAny_pyNext_enum_endD (draws_tuple (A := X.A.in1) (I.ok.hd hc) it a its.toArray hai) he (by rw [← hn]; exact ⟨hit, hpt⟩) fun h' eb => ⟨rfl, I.turned (t' := s.toks) (fun b o hb q => eb b o hb q) f0 f1 f3 f4 f5⟩
  self := fun A i s Q E st h => let ⟨⟨_, he⟩, _⟩ := st; wpAny_pyIter_enum he h
def iEnumT (K : PySem.W.Frag) (ta : TA) : TI := fun σ H R => ta σ H fun vs H1 => ∃ a xs, vs = [.ref a] ∧ SqT K H1 a xs ∧ R (IteT K a) H1
theorem pi_enumT {X : Cx} {e : Expr} {ta : TA} {p pos tpos : Pos} {elts : List Expr} {kk : Nat} (hg : Gl X "enumerate") (hm : X.mg "enumerate" = none) (ha : PA X [e] ta) (hs : starEach [e] X.env = [(false, eval e X.env)] := by rfl) :
    PI X (.Tuple elts kk tpos) (.Call (.Name "enumerate" p) [e] [] pos) (iEnumT X.K ta) := by
  refine ⟨fun pins s σ H R I h => ?_⟩
  refine Call_ (ld_blt I hg hm boot_enumerate (PyProof.Rows.callWith_type1 (thn (ha.run pos pins s σ H _ I h) fun us s1 ⟨vs, H1, I1, r1, q1⟩ => ?_) hs rfl))
  obtain ⟨a, xs, ex, hq, q⟩ := q1
  subst ex
  cases r1 with
  | cons r rr =>
    cases rr
    cases r
    obtain ⟨its, rv, p', hz⟩ := I1.tuple hq
    refine call_enumerate_tuple p' fun h' he hit hsz hk => wpAny_pyIter_enum he ?_
    have I2 : Inv X pins σ H1 { s1 with heap := h' } := I1.kept (t' := s1.toks) hk
    refine ⟨s1.heap.objs.size + 1, [s1.heap.objs.size + 1, s1.heap.objs.size], _, _, H1, rfl, I2, turn_enumT a (s1.heap.objs.size + 1) s1.heap.objs.size, ⟨⟨.none, he⟩, hit, Nat.succ_ne_self _⟩, fun b hb => ?_, q⟩
    have e' : b = s1.heap.objs.size + 1 ∨ b = s1.heap.objs.size := by simpa using hb
    have hle : s1.heap.objs.size ≤ b := by
      rcases e' with z | z
      · rw [z]; exact Nat.le_add_right _ _
      · rw [z]; exact Nat.le_refl _
    exact I1.fpOk hle (I1.hok.fresh hle)
theorem gx_enum {α : Type} {K : PySem.W.Frag} {a : Addr} {xs : List V} {g : TG} {tt : TT} {te : TE} {vs : List Nat} {σ0 : L2.St} {End : α → Hp → Prop} {Yd : α → V → Hp → (α → Hp → Prop) → Prop} {a0 : α} {H0 : Hp} (Pv : Nat → α → Hp → Prop) (h0 : Pv 0 a0 H0)
    (hl : ∀ i c H, i ≤ xs.length → Pv i c H → SqT K H a xs)
    (hs : ∀ i x T c H, xs[i]? = some x → H T = none → Pv i c H → g (.ref T) σ0 (upd H T (.tup [.int (i : Nat), x])) fun σ2 H2 => wipe σ2 vs = σ0 ∧ tt σ2 H2 fun b H3 => if b = true then te σ2 H3 fun y H4 => Yd c y H4 (Pv (i + 1)) else Pv (i + 1) c H3) (hd : ∀ c H, Pv xs.length c H → End c H) :
    ∃ W : Nat → Nat → α → Hp → Prop, (∃ m, W 0 m a0 H0) ∧ tGx (IteT K a) g tt te σ0 vs End Yd W := by
  refine ⟨fun i m c H => m = xs.length - i ∧ i ≤ xs.length ∧ Pv i c H, ⟨xs.length, rfl, Nat.zero_le _, h0⟩, ?_⟩
  rintro i m c H ⟨rfl, hi, p⟩
  by_cases hlt : i < xs.length
  · have hx : xs[i]? = some xs[i] := List.getElem?_eq_getElem hlt
    refine .inr ⟨⟨xs, xs[i], hl i c H hi p, hx⟩, Pv (i + 1), fun c' H' p' => ⟨xs.length - (i + 1), by omega, rfl, hlt, p'⟩, fun x H' y => ?_⟩
    obtain ⟨T, x1, rfl, nT, rfl, e1⟩ := y
    exact hs i x1 T c H (e1 xs (hl i c _ hi p)) nT p
  · have e : i = xs.length := by omega
    subst e
    exact .inl ⟨⟨xs, hl _ c H hi p, rfl⟩, hd c H p⟩
theorem gx_str {α : Type} {z : Str} {g : TG} {tt : TT} {te : TE} {vs : List Nat} {σ0 : L2.St} {End : α → Hp → Prop} {Yd : α → V → Hp → (α → Hp → Prop) → Prop} {a0 : α} {H0 : Hp} (Pv : Nat → α → Hp → Prop) (h0 : Pv 0 a0 H0)
    (hs : ∀ i x c H, z.cps[i]? = some x → Pv i c H → g (.str ⟨#[x]⟩) σ0 H fun σ2 H2 => wipe σ2 vs = σ0 ∧ tt σ2 H2 fun b H3 => if b = true then te σ2 H3 fun y H4 => Yd c y H4 (Pv (i + 1)) else Pv (i + 1) c H3) (hd : ∀ c H, Pv z.cps.size c H → End c H) :
    ∃ W : Nat → Nat → α → Hp → Prop, (∃ m, W 0 m a0 H0) ∧ tGx (Its z) g tt te σ0 vs End Yd W := by
  refine ⟨fun i m c H => m = z.cps.size - i ∧ i ≤ z.cps.size ∧ Pv i c H, ⟨z.cps.size, rfl, Nat.zero_le _, h0⟩, ?_⟩
  rintro i m c H ⟨rfl, hi, p⟩
  by_cases hlt : i < z.cps.size
  · refine .inr ⟨hlt, Pv (i + 1), fun c' H' p' => ⟨z.cps.size - (i + 1), by omega, rfl, hlt, p'⟩, fun x H' y => ?_⟩
    obtain ⟨rfl, ch, hc, rfl⟩ := y
    exact hs i ch c _ hc p
  · have e : i = z.cps.size := by omega
    subst e
    exact .inl ⟨Nat.le_refl _, hd c H p⟩

/-! ### nets, and the words of nets -/
abbrev Gt := List Bool × List Nat
def gD (g : Gt) : PyData := .tuple [.str (tabOf g.1), .tuple ((g.2.map Int.ofNat).map PyData.int)]
def netD (many : Int) (gs : List Gt) : PyData := .tuple [.int many, .tuple (gs.map gD)]
def rowD (r : List Int) : PyData := .tuple (r.map PyData.int)
def chD (a b : List Int) : PyData := .tuple [rowD a, rowD b]
def GtOk (n : Nat) (g : Gt) : Prop := g.1.length = 2 ^ g.2.length ∧ 1 ≤ g.2.length ∧ g.2.length ≤ 3 ∧ ∀ i ∈ g.2, i < n
def NetOk (n : Nat) (gs : List Gt) : Prop := ∀ k g, gs[k]? = some g → GtOk (n + k) g
def Row01 (r : List Int) : Prop := ∀ x ∈ r, x = 0 ∨ x = 1
mutual
theorem Tk.gr {H H' : Hp} (s : Gr H H') : ∀ {v : V} {d : PyData}, Tk H v d → Tk H' v d
  | _, _, .bl b => .bl b
  | _, _, .int i => .int i
  | _, _, .str x => .str x
  | _, _, .lst h t => .lst (s.lst h) (t.gr s)
  | _, _, .tup h t => .tup (s.tup h) (t.gr s)
theorem TkAll.gr {H H' : Hp} (s : Gr H H') : ∀ {vs : List V} {ds : List PyData}, TkAll H vs ds → TkAll H' vs ds
  | _, _, .nil => .nil
  | _, _, .cons h t => .cons (h.gr s) (t.gr s)
end
theorem Tk.row_inv {H : Hp} {v : V} {r : List Int} (h : Tk H v (rowD r)) : ∃ a, v = .ref a ∧ H a = some (.tup (r.map V.int)) := by
  obtain ⟨a, xs, rfl, ha, t⟩ := h.tup_inv
  rw [t.int_inv] at ha
  exact ⟨a, rfl, ha⟩
theorem Tk.ch_inv {H : Hp} {v : V} {a b : List Int} (h : Tk H v (chD a b)) : ∃ c ra rb, v = .ref c ∧ H c = some (.tup [.ref ra, .ref rb]) ∧ H ra = some (.tup (a.map V.int)) ∧ H rb = some (.tup (b.map V.int)) := by
  obtain ⟨c, xs, rfl, hc, t⟩ := h.tup_inv
  cases t with
  | cons h1 t => cases t with
    | cons h2 t =>
      cases t
      obtain ⟨ra, rfl, ha⟩ := h1.row_inv
      obtain ⟨rb, rfl, hb⟩ := h2.row_inv
      exact ⟨c, ra, rb, rfl, hc, ha, hb⟩
theorem Tk.net_inv {H : Hp} {v : V} {m : Int} {gs : List Gt} (h : Tk H v (netD m gs)) : ∃ n g xs, v = .ref n ∧ H n = some (.tup [.int m, .ref g]) ∧ H g = some (.tup xs) ∧ TkAll H xs (gs.map gD) := by
  obtain ⟨n, xs, rfl, hn, t⟩ := h.tup_inv
  cases t with
  | cons h1 t => cases t with
    | cons h2 t =>
      cases t
      cases h1
      obtain ⟨g, ys, rfl, hg, t2⟩ := h2.tup_inv
      exact ⟨n, g, ys, rfl, hn, hg, t2⟩
theorem Tk.gt_inv {H : Hp} {v : V} {g : Gt} (h : Tk H v (gD g)) : ∃ a i, v = .ref a ∧ H a = some (.tup [.str (tabOf g.1), .ref i]) ∧ H i = some (.tup ((g.2.map Int.ofNat).map V.int)) := by
  obtain ⟨a, xs, rfl, ha, t⟩ := h.tup_inv
  cases t with
  | cons h1 t => cases t with
    | cons h2 t =>
      cases t
      cases h1
      obtain ⟨i, rfl, hi⟩ := (show Tk H _ (rowD (g.2.map Int.ofNat)) from h2).row_inv
      exact ⟨a, i, rfl, ha, hi⟩
theorem TkAll.at {H : Hp} {α : Type} {f : α → PyData} {xs : List V} {ds : List α} (t : TkAll H xs (ds.map f)) {j : Nat} {v : V} (h : xs[j]? = some v) : ∃ x, ds[j]? = some x ∧ Tk H v (f x) := by
  obtain ⟨dx, hdx, tx⟩ := t.get h
  rw [List.getElem?_map] at hdx
  cases hz : ds[j]? with
  | none => rw [hz] at hdx; cases hdx
  | some x =>
    rw [hz] at hdx
    cases Option.some.inj hdx
    exact ⟨x, rfl, tx⟩
theorem TkAll.at' {H : Hp} {α : Type} {f : α → PyData} {xs : List V} {ds : List α} (t : TkAll H xs (ds.map f)) {j : Nat} {x : α} (h : ds[j]? = some x) : ∃ v, xs[j]? = some v ∧ Tk H v (f x) := by
  have hl := t.length
  rw [List.length_map] at hl
  have hj := (List.getElem?_eq_some_iff.mp h).1
  obtain ⟨y, hy, ty⟩ := t.at (List.getElem?_eq_getElem (l := xs) (i := j) (by omega))
  cases Option.some.inj (h.symm.trans hy)
  exact ⟨_, List.getElem?_eq_getElem _, ty⟩
theorem grow_upd {H H' : Hp} {p : Addr} {o : HO} (g : Gr H H') (n : H' p = none) : Gr H (upd H' p o) := g.trans (Gr.none n)
/-- no table, no older list: only the list at D is written -/
def GrD (D : Addr) (H H' : Hp) : Prop := Gr H (hd1 D H')
theorem GrD.gr {D : Addr} {H H' : Hp} (g : GrD D H H') : Gr H H' := g.trans (Gr.of hd1_le)
theorem TabG_hd1 {D P : Addr} {H : Hp} (h : GxR.TabG H P) (n : D ≠ P) : GxR.TabG (hd1 D H) P := by
  obtain ⟨ps, e, t⟩ := h
  exact ⟨ps, by rw [hd1_at (Ne.symm n)]; exact e, t⟩
theorem GrD.new {D : Addr} {H : Hp} {o : HO} (n : H D = none) : GrD D H (upd H D o) := Gr.of (hd1_of (same_upd n) n)
theorem hd1_gr {D : Addr} {H H' : Hp} (g : Gr H H') (hD : ∀ P, GxR.TabG H P → D ≠ P) : Gr (hd1 D H) (hd1 D H') := by
  refine ⟨fun b o n e => ?_, fun b t => ?_⟩
  · have hb : b ≠ D := fun z => by
      unfold hd1 at e
      rw [if_pos z] at e; cases e
    rw [hd1_at hb] at e ⊢
    exact g.1 b o n e
  · obtain ⟨ps, e, t⟩ := t
    have e' := hd1_le _ _ e
    exact TabG_hd1 (g.2 b ⟨ps, e', t⟩) (hD b ⟨ps, e', t⟩)
theorem GrD.then {D : Addr} {H H1 H2 : Hp} {xs : List V} (a : GrD D H H1) (hD : H1 D = some (.lst xs)) (b : Gr H1 H2) : GrD D H H2 := a.trans (hd1_gr b fun P ⟨ps, e, _⟩ z => by
  rw [← z, hD] at e
  cases e)
theorem GrD.set {D : Addr} {H H1 : Hp} {o : HO} (a : GrD D H H1) : GrD D H (upd H1 D o) := a.trans (Gr.of hd1_upd)

end Gk

set_option Elab.async false
set_option linter.all false
set_option maxRecDepth 100000
set_option maxHeartbeats 1000000
set_option pp.maxSteps 1500
set_option pp.deepTerms false
namespace Gk
open PySem PySem.Spec PyProof.Rows L2
section
variable {P : Program} {w : World} {K : PySem.W.Frag} {mg : Str → Option Value} {base : Heap}
/-! ### data of tuples alone: no list that is written can harm it -/
mutual
def noL : PyData → Bool
  | .list _ => false
  | .tuple ds => noLs ds
  | _ => true
def noLs : List PyData → Bool
  | [] => true
  | d :: r => noL d && noLs r
end
def Ts (H H' : Hp) : Prop := ∀ b xs, H b = some (HO.tup xs) → H' b = some (.tup xs)
theorem Ts.refl {H : Hp} : Ts H H := fun _ _ e => e
theorem Ts.trans {H H1 H2 : Hp} (a : Ts H H1) (b : Ts H1 H2) : Ts H H2 := fun c xs e => b c xs (a c xs e)
theorem Ts.same {H H' : Hp} (s : Same H H') : Ts H H' := fun b xs e => s _ _ e
theorem Ts.gr {H H' : Hp} (s : Gr H H') : Ts H H' := fun b xs e => s.tup e
theorem Ts.new {H : Hp} {p : Addr} {o : HO} (h : H p = none) : Ts H (upd H p o) := Ts.same (same_upd h)
theorem Ts.set {H : Hp} {p : Addr} {xs ys : List V} (h : H p = some (.lst xs)) : Ts H (upd H p (.lst ys)) := fun b zs e => by
  rw [upd_ne (ne_of e h (by intro z; cases z))]
  exact e
mutual
theorem Tk.ts {H H' : Hp} (s : Ts H H') : ∀ {v : V} {d : PyData}, Tk H v d → noL d = true → Tk H' v d
  | _, _, .bl b, _ => .bl b
  | _, _, .int i, _ => .int i
  | _, _, .str x, _ => .str x
  | _, _, .lst h t, n => by cases n
  | _, _, .tup h t, n => .tup (s _ _ h) (t.ts s n)
theorem TkAll.ts {H H' : Hp} (s : Ts H H') : ∀ {vs : List V} {ds : List PyData}, TkAll H vs ds → noLs ds = true → TkAll H' vs ds
  | _, _, .nil, _ => .nil
  | _, _, .cons (d := d) (ds := ds) h t, n => by
    have n' : noL d = true ∧ noLs ds = true := Bool.and_eq_true_iff.mp n
    exact .cons (h.ts s n'.1) (t.ts s n'.2)
end
theorem noLs_map {α : Type} {f : α → PyData} (h : ∀ x, noL (f x) = true) : ∀ l : List α, noLs (l.map f) = true
  | [] => rfl
  | x :: r => by
    show (noL (f x) && noLs (r.map f)) = true
    rw [h x, noLs_map h r]
    rfl
theorem noL_row (r : List Int) : noL (rowD r) = true := noLs_map (fun _ => rfl) r
theorem noL_gate (g : Gt) : noL (gD g) = true := by
  show (true && (noLs ((g.2.map Int.ofNat).map PyData.int) && true)) = true
  rw [noLs_map (fun _ => rfl)]
  rfl
theorem noL_gates (gs : List Gt) : noLs (gs.map gD) = true := noLs_map noL_gate gs
theorem noL_net (m : Int) (gs : List Gt) : noL (netD m gs) = true := by
  show (true && (noLs (gs.map gD) && true)) = true
  rw [noL_gates]
  rfl
theorem noL_ch (a b : List Int) : noL (chD a b) = true := by
  show (noL (rowD a) && (noL (rowD b) && true)) = true
  rw [noL_row, noL_row]
  rfl

/-! ### the deck of k26 to k33: a dict -/
abbrev kC : Key := Sum.inr "cells"
abbrev kA : Key := Sum.inr "at"
abbrev kS : Key := Sum.inr "sum"
def deckKv (l : Addr) (z y : Int) : List (Key × V) := [(kC, .ref l), (kA, .int z), (kS, .int y)]
def DeckE (H : Hp) (d l : Addr) (n : Int) : Prop := d ≠ l ∧ ∃ (cs : List Int) (z y : Int), H d = some (.dK (deckKv l z y)) ∧ H l = some (.lst (cs.map V.int)) ∧ cs.length ≤ 63 ∧ 0 ≤ z ∧ z ≤ n
theorem DeckE.mono {H : Hp} {d l : Addr} {n m : Int} (D : DeckE H d l n) (h : n ≤ m) : DeckE H d l m := by
  obtain ⟨ne, cs, z, y, h1, h2, h3, h4, h5⟩ := D
  exact ⟨ne, cs, z, y, h1, h2, h3, h4, by omega⟩
theorem DeckE.same {H H' : Hp} {d l : Addr} {n : Int} (D : DeckE H d l n) (s : Same H H') : DeckE H' d l n := by
  obtain ⟨ne, cs, z, y, hd, hl, r⟩ := D
  exact ⟨ne, cs, z, y, s _ _ hd, s _ _ hl, r⟩
theorem DeckE.upd {H : Hp} {d l p : Addr} {n : Int} {o : HO} (D : DeckE H d l n) (h1 : p ≠ d) (h2 : p ≠ l) : DeckE (upd H p o) d l n := by
  obtain ⟨ne, cs, z, y, hd, hl, r⟩ := D
  exact ⟨ne, cs, z, y, by rw [upd_ne h1.symm]; exact hd, by rw [upd_ne h2.symm]; exact hl, r⟩
theorem DeckE.off {H : Hp} {d l p : Addr} {n : Int} (D : DeckE H d l n) (h : H p = none) : p ≠ d ∧ p ≠ l := by
  obtain ⟨ne, cs, z, y, hd, hl, r⟩ := D
  exact ⟨(ne_of_none hd h).symm, (ne_of_none hl h).symm⟩
theorem Ts.frE {H H' : Hp} {d l : Addr} {n : Int} (D : DeckE H d l n) (f : Fr d l H H') : Ts H H' := fun b xs e => by
  obtain ⟨ne, cs, z, y, hd, hl, r⟩ := D
  exact f b _ (ne_of e hd (by intro z; cases z)) (ne_of e hl (by intro z; cases z)) e
theorem Fr.upd {d l p : Addr} {H H' : Hp} {o : HO} (f : Fr d l H H') (h : H p = none) : Fr d l H (upd H' p o) := fun b u h1 h2 e => by
  rw [upd_ne (ne_of_none e h)]
  exact f b u h1 h2 e
theorem cut63 {ns : List Int} (h : ns.length ≤ 63) : cutV (ns.map V.int) none (some 63) = ns.map V.int := by
  unfold cutV
  have e : HT.sIx (ns.map V.int).length (ns.map V.int).length (some 63) = min 63 (ns.map V.int).length := HT.sIx_nat _ _ 63
  rw [HT.sIx_none, e, List.length_map, List.drop_zero]
  apply List.take_of_length_le
  rw [List.length_map]
  omega
def sp_deck (K : PySem.W.Frag) : Sp := fun vs H Q _ => ∃ (a : Addr) (ns : List Int), vs = [.ref a] ∧ SqL K H a (ns.map V.int) ∧ ns.length ≤ 63 ∧ ∀ H' d l, Same H H' → DeckE H' d l 0 → Q (.ref d) H'
theorem ok_deck (T : Tx K mg) : FnOk P w K mg base CX0 1 T.f_deck T.fd_deck ["_law_script"] (sp_deck K) := by
  refine T.F_deck.ok sc_deck (fun vs H Q E h => ?_) (fun cdv A outer s H vs Q E hr h => ?_)
  · obtain ⟨a, ns, rfl, _⟩ := h
    rfl
  · obtain ⟨a, ns, rfl, hS, hlen, q⟩ := h
    refine ⟨_, (pss_cons (ps_set (i := 1) sc_deck.nd rfl (by first | exact .inl rfl | exact .inr rfl) (pe_callTy call_list_of (by rfl) T.m_list (by decide +kernel) (pa_cons (pe_slice sl_list (pv 0) po_none (po_some pe_int)) pa_nil))) (pss_one (ps_ret (pe_disp (pps_cons pe_str (pv 1) (pps_cons pe_str pe_int (pps_cons pe_str (pe_op op_add (pe_op op_mod (pe_callB (cr_sum rfl) (by rfl) T.m_sum (by decide +kernel) (pa_cons (pv 1) pa_nil)) pe_int) (pe_callB call_len_seq (by rfl) T.m_len PySem.boot_len (pa_cons (pv 1) pa_nil))) pps_nil))) (by rfl) (by rfl) (fun z => by cases z) (by decide))))), ?_⟩
    refine ⟨.ref a, rfl, 63, rfl, a, _, rfl, hS, fun c1 n1 => ?_⟩
    rw [cut63 hlen]
    have s1 := same_upd (o := HO.lst (ns.map V.int)) n1
    refine ⟨c1, _, rfl, .inl (SqL.of upd_same), fun l nl => ?_⟩
    have s2 := same_upd (o := HO.lst (ns.map V.int)) nl
    have hl := upd_same (H := upd H c1 (.lst (ns.map V.int))) (a := l) (o := .lst (ns.map V.int))
    generalize upd (upd H c1 (.lst (ns.map V.int))) l (.lst (ns.map V.int)) = H2 at s2 hl ⊢
    refine fun d nd => ?_
    have s3 := same_upd (o := HO.dK []) nd
    refine ⟨.ref l, rfl, .ref l, rfl, l, ns, rfl, SqL.of (s3 _ _ hl), _, _, rfl, rfl, p29, .ref l, rfl, l, _, rfl, .inl (SqL.of (s3 _ _ hl)), _, _, rfl, rfl, upd_same, deckKv l 0 (ns.sum % 2147483629 + ((ns.map V.int).length : Nat)), rfl, by show 3 ≤ 15; decide, ?_⟩
    have ne := ne_of_none hl nd
    refine q _ d l ((s1.trans s2).trans fun b o e => ?_) ⟨ne.symm, ns, 0, _, upd_same, ?_, hlen, Int.le_refl _, Int.le_refl _⟩
    · rw [upd_ne (ne_of_none e nd)]
      exact s3 _ _ e
    · rw [upd_ne ne]
      exact s3 _ _ hl
def sp_draw (K : PySem.W.Frag) : Sp := fun vs H Q _ => ∃ (d l : Addr) (m n : Int), vs = [.ref d, .int m] ∧ DeckE H d l n ∧ n < 1000000000 ∧ 0 < m ∧ m < 1073741824 ∧ ∀ H' v, DeckE H' d l (n + 1) → Fr d l H H' → 0 ≤ v → v < m → Q (.int v) H'
theorem ok_draw (T : Tx K mg) : FnOk P w K mg base CX0 1 T.f_draw T.fd_draw ["_law_deck_here", "_law_most"] (sp_draw K) := by
  refine T.F_draw.ok sc_draw (fun vs H Q E h => ?_) (fun cdv A outer s H vs Q E hr h => ?_)
  · obtain ⟨d, l, m, n, rfl, _⟩ := h
    rfl
  · obtain ⟨d, l, m, n, rfl, D, hn, hm0, hm1, q⟩ := h
    obtain ⟨ne, cs, z, y, hd, hl, hcs, hz0, hz1⟩ := D
    refine ⟨_, (pss_cons (ps_dput (hu_of hr) (pv 0) pe_str (pe_op op_add (pe_dget (hu_of hr) (pv 0) pe_str (fun _ _ => rfl)) pe_int) rfl) (pss_cons (ps_set (i := 2) sc_draw.nd rfl (by first | exact .inl rfl | exact .inr rfl) (pe_dget (hu_of hr) (pv 0) pe_str (fun _ _ => rfl))) (pss_cons (ps_set (i := 3) sc_draw.nd rfl (by first | exact .inl rfl | exact .inr rfl) (pe_dget (hu_of hr) (pv 0) pe_str (fun _ _ => rfl))) (pss_cons (ps_set (i := 4) sc_draw.nd rfl (by first | exact .inl rfl | exact .inr rfl) (pe_op op_add (pe_dget (hu_of hr) (pv 0) pe_str (fun _ _ => rfl)) (pv 2))) (pss_cons (ps_if (pt_cmpR (op_neD hr.units) (pv 3) (pe_lst pa_nil) (nomark _)) (pss_cons (ps_set (i := 4) sc_draw.nd rfl (by first | exact .inl rfl | exact .inr rfl) (pe_bm PySem.F.plainAttrs_list PySem.F.slot_list_pop PySem.F.type_list_pop mt_popAt (pv 3) (pa_cons pe_int pa_nil))) (pss_one (ps_if (pt_cmpR op_ge (pv 4) (pe_op op_pow pe_int pe_int) (nomark _)) (pss_cons (ps_expr (pe_bm PySem.F.plainAttrs_list PySem.F.slot_list_insert PySem.F.type_list_insert mt_insert (pv 3) (pa_cons pe_int (pa_cons (pe_op op_fdiv (pv 4) (pv 1)) pa_nil)))) (pss_one (ps_ret (pe_op op_mod (pv 4) (pv 1))))) pss_nil))) pss_nil) (pss_cons (ps_set (i := 5) sc_draw.nd rfl (by first | exact .inl rfl | exact .inr rfl) (pe_op op_mod (pe_op op_add (pe_op op_add (pe_op op_mul (pe_op op_mod (pv 4) pe_int) pe_int) (pe_op op_mul (pe_op op_mul pe_int (pv 2)) (pv 2))) pe_int) pe_int)) (pss_cons (ps_set (i := 5) sc_draw.nd rfl (by first | exact .inl rfl | exact .inr rfl) (pe_op op_mod (pe_op op_mul (pv 5) (pv 5)) pe_int)) (pss_one (ps_ret (pe_op op_mod (pe_op op_fdiv (pe_op op_mod (pe_op op_mul (pv 5) (pe_op op_add (pv 5) pe_int)) pe_int) pe_int) (pv 1))))))))))), ?_⟩
    have gA : ∀ {H : Hp} {z y : Int}, H d = some (.dK (deckKv l z y)) → DGet H d (.str "at") (some (.int z)) := fun {H z y} h => DGet.k (k := kA) h
    have gC : ∀ {H : Hp} {z y : Int}, H d = some (.dK (deckKv l z y)) → DGet H d (.str "cells") (some (.ref l)) := fun {H z y} h => DGet.k (k := kC) h
    have gS : ∀ {H : Hp} {z y : Int}, H d = some (.dK (deckKv l z y)) → DGet H d (.str "sum") (some (.int y)) := fun {H z y} h => DGet.k (k := kS) h
    refine ⟨.ref d, rfl, d, .int z, rfl, gA hd, _, _, rfl, rfl, .ref d, rfl, d, _, rfl, DPut.k (k := kA) hd (by show 3 < sizeLine; decide), ?_⟩
    have hd1 : (upd H d (.dK (deckKv l (z + 1) y))) d = some (.dK (deckKv l (z + 1) y)) := upd_same
    have hl1 : (upd H d (.dK (deckKv l (z + 1) y))) l = some (.lst (cs.map V.int)) := by rw [upd_ne ne.symm]; exact hl
    have fr1 : Fr d l H (upd H d (.dK (deckKv l (z + 1) y))) := Fr.d
    have hz2 : 0 ≤ z + 1 := by omega
    have hz3 : z + 1 ≤ n + 1 := by omega
    have hz4 : z + 1 < 2000000000 := by omega
    show tSeq _ _ _ _ (upd H d (.dK (deckKv l (z + 1) y)))
    generalize upd H d (.dK (deckKv l (z + 1) y)) = H1 at hd1 hl1 fr1 ⊢
    generalize z + 1 = z' at hd1 hz2 hz3 hz4
    refine ⟨.ref d, rfl, d, .int z', rfl, gA hd1, .ref d, rfl, d, .ref l, rfl, gC hd1, .ref d, rfl, d, .int y, rfl, gS hd1, .int z', rfl, _, _, rfl, rfl, ?_⟩
    have tail : ∀ (sd : Int), 0 ≤ (sd % 2147483647 * 48271 + 69621 * z' * z' + 7919) % 2147483629 ∧ (sd % 2147483647 * 48271 + 69621 * z' * z' + 7919) % 2147483629 < 2147483629 := fun sd => ⟨Int.emod_nonneg _ (by decide), Int.emod_lt_of_pos _ (by decide)⟩
    refine ⟨.ref l, rfl, Nat.zero_le _, fun p np => ?_⟩
    have fr2 : Fr d l H (upd H1 p (.lst [])) := fr1.trans (Fr.new np)
    have hd2 := same_upd (o := .lst []) np _ _ hd1
    have hl2 := same_upd (o := .lst []) np _ _ hl1
    refine ⟨.list (cs.map .int), .list [], .lst (SqL.of hl2) (dpInts cs), .lst (SqL.of upd_same) .nil, shInts cs, rfl, _, rfl, ?_⟩
    generalize upd H1 p (.lst []) = H2 at fr2 hd2 hl2 ⊢
    cases cs with
    | nil =>
      refine iteF ?_
      refine ⟨.int _, rfl, _, _, rfl, rfl, p47, _, 48271, rfl, rfl, .inr ⟨by decide, by decide⟩, .int z', rfl, 69621, z', rfl, rfl, .inl ⟨by decide, by decide⟩, .int z', rfl, _, z', rfl, rfl, .inr ⟨by omega, by omega⟩, _, _, rfl, rfl, _, _, rfl, rfl, _, _, rfl, rfl, p29, ?_⟩
      dsimp only
      obtain ⟨u0, u1⟩ := tail (y + z')
      generalize ((y + z') % 2147483647 * 48271 + 69621 * z' * z' + 7919) % 2147483629 = u at u0 u1 ⊢
      refine ⟨.int u, rfl, .int u, rfl, u, u, rfl, rfl, .inl ⟨by omega, by omega⟩, _, _, rfl, rfl, p87, ?_⟩
      dsimp only
      have v0 := Int.emod_nonneg (u * u) (show (2147483587 : Int) ≠ 0 by decide)
      have v1 := Int.emod_lt_of_pos (u * u) (show (0 : Int) < 2147483587 by decide)
      generalize (u * u) % 2147483587 = v at v0 v1 ⊢
      refine ⟨.int v, rfl, .int v, rfl, v, 69621, rfl, rfl, v, _, rfl, rfl, .inl ⟨by omega, by omega⟩, _, _, rfl, rfl, (show (0 : Int) < 2147483563 by decide), _, 8, rfl, rfl, ⟨by decide, by decide⟩, .int m, rfl, _, _, rfl, rfl, hm0, ?_⟩
      exact q _ _ ⟨ne, [], z', y, hd2, hl2, hcs, hz2, hz3⟩ fr2 (Int.emod_nonneg _ (by omega)) (Int.emod_lt_of_pos _ hm0)
    | cons c r =>
      have en : PyData.eqv (.list ((c :: r).map PyData.int)) (.list []) = false := rfl
      rw [en]
      refine iteT ?_
      have hr : r.length + 1 ≤ 63 := hcs
      refine ⟨.ref l, rfl, .inl ⟨rfl, _, SqL.of hl2⟩, l, _, 0, 0, .int c, rfl, rfl, hl2, by decide, by decide, seqIx0 _ _, rfl, ?_⟩
      have hd3 : (upd H2 l (.lst (r.map V.int))) d = some (.dK (deckKv l z' y)) := by rw [upd_ne ne]; exact hd2
      have hl3 : (upd H2 l (.lst (r.map V.int))) l = some (.lst (r.map V.int)) := upd_same
      have fr3 : Fr d l H (upd H2 l (.lst (r.map V.int))) := fr2.trans Fr.l
      show tSeq _ _ _ _ (upd H2 l (.lst (r.map V.int)))
      generalize upd H2 l (.lst (r.map V.int)) = H3 at hd3 hl3 fr3 ⊢
      refine ⟨.int c, rfl, _, _, rfl, rfl, ⟨by decide, by decide, by decide⟩, _, _, rfl, rfl, _, rfl, ite2 (fun _ => ?_) (fun _ => ?_)⟩
      · refine ⟨.ref l, rfl, .inl ⟨rfl, _, SqL.of hl3⟩, .int c, rfl, .int m, rfl, _, _, rfl, rfl, ⟨hm0, hm1⟩, l, _, 0, _, rfl, rfl, hl3, ?_, by decide, by decide, ?_⟩
        · rw [List.length_map]
          exact Nat.lt_of_lt_of_le (show r.length < 64 by omega) (by decide)
        · refine ⟨.int c, rfl, .int m, rfl, _, _, rfl, rfl, hm0, ?_⟩
          refine q _ _ ⟨ne, c / m :: r, z', y, (by rw [upd_ne ne]; exact hd3), ?_, hr, hz2, hz3⟩ (fr3.trans Fr.l) (Int.emod_nonneg _ (by omega)) (Int.emod_lt_of_pos _ hm0)
          rw [upd_same]
          simp
      · refine ⟨.int c, rfl, _, _, rfl, rfl, p47, _, 48271, rfl, rfl, .inr ⟨by decide, by decide⟩, .int z', rfl, 69621, z', rfl, rfl, .inl ⟨by decide, by decide⟩, .int z', rfl, _, z', rfl, rfl, .inr ⟨by omega, by omega⟩, _, _, rfl, rfl, _, _, rfl, rfl, _, _, rfl, rfl, p29, ?_⟩
        dsimp only
        obtain ⟨u0, u1⟩ := tail c
        generalize (c % 2147483647 * 48271 + 69621 * z' * z' + 7919) % 2147483629 = u at u0 u1 ⊢
        refine ⟨.int u, rfl, .int u, rfl, u, u, rfl, rfl, .inl ⟨by omega, by omega⟩, _, _, rfl, rfl, p87, ?_⟩
        dsimp only
        have v0 := Int.emod_nonneg (u * u) (show (2147483587 : Int) ≠ 0 by decide)
        have v1 := Int.emod_lt_of_pos (u * u) (show (0 : Int) < 2147483587 by decide)
        generalize (u * u) % 2147483587 = v at v0 v1 ⊢
        refine ⟨.int v, rfl, .int v, rfl, v, 69621, rfl, rfl, v, _, rfl, rfl, .inl ⟨by omega, by omega⟩, _, _, rfl, rfl, (show (0 : Int) < 2147483563 by decide), _, 8, rfl, rfl, ⟨by decide, by decide⟩, .int m, rfl, _, _, rfl, rfl, hm0, ?_⟩
        exact q _ _ ⟨ne, r, z', y, hd3, hl3, by omega, hz2, hz3⟩ fr3 (Int.emod_nonneg _ (by omega)) (Int.emod_lt_of_pos _ hm0)

end
end Gk

set_option Elab.async false
set_option linter.all false
set_option maxRecDepth 100000
set_option maxHeartbeats 1000000
set_option pp.maxSteps 1500
set_option pp.deepTerms false
namespace Gk
open PySem PySem.Spec PyProof.Rows L2
section
variable {P : Program} {w : World} {K : PySem.W.Frag} {mg : Str → Option Value} {base : Heap}
/-! ### slices and sums of tuples: what is told stands in a heap that has grown -/
theorem cut_all {xs : List V} {lo hi : Option Int} (h : HT.sIx xs.length 0 lo = 0 ∧ HT.sIx xs.length xs.length hi = xs.length) : cutV xs lo hi = xs := by
  unfold cutV
  rw [h.1, h.2, List.drop_zero, Nat.sub_zero, List.take_length]
theorem same_refl {H : Hp} : Same H H := fun _ _ e => e
theorem slA {K : PySem.W.Frag} {a : Addr} {xs : List V} {lo hi : Option Int} {H : Hp} {Q : VK} (h : H a = some (.tup xs)) (q : ∀ p H', Same H H' → H' p = some (.tup (cutV xs lo hi)) → Q (.ref p) H') : rSlA K (.ref a) lo hi H Q :=
  ⟨a, xs, rfl, SqT.of h, fun w => q a H same_refl (by rw [cut_all w]; exact h), fun _ p np => q p _ (same_upd np) upd_same⟩
theorem slAn {K : PySem.W.Frag} {a : Addr} {xs : List V} {lo : Option Int} {H : Hp} {Q : VK} {σ : L2.St} (h : H a = some (.tup xs)) (q : ∀ p H', Same H H' → H' p = some (.tup (cutV xs lo none)) → Q (.ref p) H') : tNoPart σ H (fun u H3 => rSlA K (.ref a) lo u H3 Q) := slA h q
theorem catA {K : PySem.W.Frag} {a b : Addr} {xs ys : List V} {H : Hp} {Q : VK} (ha : H a = some (.tup xs)) (hb : H b = some (.tup ys)) (hl : xs.length + ys.length ≤ sizeLine) (q : ∀ p H', Same H H' → H' p = some (.tup (xs ++ ys)) → Q (.ref p) H') : rCatA K (.ref a) (.ref b) H Q :=
  ⟨a, b, xs, ys, rfl, rfl, SqT.of ha, SqT.of hb, hl, fun e => q b H same_refl (by rw [e]; exact hb), fun _ e => q a H same_refl (by rw [e, List.append_nil]; exact ha), fun _ _ p np => q p _ (same_upd np) upd_same⟩
theorem cut_to {xs : List V} {k : Nat} : cutV xs none (some (k : Int)) = xs.take k := by
  unfold cutV
  rw [HT.sIx_none, HT.sIx_nat, List.drop_zero, Nat.sub_zero]
  apply List.ext_getElem?
  intro i
  rw [List.getElem?_take, List.getElem?_take]
  by_cases h : i < k
  · rw [if_pos h]
    by_cases h2 : i < xs.length
    · rw [if_pos (by omega)]
    · rw [List.getElem?_eq_none (by omega)]
      split <;> rfl
  · rw [if_neg h, if_neg (by omega)]
theorem cut_from {xs : List V} {k : Nat} : cutV xs (some (k : Int)) none = xs.drop k := by
  unfold cutV
  rw [HT.sIx_none, HT.sIx_nat]
  by_cases h : k ≤ xs.length
  · rw [Nat.min_eq_left h]
    exact List.take_of_length_le (by rw [List.length_drop]; exact Nat.le_refl _)
  · rw [Nat.min_eq_right (by omega), Nat.sub_self, List.take_zero, List.drop_eq_nil_of_le (by omega)]
theorem TkAll.take {H : Hp} : ∀ {xs : List V} {ds : List PyData} (k : Nat), TkAll H xs ds → TkAll H (xs.take k) (ds.take k)
  | _, _, 0, _ => by rw [List.take_zero, List.take_zero]; exact .nil
  | _, _, _ + 1, .nil => .nil
  | _, _, k + 1, .cons a t => .cons a (t.take k)
theorem TkAll.drop {H : Hp} : ∀ {xs : List V} {ds : List PyData} (k : Nat), TkAll H xs ds → TkAll H (xs.drop k) (ds.drop k)
  | _, _, 0, t => t
  | _, _, _ + 1, .nil => .nil
  | _, _, k + 1, .cons _ t => t.drop k
theorem set_put {α : Type} {l : List α} {i : Nat} {x : α} (h : i < l.length) : (l.take i ++ [x]) ++ l.drop (i + 1) = l.set i x := by
  rw [List.set_eq_take_append_cons_drop, if_pos h, List.append_assoc]
  rfl
def rJoinK (K : PySem.W.Frag) : V → List V → Hp → VK → Prop := fun x xs H Q => ∃ a p, ∃ ys : List Str, x = .str a ∧ xs = [.ref p] ∧ (SqL K H p (ys.map V.str) ∨ SqT K H p (ys.map V.str)) ∧ (ys.map (·.length)).sum + ys.length * a.length ≤ 16777216 ∧ Q (.str (Txt.join a ys)) H

/-! ### all choices -/
def stepC {α : Type} (cs : List (List α)) (os : List α) : List (List α) := cs.flatMap fun c => os.map fun o => c ++ [o]
def chs {α : Type} (ls : List (List α)) : List (List α) := ls.foldl stepC [[]]
theorem chs_snoc {α : Type} (ls : List (List α)) (os : List α) : chs (ls ++ [os]) = stepC (chs ls) os := by
  unfold chs
  rw [List.foldl_append]
  rfl
theorem stepC_snoc {α : Type} (cs : List (List α)) (c : List α) (os : List α) : stepC (cs ++ [c]) os = stepC cs os ++ os.map fun o => c ++ [o] := by
  unfold stepC
  rw [List.flatMap_append]
  simp
theorem stepC_len {α : Type} (cs : List (List α)) (os : List α) : (stepC cs os).length = cs.length * os.length := by
  induction cs with
  | nil => simp [stepC]
  | cons c r ih =>
    have : stepC (c :: r) os = (os.map fun o => c ++ [o]) ++ stepC r os := by simp [stepC]
    rw [this, List.length_append, List.length_map, ih, List.length_cons, Nat.succ_mul]
    omega
theorem chs_len {α : Type} (m : Nat) (hm : 1 ≤ m) : ∀ (n : Nat) (ls : List (List α)), ls.length = n → (∀ l ∈ ls, l.length ≤ m) → (chs ls).length ≤ m ^ n := by
  intro n
  induction n with
  | zero =>
    intro ls h _
    cases List.eq_nil_of_length_eq_zero h
    exact Nat.le_refl _
  | succ n ih =>
    intro ls h hl
    have hne : ls ≠ [] := fun z => by rw [z] at h; cases h
    obtain ⟨r, x, rfl⟩ : ∃ r x, ls = r ++ [x] := ⟨ls.dropLast, ls.getLast hne, (List.dropLast_concat_getLast hne).symm⟩
    have hr := ih r (by rw [List.length_append] at h; simpa using h) fun l h' => hl l (List.mem_append_left _ h')
    rw [chs_snoc, stepC_len, Nat.pow_succ]
    exact Nat.mul_le_mul hr (hl x (by simp))
theorem chs_width {α : Type} : ∀ (ls : List (List α)) (c : List α), c ∈ chs ls → c.length = ls.length := by
  have key : ∀ (n : Nat) (ls : List (List α)), ls.length = n → ∀ c ∈ chs ls, c.length = n := by
    intro n
    induction n with
    | zero =>
      intro ls h c hc
      cases List.eq_nil_of_length_eq_zero h
      cases List.mem_singleton.mp hc
      rfl
    | succ n ih =>
      intro ls h c hc
      have hne : ls ≠ [] := fun z => by rw [z] at h; cases h
      obtain ⟨r, x, rfl⟩ : ∃ r x, ls = r ++ [x] := ⟨ls.dropLast, ls.getLast hne, (List.dropLast_concat_getLast hne).symm⟩
      rw [chs_snoc] at hc
      obtain ⟨c0, h0, hc⟩ := List.mem_flatMap.mp hc
      obtain ⟨o, _, rfl⟩ := List.mem_map.mp hc
      rw [List.length_append, ih r (by rw [List.length_append] at h; simpa using h) c0 h0]
      rfl
  exact fun ls c h => key _ ls rfl c h
theorem chs_map {α β : Type} (f : α → β) : ∀ (n : Nat) (ls : List (List α)), ls.length = n → chs (ls.map (List.map f)) = (chs ls).map (List.map f) := by
  intro n
  induction n with
  | zero =>
    intro ls h
    cases List.eq_nil_of_length_eq_zero h
    rfl
  | succ n ih =>
    intro ls h
    have hne : ls ≠ [] := fun z => by rw [z] at h; cases h
    obtain ⟨r, x, rfl⟩ : ∃ r x, ls = r ++ [x] := ⟨ls.dropLast, ls.getLast hne, (List.dropLast_concat_getLast hne).symm⟩
    rw [List.map_append, List.map_singleton, chs_snoc, chs_snoc, ih r (by rw [List.length_append] at h; simpa using h)]
    unfold stepC
    rw [List.flatMap_map, List.map_flatMap]
    congr 1
    funext c
    simp
def sp_choices_of (K : PySem.W.Frag) : Sp := fun vs H Q _ => ∃ (la : Addr) (xs : List V) (os : List (List PyData)), vs = [.ref la] ∧ H la = some (.lst xs) ∧ TkAll H xs (os.map PyData.list) ∧ os.length ≤ 3 ∧ (∀ o ∈ os, o.length ≤ 4001) ∧ (∀ i, i ≤ os.length → (chs (os.take i)).length ≤ 4000) ∧ ∀ r H', Same H H' → Tk H' (.ref r) (.tuple ((chs os).map PyData.tuple)) → Q (.ref r) H'
theorem ok_choices_of (T : Tx K mg) : FnOk P w K mg base CX0 1 T.f_choices_of T.fd_choices_of ["lists"] (sp_choices_of K) := by
  refine T.F_choices_of.ok sc_choices_of (fun vs H Q E h => ?_) (fun cdv A outer s H vs Q E hr h => ?_)
  · obtain ⟨la, xs, os, rfl, _⟩ := h
    rfl
  · obtain ⟨la, xs, os, rfl, hla, tk, o3, o8, big, q⟩ := h
    refine ⟨_, (pss_cons (ps_set (i := 1) sc_choices_of.nd rfl (by first | exact .inl rfl | exact .inr rfl) (pe_lst (pa_cons (pe_tup pa_nil) pa_nil))) (pss_cons (ps_for PassesOwn.never rfl (pi_list (pv 0)) (pg_name (i := 2) sc_choices_of.nd rfl (by first | exact .inl rfl | exact .inr rfl)) (pss_one (ps_setLc2 (i := 1) (own := [("choice", 3), ("option", 4)]) (vs1 := [4]) (by rfl) sc_choices_of.nd rfl rfl (sw_true rfl rfl rfl (by decide +kernel)) (pi_list (pv 1)) (blkOk_by (own := [("choice", 3), ("option", 4)]) (N := ["lists", "choices", "options", "choice", "option"]) (sc := defScope s_choices_of) (by decide +kernel)) (by decide) (fun _ _ _ _ _ => (pg_name (i := 3) sc_choices_of.nd rfl (by first | exact .inl rfl | exact .inr rfl))) (fun _ _ _ _ _ => pts_nil) (fun _ _ _ _ _ => (show PI _ _ _ (iList K _) from pi_list (pv 2))) (fun _ _ _ _ _ => (pg_name (i := 4) sc_choices_of.nd rfl (by first | exact .inl rfl | exact .inr rfl))) (fun _ _ _ _ _ => pts_nil) (fun _ _ _ _ _ => (pe_op (show OpR _ _ (rCatA K) from op_catA) (pv 3) (pe_tup (pa_cons (pv 4) pa_nil))))))) (pss_one (ps_ret (pe_callTy call_tuple_of (by rfl) T.m_tuple (by decide +kernel) (pa_cons (pv 1) pa_nil)))))), ?_⟩
    refine ⟨Nat.zero_le _, fun t0 n0 => ⟨sl1, fun c0 nc0 => ?_⟩⟩
    refine ⟨.ref la, rfl, la, rfl, ⟨_, SqL.of (same_upd nc0 _ _ (same_upd n0 _ _ hla))⟩, for_list (K := K) (a := la) (xs := xs) (fun i σ H' => ∃ ca y2, σ = [some (.ref la), some (.ref ca), y2, none, none] ∧ Same H H' ∧ Tk H' (.ref ca) (.list ((chs (os.take i)).map PyData.tuple)))
      ⟨c0, none, rfl, (same_upd n0).trans (same_upd nc0), .lst upd_same (.cons (.tup (same_upd nc0 _ _ upd_same) .nil) .nil)⟩ (fun i σ H' _ ⟨_, _, _, z, _⟩ => SqL.of (z _ _ hla)) ?_ ?_⟩
    · rintro i x σ H1 hx ⟨ca, y2, rfl, s1, tc⟩
      obtain ⟨dx, hdx, tx⟩ := tk.get hx
      obtain ⟨op, hop, rfl⟩ : ∃ op, os[i]? = some op ∧ dx = .list op := by
        rw [List.getElem?_map] at hdx
        cases hz : os[i]? with
        | none => rw [hz] at hdx; cases hdx
        | some op => rw [hz] at hdx; exact ⟨op, rfl, (Option.some.inj hdx).symm⟩
      obtain ⟨oa, ys, rfl, hoa, ty⟩ := tx.lst_inv
      obtain ⟨ca', cs, e, hca, tcs⟩ := tc.lst_inv
      cases e
      have hi : i < os.length := (List.getElem?_eq_some_iff.mp hop).1
      have o8' := o8 op (List.mem_of_getElem? hop)
      have ytake : chs (os.take (i + 1)) = stepC (chs (os.take i)) op := by
        rw [List.take_add_one, hop]
        exact chs_snoc _ _
      have bigN := big (i + 1) hi
      rw [ytake] at bigN
      refine ⟨.ref ca, rfl, ca, rfl, ⟨_, SqL.of hca⟩, fun D nD => ?_⟩
      have lcs : cs.length = (chs (os.take i)).length := by rw [tcs.length, List.length_map]
      -- both walks
      refine ⟨fun k m H' => m = cs.length - k ∧ k ≤ cs.length ∧ Same H1 (hd1 D H') ∧ ∃ acc, H' D = some (.lst acc) ∧ TkAll (hd1 D H') acc ((stepC ((chs (os.take i)).take k) op).map PyData.tuple), ⟨_, rfl, Nat.zero_le _, hd1_of (same_upd nD) nD, [], upd_same, .nil⟩, ?_⟩
      rintro k m H2 ⟨rfl, hk, s2, acc, hD, ta⟩
      have hca2 := hd1_le _ _ (s2 _ _ hca)
      by_cases hlt : k < cs.length
      · obtain ⟨c, hc⟩ : ∃ c, (chs (os.take i))[k]? = some c := ⟨_, List.getElem?_eq_getElem (by omega)⟩
        have htk : (chs (os.take i)).take (k + 1) = (chs (os.take i)).take k ++ [c] := by
          rw [List.take_add_one, hc]
          rfl
        refine .inr ⟨⟨cs, cs[k], SqL.of hca2, List.getElem?_eq_getElem hlt⟩, fun H' => Same H1 (hd1 D H') ∧ ∃ acc, H' D = some (.lst acc) ∧ TkAll (hd1 D H') acc ((stepC ((chs (os.take i)).take (k + 1)) op).map PyData.tuple), fun σ' ⟨z1, z2⟩ => ⟨cs.length - (k + 1), by omega, rfl, by omega, z1, z2⟩, fun x H' hy => ?_⟩
        obtain ⟨rfl, hy⟩ := hy
        have hx2 : cs[k]? = some x := hy cs (SqL.of hca2)
        obtain ⟨dc, hdc, tx2⟩ := tcs.get hx2
        obtain rfl : dc = .tuple c := by
          rw [List.getElem?_map, hc] at hdc
          exact (Option.some.inj hdc).symm
        obtain ⟨xa, zs, rfl, hxa, tz⟩ := tx2.tup_inv
        refine ⟨rfl, ?_⟩
        have hoa2 := hd1_le _ _ (s2 _ _ (s1 _ _ hoa))
        refine ⟨.ref oa, rfl, oa, rfl, ⟨_, SqL.of hoa2⟩, ?_⟩
        refine ⟨fun j n H' => n = ys.length - j ∧ j ≤ ys.length ∧ Same H1 (hd1 D H') ∧ ∃ acc, H' D = some (.lst acc) ∧ TkAll (hd1 D H') acc ((stepC ((chs (os.take i)).take k) op ++ (op.take j).map fun o => c ++ [o]).map PyData.tuple), ⟨_, rfl, Nat.zero_le _, s2, acc, hD, by rw [List.take_zero, List.map_nil, List.append_nil]; exact ta⟩, ?_⟩
        rintro j n H3 ⟨rfl, hj, s3, acc3, hD3, ta3⟩
        have hoa3 := hd1_le _ _ (s3 _ _ (s1 _ _ hoa))
        have lys : ys.length = op.length := ty.length
        by_cases hjl : j < ys.length
        · obtain ⟨ov, hov⟩ : ∃ ov, op[j]? = some ov := ⟨_, List.getElem?_eq_getElem (by omega)⟩
          refine .inr ⟨⟨ys, ys[j], SqL.of hoa3, List.getElem?_eq_getElem hjl⟩, fun H' => Same H1 (hd1 D H') ∧ ∃ acc, H' D = some (.lst acc) ∧ TkAll (hd1 D H') acc ((stepC ((chs (os.take i)).take k) op ++ (op.take (j + 1)).map fun o => c ++ [o]).map PyData.tuple), fun σ' ⟨z1, z2⟩ => ⟨ys.length - (j + 1), by omega, rfl, by omega, z1, z2⟩, fun y Hn hy => ?_⟩
          obtain ⟨rfl, hy⟩ := hy
          have hy2 : ys[j]? = some y := hy ys (SqL.of hoa3)
          obtain ⟨dy, hdy, ty2⟩ := ty.get hy2
          cases Option.some.inj (hdy.symm.trans hov)
          refine ⟨rfl, ?_⟩
          -- choice + (option,)
          have hxa3 := hd1_le _ _ (s3 _ _ hxa)
          refine ⟨.ref xa, rfl, y, rfl, sl1, fun t nt => ?_⟩
          have st := same_upd (o := .tup [y]) nt
          have ntD : t ≠ D := (ne_of_none hD3 nt).symm
          have sD := hd1_same (p := D) st
          have ty3 : Tk (hd1 D Hn) y ov := ty2.same (s1.trans s3)
          have tz3 : TkAll (hd1 D Hn) zs c := tz.same s3
          have lacc : acc3.length < sizeLine := by
            have h1 := ta3.length
            rw [List.length_map, List.length_append, stepC_len, List.length_map, List.length_take, List.length_take] at h1
            have h2 : min k (chs (os.take i)).length * op.length ≤ 4000 * 4001 := Nat.mul_le_mul (by have := big i (by omega); omega) o8'
            have : sizeLine = 16777216 := by decide
            omega
          have done : ∀ (H4 : Hp) (p : Addr), Same (hd1 D Hn) (hd1 D H4) → H4 D = some (.lst acc3) → p ≠ D → H4 p = some (.tup (zs ++ [y])) → TkAll (hd1 D H4) zs c → Tk (hd1 D H4) y ov → ∃ acc, H4 D = some (.lst acc) ∧ acc.length < sizeLine ∧ Same H1 (hd1 D (upd H4 D (.lst (acc ++ [.ref p])))) ∧ ∃ acc', (upd H4 D (.lst (acc ++ [.ref p]))) D = some (.lst acc') ∧ TkAll (hd1 D (upd H4 D (.lst (acc ++ [.ref p])))) acc' ((stepC ((chs (os.take i)).take k) op ++ (op.take (j + 1)).map fun o => c ++ [o]).map PyData.tuple) := fun H4 p s4 h4 np hp tzz tyy => by
            refine ⟨acc3, h4, lacc, (s3.trans s4).trans hd1_upd, acc3 ++ [.ref p], upd_same, ?_⟩
            rw [List.take_add_one, hov]
            show TkAll _ _ ((_ ++ (op.take j ++ [ov]).map _).map _)
            rw [List.map_append (l₁ := op.take j), ← List.append_assoc, List.map_append]
            refine ((ta3.same s4).same hd1_upd).append (.cons (.tup (xs := zs ++ [y]) ?_ ((tzz.same hd1_upd).append (.cons (tyy.same hd1_upd) .nil))) .nil)
            rw [hd1_at np, upd_ne np]
            exact hp
          have lz : zs.length + 1 ≤ sizeLine := by
            have h1 := (Tk.tup hxa tz)
            have h2 := tz.length
            have h3 : c.length ≤ 8 := by
              have := chs_width (os.take i) c (List.mem_of_getElem? hc)
              have h8 : os.length ≤ 8 := by omega
              rw [this, List.length_take]
              omega
            have : sizeLine = 16777216 := by decide
            omega
          refine ⟨xa, t, zs, [y], rfl, rfl, SqT.of (st _ _ hxa3), SqT.of upd_same, lz, fun ez => ?_, (fun _ z => by cases z), fun nz _ p np => ?_⟩
          · subst ez
            exact done _ t sD (st _ _ hD3) ntD upd_same (tz3.same sD) (ty3.same sD)
          · have sp := same_upd (o := .tup (zs ++ [y])) np
            have sDp := hd1_same (p := D) sp
            have npD : p ≠ D := (ne_of_none (st _ _ hD3) np).symm
            exact done _ p (sD.trans sDp) (sp _ _ (st _ _ hD3)) npD upd_same ((tz3.same sD).same sDp) ((ty3.same sD).same sDp)
        · have ej : j = ys.length := by omega
          refine .inl ⟨⟨ys, SqL.of hoa3, by omega⟩, s3, acc3, hD3, ?_⟩
          rw [htk, stepC_snoc]
          rw [ej, lys, List.take_length] at ta3
          exact ta3
      · have ek : k = cs.length := by omega
        refine .inl ⟨⟨cs, SqL.of hca2, by omega⟩, ?_⟩
        refine ⟨D, _, rfl, fun b o e => hd1_le _ _ (s2 _ _ (s1 _ _ e)), ?_⟩
        rw [ytake]
        refine .lst hD ?_
        rw [ek, lcs, List.take_length] at ta
        exact ta.same hd1_le
    · rintro σ H1 ⟨ca, y2, rfl, s1, tc⟩
      have lx : xs.length = os.length := by rw [tk.length, List.length_map]
      rw [lx, List.take_length] at tc
      obtain ⟨ca', cs, e, hca, tcs⟩ := tc.lst_inv
      cases e
      refine ⟨.ref ca, rfl, ca, cs, rfl, .inl ⟨SqL.of hca, fun r nr => ?_⟩⟩
      exact q r _ (s1.trans (same_upd nr)) (.tup upd_same (tcs.same (same_upd nr)))

/-! ### counts of changes: all of them, their places, what can still come -/
theorem snoc_ind {α : Type} {P : List α → Prop} (h0 : P []) (hs : ∀ r x, P r → P (r ++ [x])) (l : List α) : P l := by
  have key : ∀ m : List α, P m.reverse := by
    intro m
    induction m with
    | nil => exact h0
    | cons x r ih => rw [List.reverse_cons]; exact hs _ _ ih
  have := key l.reverse
  rwa [List.reverse_reverse] at this
def cnt (ns : List Nat) : Nat := ns.foldl (fun m n => m * (n + 1)) 1
def idx (ns c : List Nat) : Nat := (ns.zip c).foldl (fun a p => a * (p.1 + 1) + p.2) 0
def every (ns : List Nat) : List (List Nat) := chs (ns.map fun n => List.range (n + 1))
def Le (c ns : List Nat) : Prop := c.length = ns.length ∧ ∀ (p x n : Nat), c[p]? = some x → ns[p]? = some n → x ≤ n
theorem cnt_snoc (r : List Nat) (n : Nat) : cnt (r ++ [n]) = cnt r * (n + 1) := by
  unfold cnt
  rw [List.foldl_append]
  rfl
theorem cnt_pos (ns : List Nat) : 1 ≤ cnt ns := by
  induction ns using snoc_ind with
  | h0 => exact Nat.le_refl 1
  | hs r x ih =>
    rw [cnt_snoc]
    exact Nat.mul_le_mul ih (show 1 ≤ x + 1 by omega)
theorem idx_snoc {r c : List Nat} {n x : Nat} (h : c.length = r.length) : idx (r ++ [n]) (c ++ [x]) = idx r c * (n + 1) + x := by
  unfold idx
  rw [List.zip_append h.symm, List.foldl_append]
  rfl
theorem every_snoc (r : List Nat) (n : Nat) : every (r ++ [n]) = stepC (every r) (List.range (n + 1)) := by
  unfold every
  rw [List.map_append]
  exact chs_snoc _ _
theorem stepC_at {α : Type} (os : List α) : ∀ (cs : List (List α)) (i j : Nat) (c : List α) (o : α), cs[i]? = some c → os[j]? = some o → (stepC cs os)[i * os.length + j]? = some (c ++ [o])
  | [], i, j, c, o, hc, ho => by simp at hc
  | c0 :: r, 0, j, c, o, hc, ho => by
    have e : stepC (c0 :: r) os = (os.map fun o => c0 ++ [o]) ++ stepC r os := by simp [stepC]
    have hj := (List.getElem?_eq_some_iff.mp ho).1
    cases Option.some.inj hc
    rw [e, List.getElem?_append_left (by rw [List.length_map]; omega), List.getElem?_map, Nat.zero_mul, Nat.zero_add, ho]
    rfl
  | c0 :: r, i + 1, j, c, o, hc, ho => by
    have e : stepC (c0 :: r) os = (os.map fun o => c0 ++ [o]) ++ stepC r os := by simp [stepC]
    have k : (i + 1) * os.length + j = os.length + (i * os.length + j) := by rw [Nat.succ_mul]; omega
    rw [e, k, List.getElem?_append_right (by rw [List.length_map]; omega), List.length_map, Nat.add_sub_cancel_left]
    exact stepC_at os r i j c o hc ho
theorem every_len (ns : List Nat) : (every ns).length = cnt ns := by
  induction ns using snoc_ind with
  | h0 => rfl
  | hs r x ih => rw [every_snoc, stepC_len, List.length_range, ih, cnt_snoc]
theorem Le.snoc {c r : List Nat} {n : Nat} (h : Le c (r ++ [n])) : ∃ c0 x, c = c0 ++ [x] ∧ Le c0 r ∧ x ≤ n := by
  have hl := h.1
  rw [List.length_append] at hl
  have hne : c ≠ [] := fun z => by rw [z] at hl; simp at hl
  obtain ⟨c0, x, rfl⟩ : ∃ r x, c = r ++ [x] := ⟨c.dropLast, c.getLast hne, (List.dropLast_concat_getLast hne).symm⟩
  have l0 : c0.length = r.length := by rw [List.length_append] at hl; simpa using hl
  refine ⟨c0, x, rfl, ⟨l0, fun p y m hy hm => ?_⟩, ?_⟩
  · have p1 := (List.getElem?_eq_some_iff.mp hy).1
    refine h.2 p y m ?_ ?_
    · rw [List.getElem?_append_left p1]; exact hy
    · rw [List.getElem?_append_left (by omega)]; exact hm
  · refine h.2 r.length x n ?_ ?_
    · rw [List.getElem?_append_right (by omega), l0, Nat.sub_self]; rfl
    · rw [List.getElem?_append_right (by omega), Nat.sub_self]; rfl
theorem Le.push {c r : List Nat} {n x : Nat} (h : Le c r) (hx : x ≤ n) : Le (c ++ [x]) (r ++ [n]) := by
  refine ⟨by rw [List.length_append, List.length_append, h.1]; rfl, fun p y m hy hm => ?_⟩
  by_cases hp : p < r.length
  · rw [List.getElem?_append_left (by rw [h.1]; exact hp)] at hy
    rw [List.getElem?_append_left hp] at hm
    exact h.2 p y m hy hm
  · have p2 := (List.getElem?_eq_some_iff.mp hm).1
    rw [List.length_append] at p2
    have : p = r.length := by simp at p2; omega
    subst this
    rw [List.getElem?_append_right (by rw [h.1]; omega), h.1, Nat.sub_self] at hy
    rw [List.getElem?_append_right (by omega), Nat.sub_self] at hm
    cases Option.some.inj hy
    cases Option.some.inj hm
    exact hx
theorem every_at (ns : List Nat) : ∀ c, Le c ns → (every ns)[idx ns c]? = some c := by
  induction ns using snoc_ind with
  | h0 =>
    intro c h
    have : c = [] := List.eq_nil_of_length_eq_zero h.1
    subst this
    rfl
  | hs r n ih =>
    intro c h
    obtain ⟨c0, x, rfl, h0, hx⟩ := h.snoc
    rw [every_snoc, idx_snoc h0.1]
    have := stepC_at (List.range (n + 1)) (every r) (idx r c0) x c0 x (ih c0 h0) (by rw [List.getElem?_range (by omega)])
    rwa [List.length_range] at this
theorem every_idx (ns : List Nat) : ∀ (at_ : Nat) (c : List Nat), (every ns)[at_]? = some c → Le c ns ∧ idx ns c = at_ := by
  induction ns using snoc_ind with
  | h0 =>
    intro at_ c h
    cases at_ with
    | zero =>
      have : ([] : List Nat) = c := Option.some.inj h
      subst this
      exact ⟨⟨rfl, fun p x n hx => by simp at hx⟩, rfl⟩
    | succ k => cases (show (none : Option (List Nat)) = some c from h)
  | hs r n ih =>
    intro at_ c h
    have hlt := (List.getElem?_eq_some_iff.mp h).1
    rw [every_len, cnt_snoc] at hlt
    have hq : at_ / (n + 1) < cnt r := Nat.div_lt_of_lt_mul (by rw [Nat.mul_comm]; exact hlt)
    obtain ⟨c0, hc0⟩ : ∃ c0, (every r)[at_ / (n + 1)]? = some c0 := ⟨_, List.getElem?_eq_getElem (by rw [every_len]; exact hq)⟩
    have hx : at_ % (n + 1) < n + 1 := Nat.mod_lt _ (by omega)
    have key := stepC_at (List.range (n + 1)) (every r) (at_ / (n + 1)) (at_ % (n + 1)) c0 (at_ % (n + 1)) hc0 (by rw [List.getElem?_range hx])
    have e : at_ / (n + 1) * (n + 1) + at_ % (n + 1) = at_ := by rw [Nat.mul_comm]; exact Nat.div_add_mod _ _
    rw [List.length_range, e] at key
    rw [every_snoc] at h
    cases Option.some.inj (key.symm.trans h)
    obtain ⟨h1, h2⟩ := ih _ _ hc0
    exact ⟨h1.push (by omega), by rw [idx_snoc h1.1, h2, e]⟩
def inc (c : List Nat) (p : Nat) : List Nat := c.set p (c.getD p 0 + 1)
theorem idx_inc (ns : List Nat) : ∀ (c : List Nat) (p : Nat), c.length = ns.length → p < ns.length → idx ns (inc c p) = idx ns c + cnt (ns.drop (p + 1)) := by
  induction ns using snoc_ind with
  | h0 => intro c p h hp; simp at hp
  | hs r n ih =>
    intro c p h hp
    have hne : c ≠ [] := fun z => by rw [z] at h; simp at h
    obtain ⟨c0, x, rfl⟩ : ∃ r x, c = r ++ [x] := ⟨c.dropLast, c.getLast hne, (List.dropLast_concat_getLast hne).symm⟩
    have l0 : c0.length = r.length := by rw [List.length_append, List.length_append] at h; simpa using h
    rw [List.length_append] at hp
    have hp : p < r.length + 1 := hp
    by_cases hpr : p < r.length
    · have e1 : inc (c0 ++ [x]) p = inc c0 p ++ [x] := by
        unfold inc
        rw [List.set_append_left _ _ (by omega), List.getD_eq_getElem?_getD, List.getElem?_append_left (by omega), ← List.getD_eq_getElem?_getD]
      have l1 : (inc c0 p).length = r.length := by unfold inc; rw [List.length_set, l0]
      rw [e1, idx_snoc l1, idx_snoc l0, ih c0 p l0 hpr, List.drop_append_of_le_length (by omega), cnt_snoc, Nat.add_mul]
      omega
    · have : p = r.length := by omega
      subst this
      have e1 : inc (c0 ++ [x]) r.length = c0 ++ [x + 1] := by
        unfold inc
        rw [List.getD_eq_getElem?_getD, ← l0, List.getElem?_append_right (Nat.le_refl _), Nat.sub_self, List.set_append_right _ _ (Nat.le_refl _), Nat.sub_self]
        rfl
      rw [e1, idx_snoc l0, idx_snoc l0, List.drop_eq_nil_of_le (by rw [List.length_append]; simp)]
      rfl
/-! ### worths by counts -/
def tw (f : Int) (c : Nat) : Int := if c % 2 = 0 then f else 1 - f
theorem tw01 {f : Int} (h : f = 0 ∨ f = 1) (c : Nat) : tw f c = 0 ∨ tw f c = 1 := by
  unfold tw
  split <;> omega
theorem tw_succ {f : Int} (c : Nat) : tw f (c + 1) = 1 - tw f c := by
  unfold tw
  by_cases h : c % 2 = 0
  · rw [if_pos h, if_neg (by omega)]
  · rw [if_neg h, if_pos (by omega)]
    omega
def wsOf (fs : List Int) (c : List Nat) : List Int := List.zipWith tw fs c
def Wc (bs : List Bool) (fs : List Int) (c : List Nat) : Int := gateM bs (wsOf fs c)
def xr (a b : Int) : Int := if a = b then 0 else 1
def mx0 (l : List Int) : Int := l.foldl max 0
theorem mx_ge : ∀ (l : List Int) (m : Int), m ≤ l.foldl max m ∧ ∀ y ∈ l, y ≤ l.foldl max m
  | [], m => ⟨Int.le_refl _, fun y hy => by cases hy⟩
  | x :: r, m => by
    obtain ⟨h1, h2⟩ := mx_ge r (max m x)
    rw [List.foldl_cons]
    refine ⟨by omega, fun y hy => ?_⟩
    rcases List.mem_cons.mp hy with rfl | hy
    · omega
    · exact h2 y hy
theorem mx_in : ∀ (l : List Int) (m : Int), l.foldl max m = m ∨ l.foldl max m ∈ l
  | [], m => .inl rfl
  | x :: r, m => by
    rw [List.foldl_cons]
    rcases mx_in r (max m x) with h | h
    · rw [h]
      by_cases hx : m ≤ x
      · rw [Int.max_eq_right hx]; exact .inr (List.mem_cons_self ..)
      · rw [Int.max_eq_left (by omega)]; exact .inl rfl
    · exact .inr (List.mem_cons_of_mem _ h)
theorem mx0_nonneg (l : List Int) : 0 ≤ mx0 l := (mx_ge l 0).1
theorem mx0_of {l : List Int} {m : Int} (h0 : ∀ y ∈ l, 0 ≤ y) (h1 : l = [] → m = 0) (h2 : l ≠ [] → m ∈ l ∧ ∀ y ∈ l, y ≤ m) : m = mx0 l := by
  by_cases hl : l = []
  · rw [h1 hl, hl]; rfl
  · obtain ⟨a, b⟩ := h2 hl
    have k1 := (mx_ge l 0).2 m a
    have k2 := h0 m a
    unfold mx0
    rcases mx_in l 0 with z | z
    · omega
    · have := b _ z
      omega
theorem mx0_le {l : List Int} {m : Int} (h0 : 0 ≤ m) (h : ∀ y ∈ l, y ≤ m) : mx0 l ≤ m := by
  unfold mx0
  rcases mx_in l 0 with z | z
  · omega
  · exact h _ z
/-! ### the greatest that can still come -/
def nexts (ns c : List Nat) : List Nat := (List.range ns.length).filter fun p => decide (c.getD p 0 < ns.getD p 0)
def grF (bs : List Bool) (fs : List Int) (ns : List Nat) : Nat → List Nat → Int
  | 0, _ => 0
  | k + 1, c => mx0 ((nexts ns c).map fun p => grF bs fs ns k (inc c p) + xr (Wc bs fs c) (Wc bs fs (inc c p)))
def rem (ns c : List Nat) : Nat := (List.zipWith (· - ·) ns c).sum
def gr (bs : List Bool) (fs : List Int) (ns c : List Nat) : Int := grF bs fs ns (rem ns c) c
theorem rem_inc : ∀ (ns c : List Nat) (p : Nat), c.length = ns.length → p < ns.length → c.getD p 0 < ns.getD p 0 → rem ns (inc c p) + 1 = rem ns c
  | [], c, p, h, hp, _ => by simp at hp
  | n :: r, [], p, h, hp, _ => by simp at h
  | n :: r, x :: s, 0, h, hp, hx => by
    have hx : x < n := hx
    show (n - (x + 1)) + rem r s + 1 = (n - x) + rem r s
    omega
  | n :: r, x :: s, p + 1, h, hp, hx => by
    have := rem_inc r s p (by simpa using h) (by simpa using hp) hx
    show (n - x) + rem r (inc s p) + 1 = (n - x) + rem r s
    omega
theorem next_iff {ns c : List Nat} {p : Nat} : p ∈ nexts ns c ↔ p < ns.length ∧ c.getD p 0 < ns.getD p 0 := by
  unfold nexts
  rw [List.mem_filter, List.mem_range, decide_eq_true_eq]
theorem gr_eq {bs : List Bool} {fs : List Int} {ns c : List Nat} (h : c.length = ns.length) : gr bs fs ns c = mx0 ((nexts ns c).map fun p => gr bs fs ns (inc c p) + xr (Wc bs fs c) (Wc bs fs (inc c p))) := by
  unfold gr
  cases hk : rem ns c with
  | zero =>
    have : nexts ns c = [] := by
      refine List.eq_nil_iff_forall_not_mem.mpr fun p hp => ?_
      obtain ⟨h1, h2⟩ := next_iff.mp hp
      have := rem_inc ns c p h h1 h2
      omega
    rw [this]
    rfl
  | succ k =>
    show mx0 _ = _
    congr 1
    refine List.map_congr_left fun p hp => ?_
    obtain ⟨h1, h2⟩ := next_iff.mp hp
    have := rem_inc ns c p h h1 h2
    have e : rem ns (inc c p) = k := by omega
    rw [e]
theorem xr01 (a b : Int) : xr a b = 0 ∨ xr a b = 1 := by
  unfold xr
  split
  · exact .inl rfl
  · exact .inr rfl
theorem gr_nonneg (bs : List Bool) (fs : List Int) (ns c : List Nat) : 0 ≤ gr bs fs ns c := by
  unfold gr
  cases rem ns c with
  | zero => exact Int.le_refl _
  | succ k => exact mx0_nonneg _
theorem grF_le (bs : List Bool) (fs : List Int) (ns : List Nat) : ∀ (k : Nat) (c : List Nat), grF bs fs ns k c ≤ k
  | 0, _ => Int.le_refl _
  | k + 1, c => by
    refine mx0_le (by omega) fun y hy => ?_
    obtain ⟨p, _, rfl⟩ := List.mem_map.mp hy
    have h1 := grF_le bs fs ns k (inc c p)
    have h2 := xr01 (Wc bs fs c) (Wc bs fs (inc c p))
    omega
theorem inc_len (c : List Nat) (p : Nat) : (inc c p).length = c.length := by unfold inc; rw [List.length_set]
theorem Le.inc {c ns : List Nat} {p : Nat} (h : Le c ns) (hp : p ∈ nexts ns c) : Le (inc c p) ns := by
  obtain ⟨h1, h2⟩ := next_iff.mp hp
  refine ⟨by rw [inc_len, h.1], fun q x n hx hn => ?_⟩
  unfold Gk.inc at hx
  rw [List.getElem?_set] at hx
  by_cases hq : p = q
  · subst hq
    rw [if_pos rfl, if_pos (by rw [h.1]; exact h1)] at hx
    have := Option.some.inj hx
    rw [List.getD_eq_getElem?_getD (l := ns), hn] at h2
    have : c.getD p 0 < n := h2
    omega
  · rw [if_neg hq] at hx
    exact h.2 q x n hx hn

end
end Gk

set_option Elab.async false
set_option linter.all false
set_option maxRecDepth 100000
set_option maxHeartbeats 1000000
set_option pp.maxSteps 1500
set_option pp.deepTerms false
namespace Gk
open PySem PySem.Spec PyProof.Rows L2
section
variable {P : Program} {w : World} {K : PySem.W.Frag} {mg : Str → Option Value} {base : Heap}
theorem ok_table_worth (T : Tx K mg) : FnOk P w K mg base CX0 1 T.f_table_worth T.fd_table_worth ["table", "worths"] (spGate K) := by
  refine T.F_table_worth.ok sc_table_worth (fun vs H Q E h => ?_) (fun cdv A outer s H vs Q E hr h => ?_)
  · obtain ⟨bs, la, ws, rfl, _⟩ := h
    rfl
  · obtain ⟨bs, la, ws, rfl, hS, hw, hb, h3, q⟩ := h
    obtain ⟨b, p0, p1, p2, p3, p4⟩ := gate_read hw hb h3
    refine ⟨_, (pss_cons (ps_set (i := 2) sc_table_worth.nd rfl (by first | exact .inl rfl | exact .inr rfl) pe_int) (pss_cons (ps_for PassesOwn.never rfl (pi_list (pv 1)) (pg_name (i := 3) sc_table_worth.nd rfl (by first | exact .inl rfl | exact .inr rfl)) (pss_one (ps_set (i := 2) sc_table_worth.nd rfl (by first | exact .inl rfl | exact .inr rfl) (pe_op op_add (pe_op op_mul pe_int (pv 2)) (pv 3))))) (pss_one (ps_ret (pe_callTy call_int_str (by rfl) T.m_int (by decide +kernel) (pa_cons (pe_item_str (pv 0) (pv 2) (fun _ _ => rfl)) pa_nil)))))), ?_⟩
    refine ⟨.ref la, rfl, la, rfl, ⟨_, hS⟩, for_list (K := K) (a := la) (xs := ws.map V.int) (fun i σ H' => ∃ y, σ = [some (.str (tabOf bs)), some (.ref la), some (.int (plc (ws.take i))), y] ∧ H' = H) ⟨none, rfl, rfl⟩ (fun i σ H' _ ⟨_, _, e⟩ => by rw [e]; exact hS) ?_ ?_⟩
    · rintro i x σ H' hx ⟨y, rfl, rfl⟩
      obtain ⟨u, hu, rfl⟩ : ∃ u, ws[i]? = some u ∧ x = V.int u := by
        rw [List.getElem?_map] at hx
        cases hz : ws[i]? with
        | none => rw [hz] at hx; cases hx
        | some u => rw [hz] at hx; exact ⟨u, rfl, (Option.some.inj hx).symm⟩
      refine ⟨.int (plc (ws.take i)), rfl, 2, _, rfl, rfl, .inl ⟨by decide, by decide⟩, .int u, rfl, _, _, rfl, rfl, some (.int u), ?_, rfl⟩
      rw [plc_take hu]
      rfl
    · rintro σ H' ⟨y, rfl, rfl⟩
      rw [List.length_map, List.take_length]
      refine ⟨.str (tabOf bs), rfl, .int (plc ws), rfl, _, _, _, rfl, rfl, p0, p1, p2, p3, _, _, rfl, int_sign b, (show 1 ≤ 640 by decide), ?_⟩
      rw [← p4]
      exact q

def natV (ns : List Nat) : List V := (ns.map Int.ofNat).map V.int
theorem natV_len (ns : List Nat) : (natV ns).length = ns.length := by unfold natV; rw [List.length_map, List.length_map]
theorem natV_at {ns : List Nat} {i n : Nat} (h : ns[i]? = some n) : (natV ns)[i]? = some (.int (Int.ofNat n)) := by
  unfold natV
  rw [List.getElem?_map, List.getElem?_map, h]
  rfl
theorem natV_inv {ns : List Nat} {i : Nat} {v : V} (h : (natV ns)[i]? = some v) : ∃ n, ns[i]? = some n ∧ v = .int (Int.ofNat n) := by
  unfold natV at h
  rw [List.getElem?_map, List.getElem?_map] at h
  cases hz : ns[i]? with
  | none => rw [hz] at h; cases h
  | some n => rw [hz] at h; exact ⟨n, rfl, (Option.some.inj h).symm⟩
theorem natV_drop (ns : List Nat) (k : Nat) : (natV ns).drop k = natV (ns.drop k) := by
  unfold natV
  rw [List.map_drop, List.map_drop]
/-- numbers of changes as they may be handed in: at most three, of at most four thousand counts -/
def Few (ns : List Nat) : Prop := ns.length ≤ 3 ∧ (∀ n ∈ ns, n ≤ 4000) ∧ cnt ns ≤ 4000
theorem cnt_take {ns : List Nat} {i n : Nat} (h : ns[i]? = some n) : cnt (ns.take (i + 1)) = cnt (ns.take i) * (n + 1) := by
  rw [List.take_add_one, h]
  exact cnt_snoc _ _
theorem cnt_take_le (ns : List Nat) (k : Nat) : cnt (ns.take k) ≤ cnt ns := by
  have key : ∀ xs ys : List Nat, cnt xs ≤ cnt (xs ++ ys) := fun xs ys => by
    induction ys using snoc_ind with
    | h0 => rw [List.append_nil]; exact Nat.le_refl _
    | hs r x ih =>
      rw [← List.append_assoc, cnt_snoc]
      exact Nat.le_trans ih (Nat.le_mul_of_pos_right _ (Nat.succ_pos x))
  have e := List.take_append_drop k ns
  have := key (ns.take k) (ns.drop k)
  rw [e] at this
  exact this
theorem cnt_app (xs ys : List Nat) : cnt (xs ++ ys) = cnt xs * cnt ys := by
  induction ys using snoc_ind with
  | h0 => rw [List.append_nil]; exact (Nat.mul_one _).symm
  | hs r x ih => rw [← List.append_assoc, cnt_snoc, ih, cnt_snoc, Nat.mul_assoc]
theorem cnt_posF (ns : List Nat) : 0 < cnt ns := by
  induction ns using snoc_ind with
  | h0 => exact Nat.one_pos
  | hs r x ih => rw [cnt_snoc]; exact Nat.mul_pos ih (Nat.succ_pos x)
theorem cnt_drop_le (ns : List Nat) (k : Nat) : cnt (ns.drop k) ≤ cnt ns := by
  have e := cnt_app (ns.take k) (ns.drop k)
  rw [List.take_append_drop] at e
  rw [e]
  exact Nat.le_mul_of_pos_left _ (cnt_posF _)
theorem Few.drop {ns : List Nat} (h : Few ns) (k : Nat) : Few (ns.drop k) := ⟨by rw [List.length_drop]; have := h.1; omega, fun n hn => h.2.1 n (List.mem_of_mem_drop hn), Nat.le_trans (cnt_drop_le ns k) h.2.2⟩
theorem Few.take {ns : List Nat} (h : Few ns) (k : Nat) : Few (ns.take k) := ⟨by rw [List.length_take]; have := h.1; omega, fun n hn => h.2.1 n (List.mem_of_mem_take hn), Nat.le_trans (cnt_take_le ns k) h.2.2⟩
theorem cnt_few {ns : List Nat} (h : Few ns) : cnt ns ≤ 4000 := h.2.2
theorem cnt_mem {ns : List Nat} {n : Nat} (h : n ∈ ns) : n + 1 ≤ cnt ns := by
  obtain ⟨xs, ys, rfl⟩ := List.append_of_mem h
  rw [cnt_app, show n :: ys = [n] ++ ys from rfl, cnt_app]
  have e : cnt [n] = n + 1 := by show 1 * (n + 1) = n + 1; omega
  rw [e]
  exact Nat.le_trans (Nat.le_mul_of_pos_right (n + 1) (cnt_posF ys)) (Nat.le_mul_of_pos_left _ (cnt_posF xs))
theorem few_of {ns : List Nat} (l : ns.length ≤ 3) (c : cnt ns ≤ 4000) : Few ns := ⟨l, fun n hn => by have := cnt_mem hn; omega, c⟩
def sp_many_counts (K : PySem.W.Frag) : Sp := fun vs H Q _ => ∃ (a : Addr) (ns : List Nat), vs = [.ref a] ∧ H a = some (.tup (natV ns)) ∧ ns.length ≤ 3 ∧ (∀ n ∈ ns, n ≤ 10 ^ 40) ∧ Q (.int (cnt ns : Nat)) H
theorem cnt_le40 (ns : List Nat) : (∀ n ∈ ns, n ≤ 10 ^ 40) → cnt ns ≤ (10 ^ 41) ^ ns.length := by
  induction ns using snoc_ind with
  | h0 => intro _; exact Nat.le_refl _
  | hs r x ih =>
    intro h
    rw [cnt_snoc, List.length_append, Nat.pow_add]
    have hx := h x (by simp)
    exact Nat.mul_le_mul (ih fun n hn => h n (List.mem_append_left _ hn)) (show x + 1 ≤ (10 ^ 41) ^ 1 from Nat.le_trans (Nat.succ_le_succ hx) (by decide +kernel))
theorem mul40 {a b : Nat} (ha : a ≤ (10 ^ 41) ^ 3) (hb : b ≤ 10 ^ 41) : CMulW (a : Int) (b : Int) :=
  wide_mul (a := 500) (b := 500) (by rw [Int.natAbs_natCast]; exact Nat.lt_of_le_of_lt ha (by decide +kernel)) (by rw [Int.natAbs_natCast]; exact Nat.lt_of_le_of_lt hb (by decide +kernel)) (by decide) (by decide) (by decide)
theorem iop_mulW {X : Cx} : OpR X (inplaceOp .Mult) (rI CMulW fun i j => .int (i * j)) := opI fun _ _ _ _ _ _ _ hc q => imul_int q hc.ok
theorem ok_many_counts (T : Tx K mg) : FnOk P w K mg base CX0 1 T.f_many_counts T.fd_many_counts ["numbers"] (sp_many_counts K) := by
  refine T.F_many_counts.ok sc_many_counts (fun vs H Q E h => ?_) (fun cdv A outer s H vs Q E hr h => ?_)
  · obtain ⟨a, ns, rfl, _⟩ := h
    rfl
  · obtain ⟨a, ns, rfl, ha, l3, big, q⟩ := h
    refine ⟨_, (pss_cons (ps_set (i := 1) sc_many_counts.nd rfl (by first | exact .inl rfl | exact .inr rfl) pe_int) (pss_cons (ps_for PassesOwn.never rfl (pi_tup (pv 0)) (pg_name (i := 2) sc_many_counts.nd rfl (by first | exact .inl rfl | exact .inr rfl)) (pss_one (ps_aug (i := 1) sc_many_counts.nd rfl (by first | exact .inl rfl | exact .inr rfl) (pe_op op_add (pv 2) pe_int) iop_mulW))) (pss_one (ps_ret (pv 1))))), ?_⟩
    refine ⟨.ref a, rfl, a, rfl, ⟨_, SqT.of ha⟩, for_tup (K := K) (a := a) (xs := natV ns) (fun i σ H' => ∃ y2, σ = [some (.ref a), some (.int (cnt (ns.take i) : Nat)), y2] ∧ H' = H) ⟨_, rfl, rfl⟩ (fun i σ H' _ ⟨_, _, e⟩ => by rw [e]; exact SqT.of ha) ?_ ?_⟩
    · rintro i v σ H1 hv ⟨y2, rfl, rfl⟩
      obtain ⟨n, hn, rfl⟩ := natV_inv hv
      have n12 := big n (List.mem_of_getElem? hn)
      have c40 := cnt_le40 (ns.take i) fun x hx => big x (List.mem_of_mem_take hx)
      have c3 : cnt (ns.take i) ≤ (10 ^ 41) ^ 3 := Nat.le_trans c40 (Nat.pow_le_pow_right (by decide +kernel) (by rw [List.length_take]; omega))
      refine ⟨.int (cnt (ns.take i) : Nat), rfl, .int (Int.ofNat n), rfl, _, _, rfl, rfl, _, _, rfl, rfl, mul40 (b := n + 1) c3 (Nat.le_trans (Nat.succ_le_succ n12) (by decide +kernel)), some (.int (Int.ofNat n)), ?_, rfl⟩
      rw [cnt_take hn]
      show [_, some (V.int (((cnt (ns.take i) : Nat) : Int) * ((n : Int) + 1))), _] = _
      push_cast
      rfl
    · rintro σ H1 ⟨y2, rfl, rfl⟩
      rw [natV_len, List.take_length]
      exact ⟨_, rfl, q⟩
def strides (ns : List Nat) (k : Nat) : List Nat := (List.range k).map fun p => cnt (ns.drop (p + 1))
def sp_strides_of (K : PySem.W.Frag) : Sp := fun vs H Q _ => ∃ (a : Addr) (ns : List Nat), vs = [.ref a] ∧ H a = some (.tup (natV ns)) ∧ Few ns ∧ ∀ r H', Same H H' → H' r = some (.lst (natV (strides ns ns.length))) → Q (.ref r) H'
theorem ok_strides_of (T : Tx K mg) : FnOk P w K mg base CX0 2 T.f_strides_of T.fd_strides_of ["numbers"] (sp_strides_of K) := by
  refine T.F_strides_of.ok sc_strides_of (fun vs H Q E h => ?_) (fun cdv A outer s H vs Q E hr h => ?_)
  · obtain ⟨a, ns, rfl, _⟩ := h
    rfl
  · obtain ⟨a, ns, rfl, ha, few, q⟩ := h
    refine ⟨_, (pss_one (ps_ret (pe_lc (own := [("place", 1)]) (by rfl) sc_strides_of.nd (pi_range1 (by rfl) T.m_range (pa_cons (pe_callB call_len_seq (by rfl) T.m_len PySem.boot_len (pa_cons (pv 0) pa_nil)) pa_nil)) (blkOk_by (own := [("place", 1)]) (N := ["numbers", "place"]) (sc := defScope s_strides_of) (by decide +kernel)) (fun _ _ _ _ _ => (pg_name (i := 1) sc_strides_of.nd rfl (by first | exact .inl rfl | exact .inr rfl))) (fun _ _ _ _ _ => pts_nil) (fun _ _ _ _ _ => (pe_call (ok_many_counts T) (hr.mono (by decide)) (by rfl) T.g_many_counts T.F_many_counts.kp T.b_many_counts .nil pass0 (pa_cons (pe_slice (show SlR _ (rSlA K) from sl_tupA) (pv 0) (po_some (pe_op op_add (pv 1) pe_int)) po_none) pa_nil)))))), ?_⟩
    have f3 := few.1
    refine ⟨.ref a, rfl, a, _, rfl, .inr (SqT.of ha), _, rfl, ?_, ?_, fun D nD => ?_⟩
    · rw [natV_len]
      omega
    · rw [natV_len]
      omega
    refine lc_range (lo := 0) (n := ((natV ns).length : Int).toNat) (fun k H' => Same H (hd1 D H') ∧ H' D = some (.lst (natV (strides ns k)))) ⟨hd1_of (same_upd nD) nD, upd_same⟩ ?_ ?_
    · rintro k H2 hk ⟨s2, h2⟩
      rw [natV_len] at hk
      have hk : k < ns.length := by omega
      have ek : (0 : Int) + (k : Int) = (k : Int) := Int.zero_add _
      rw [ek]
      have ha2 := hd1_le _ _ (s2 _ _ ha)
      refine ⟨rfl, .ref a, rfl, .int (k : Nat), rfl, _, _, rfl, rfl, ((k + 1 : Nat) : Int), rfl, ?_⟩
      refine slAn ha2 fun p H3 s3 h3 => ?_
      rw [cut_from, natV_drop] at h3
      refine ⟨p, ns.drop (k + 1), rfl, h3, (few.drop _).1, fun n hn => Nat.le_trans ((few.drop _).2.1 n hn) (by decide +kernel), ?_⟩
      refine ⟨_, s3 _ _ h2, ?_, (s2.trans (hd1_same s3)).trans hd1_upd, ?_⟩
      · rw [natV_len]
        unfold strides
        rw [List.length_map, List.length_range]
        exact Nat.lt_of_lt_of_le (show k < 8 by omega) (by decide)
      · rw [upd_same]
        unfold strides natV
        rw [List.range_succ, List.map_append, List.map_append, List.map_append]
        rfl
    · rintro H2 ⟨s2, h2⟩
      have e : ((natV ns).length : Int).toNat = ns.length := by rw [natV_len]; omega
      rw [e] at h2
      exact q D H2 (fun b o e => hd1_le _ _ (s2 _ _ e)) h2
/-! ### a worth by counts -/
theorem tw_mod (f : Int) (c : Nat) : tw f c = tw f (c % 2) := by
  unfold tw
  rw [Nat.mod_mod]
theorem xor_tw : ∀ (f : Int) (c : Nat), (f = 0 ∨ f = 1) → Builtin.bitXor f (Builtin.bitAnd (Int.ofNat c) 1) = tw f c := by
  intro f c hf
  have e : Builtin.bitAnd (Int.ofNat c) 1 = (Int.ofNat c) % 2 := Bits.bitAnd_mask 1 (Int.natCast_nonneg c)
  have m : (Int.ofNat c) % 2 = ((c % 2 : Nat) : Int) := rfl
  rw [e, m, tw_mod]
  have h2 : c % 2 = 0 ∨ c % 2 = 1 := by omega
  rcases hf with rfl | rfl <;> rcases h2 with h | h <;> rw [h] <;> decide +kernel
theorem xor_xr {a b : Int} (ha : a = 0 ∨ a = 1) (hb : b = 0 ∨ b = 1) : Builtin.bitXor a b = xr a b := by
  rcases ha with rfl | rfl <;> rcases hb with rfl | rfl <;> decide +kernel
theorem wsOf_len {fs : List Int} {c : List Nat} (h : c.length = fs.length) : (wsOf fs c).length = fs.length := by
  unfold wsOf
  rw [List.length_zipWith, h, Nat.min_self]
theorem ws01 {fs : List Int} {c : List Nat} (h : Row01 fs) : ∀ w ∈ wsOf fs c, w = 0 ∨ w = 1 := by
  intro w hw
  unfold wsOf at hw
  obtain ⟨i, hi⟩ := List.getElem?_of_mem hw
  rw [List.getElem?_zipWith] at hi
  cases hf : fs[i]? with
  | none => rw [hf] at hi; cases hi
  | some f =>
    cases hc : c[i]? with
    | none => rw [hf, hc] at hi; cases hi
    | some n =>
      rw [hf, hc] at hi
      cases Option.some.inj hi
      exact tw01 (h f (List.mem_of_getElem? hf)) n
def sp_worth_by (K : PySem.W.Frag) : Sp := fun vs H Q _ => ∃ (bs : List Bool) (fa ca : Addr) (fs : List Int) (c : List Nat), vs = [.str (tabOf bs), .ref fa, .ref ca] ∧ H fa = some (.tup (fs.map V.int)) ∧ H ca = some (.tup (natV c)) ∧ Row01 fs ∧ Few c ∧ c.length = fs.length ∧ bs.length = 2 ^ fs.length ∧ ∀ H', Same H H' → Q (.int (Wc bs fs c)) H'
theorem ok_worth_by (T : Tx K mg) : FnOk P w K mg base CX0 2 T.f_worth_by T.fd_worth_by ["table", "firsts", "counts"] (sp_worth_by K) := by
  refine T.F_worth_by.ok sc_worth_by (fun vs H Q E h => ?_) (fun cdv A outer s H vs Q E hr h => ?_)
  · obtain ⟨bs, fa, ca, fs, c, rfl, _⟩ := h
    rfl
  · obtain ⟨bs, fa, ca, fs, c, rfl, hfa, hca, f01, few, lc, lb, q⟩ := h
    refine ⟨_, (pss_one (ps_ret (pe_call (ok_table_worth T) (hr.mono (by decide)) (by rfl) T.g_table_worth T.F_table_worth.kp T.b_table_worth .nil pass0 (pa_cons (pv 0) (pa_cons (pe_lc (own := [("first", 3), ("count", 4)]) (by rfl) sc_worth_by.nd (RZ.pi_zipA (by rfl) T.m_zip (pa_cons (pv 1) (pa_cons (pv 2) pa_nil))) (blkOk_by (own := [("first", 3), ("count", 4)]) (N := ["table", "firsts", "counts", "first", "count"]) (sc := defScope s_worth_by) (by decide +kernel)) (fun _ _ _ _ _ => (show PG _ _ (gTup K 2 _) from pg_tup rfl (pgs_cons (pg_name (i := 3) sc_worth_by.nd rfl (by first | exact .inl rfl | exact .inr rfl)) (pgs_cons (pg_name (i := 4) sc_worth_by.nd rfl (by first | exact .inl rfl | exact .inr rfl)) pgs_nil)))) (fun _ _ _ _ _ => pts_nil) (fun _ _ _ _ _ => (pe_op op_xor (pv 3) (pe_op op_and (pv 4) pe_int)))) pa_nil))))), ?_⟩
    have hl3 := few.1
    have wl := wsOf_len lc
    refine ⟨.str (tabOf bs), rfl, .ref fa, rfl, .ref ca, rfl, fa, ca, _, _, rfl, .inr ⟨SqT.of hfa, SqT.of hca, fun D nD => ?_⟩⟩
    refine lc_zipT (K := K) (a := fa) (b := ca) (xs := fs.map V.int) (ys := natV c) (by rw [List.length_map, natV_len]; exact lc.symm)
      (fun i H' => Same H (hd1 D H') ∧ H' D = some (.lst (((wsOf fs c).take i).map V.int))) ⟨hd1_of (same_upd nD) nD, upd_same⟩ (fun i H' _ hP => ⟨SqT.of (hd1_le _ _ (hP.1 _ _ hfa)), SqT.of (hd1_le _ _ (hP.1 _ _ hca))⟩) ?_ ?_
    · rintro i x y Tq H1 hx hy nT ⟨s1, hD⟩
      obtain ⟨n, hn, rfl⟩ := natV_inv hy
      rw [List.getElem?_map] at hx
      cases hf : fs[i]? with
      | none => rw [hf] at hx; cases hx
      | some f =>
        rw [hf] at hx
        cases Option.some.inj hx
        have hw : (wsOf fs c)[i]? = some (tw f n) := by
          unfold wsOf
          rw [List.getElem?_zipWith, hf, hn]
        refine ⟨Tq, _, rfl, SqT.of upd_same, rfl, _, _, rfl, _, _, rfl, rfl, rfl, ?_⟩
        refine ⟨.int f, rfl, .int (Int.ofNat n), rfl, _, _, rfl, rfl, _, _, rfl, rfl, _, same_upd nT _ _ hD, ?_, (s1.trans (hd1_same (same_upd nT))).trans hd1_upd, ?_⟩
        · rw [List.length_map, List.length_take]
          exact Nat.lt_of_lt_of_le (show _ < 8 by omega) (by decide)
        · dsimp only
          rw [upd_same, List.take_add_one, hw, xor_tw f n (f01 f (List.mem_of_getElem? hf))]
          show some (HO.lst (_ ++ [_])) = some (HO.lst ((_ ++ [_]).map V.int))
          rw [List.map_append]
          rfl
    · rintro H1 ⟨s1, hD⟩
      rw [List.length_map, List.take_of_length_le (by omega)] at hD
      exact ⟨bs, D, wsOf fs c, rfl, SqL.of hD, ws01 f01, by rw [wl]; exact lb, by omega, q _ fun b o e => hd1_le _ _ (s1 _ _ e)⟩

end
end Gk

set_option Elab.async false
set_option linter.all false
set_option maxRecDepth 100000
set_option maxHeartbeats 1000000
set_option pp.maxSteps 1500
set_option pp.deepTerms false
namespace Gk
open PySem PySem.Spec PyProof.Rows L2
section
variable {P : Program} {w : World} {K : PySem.W.Frag} {mg : Str → Option Value} {base : Heap}
/-! ### walks over enumerate of a tuple -/
theorem for_enumT {K : PySem.W.Frag} {a : Addr} {xs : List V} {g : TG} {tb : TS} {D : Ends} {σ : L2.St} {H : Hp} (Pv : Nat → L2.St → Hp → Prop) (h0 : Pv 0 σ H) (hl : ∀ i σ H, i ≤ xs.length → Pv i σ H → SqT K H a xs)
    (hs : ∀ (i : Nat) (x : V) (T : Addr) (σ : L2.St) (H : Hp), xs[i]? = some x → H T = none → Pv i σ H → g (.ref T) σ (upd H T (.tup [.int (i : Nat), x])) fun σ2 H2 => tb { D with nx := Pv (i + 1), ct := Pv (i + 1), bk := D.nx } σ2 H2) (hd : ∀ σ H, Pv xs.length σ H → D.nx σ H) :
    ∃ W : Nat → Nat → L2.St → Hp → Prop, (∃ m, W 0 m σ H) ∧ ∀ i m σ H, W i m σ H →
      ((IteT K a).stop i H ∧ D.nx σ H) ∨ ((IteT K a).go i H ∧ ∃ N : L2.St → Hp → Prop, (∀ σ' H', N σ' H' → ∃ m', m' < m ∧ W (i + 1) m' σ' H') ∧ ∀ x H', (IteT K a).yld i H x H' → g x σ H' fun σ2 H2 => tb { D with nx := N, ct := N, bk := D.nx } σ2 H2) := by
  refine ⟨fun i m σ H => m = xs.length - i ∧ i ≤ xs.length ∧ Pv i σ H, ⟨xs.length, rfl, Nat.zero_le _, h0⟩, ?_⟩
  rintro i m σ H ⟨rfl, hi, p⟩
  have q := hl i σ H hi p
  by_cases hlt : i < xs.length
  · have hx : xs[i]? = some xs[i] := List.getElem?_eq_getElem hlt
    refine .inr ⟨⟨xs, xs[i], q, hx⟩, Pv (i + 1), fun σ' H' p' => ⟨xs.length - (i + 1), by omega, rfl, hlt, p'⟩, fun x H' y => ?_⟩
    obtain ⟨T, x1, rfl, nT, rfl, e1⟩ := y
    exact hs i x1 T σ H (e1 xs q) nT p
  · have e : i = xs.length := by omega
    subst e
    exact .inl ⟨⟨xs, q, rfl⟩, hd σ H p⟩
theorem lc_enumT {K : PySem.W.Frag} {a : Addr} {xs : List V} {g : TG} {tt : TT} {te : TE} {vs : List Nat} {σ : L2.St} {H1 : Hp} {D : Addr} {Qd : Hp → Prop} (Pv : Nat → Hp → Prop) (h0 : Pv 0 (upd H1 D (.lst []))) (hl : ∀ i H, i ≤ xs.length → Pv i H → SqT K H a xs)
    (hs : ∀ i x T H, xs[i]? = some x → H T = none → Pv i H → g (.ref T) (wipe σ vs) (upd H T (.tup [.int (i : Nat), x])) fun σ2 H2 => wipe σ2 vs = wipe σ vs ∧ tt σ2 H2 fun b H3 =>
      if b = true then te σ2 H3 fun y H4 => ∃ acc, H4 D = some (.lst acc) ∧ acc.length < sizeLine ∧ Pv (i + 1) (upd H4 D (.lst (acc ++ [y]))) else Pv (i + 1) H3) (hd : ∀ H, Pv xs.length H → Qd H) :
    ∃ W : Nat → Nat → Hp → Prop, (∃ m, W 0 m (upd H1 D (.lst []))) ∧ ∀ i m H, W i m H →
      ((IteT K a).stop i H ∧ Qd H) ∨ ((IteT K a).go i H ∧ ∃ Nx : Hp → Prop, (∀ H', Nx H' → ∃ m', m' < m ∧ W (i + 1) m' H') ∧ ∀ x H', (IteT K a).yld i H x H' → g x (wipe σ vs) H' fun σ2 H2 => wipe σ2 vs = wipe σ vs ∧ tt σ2 H2 fun b H3 =>
        if b = true then te σ2 H3 fun y H4 => ∃ acc, H4 D = some (.lst acc) ∧ acc.length < sizeLine ∧ Nx (upd H4 D (.lst (acc ++ [y]))) else Nx H3) := by
  refine ⟨fun i m H => m = xs.length - i ∧ i ≤ xs.length ∧ Pv i H, ⟨xs.length, by simp, Nat.zero_le _, h0⟩, ?_⟩
  rintro i m H ⟨rfl, hi, p⟩
  have qx := hl i H hi p
  by_cases hlt : i < xs.length
  · have hx : xs[i]? = some xs[i] := List.getElem?_eq_getElem hlt
    refine .inr ⟨⟨xs, _, qx, hx⟩, Pv (i + 1), fun H' p' => ⟨xs.length - (i + 1), by omega, rfl, hlt, p'⟩, fun x H' y => ?_⟩
    obtain ⟨T, x1, rfl, nT, rfl, e1⟩ := y
    exact hs i x1 T H (e1 xs qx) nT p
  · have e : i = xs.length := by omega
    subst e
    exact .inl ⟨⟨xs, qx, rfl⟩, hd H p⟩

def kI (k : Nat) : PyData := .int (Int.ofNat k)
def cD (c : List Nat) : PyData := .tuple (c.map kI)
def opD (n : Nat) : PyData := .list ((List.range (n + 1)).map kI)
def stepD (bs : List Bool) (fs : List Int) (ns c : List Nat) (p : Nat) : PyData := .tuple [.int (Int.ofNat p), .int (Int.ofNat (idx ns (inc c p))), .int (xr (Wc bs fs c) (Wc bs fs (inc c p)))]
def stepsAt (bs : List Bool) (fs : List Int) (ns c : List Nat) : PyData := .list ((nexts ns c).map (stepD bs fs ns c))
theorem kI_map (c : List Nat) : c.map kI = (c.map Int.ofNat).map PyData.int := by rw [List.map_map]; rfl
theorem Tk.c_inv {H : Hp} {v : V} {c : List Nat} (h : Tk H v (cD c)) : ∃ a, v = .ref a ∧ H a = some (.tup (natV c)) := by
  obtain ⟨a, xs, rfl, ha, t⟩ := h.tup_inv
  rw [kI_map] at t
  rw [t.int_inv] at ha
  exact ⟨a, rfl, ha⟩
theorem every_D (ns : List Nat) : (chs (ns.map fun n => (List.range (n + 1)).map kI)).map PyData.tuple = (every ns).map cD := by
  have e : (ns.map fun n => (List.range (n + 1)).map kI) = (ns.map fun n => List.range (n + 1)).map (List.map kI) := by rw [List.map_map]; rfl
  rw [e, chs_map kI _ _ rfl, List.map_map]
  rfl
theorem cnt_mono : ∀ {c ns : List Nat}, c.length = ns.length → (∀ (p x n : Nat), c[p]? = some x → ns[p]? = some n → x ≤ n) → cnt c ≤ cnt ns := by
  have key : ∀ {c ns : List Nat} {u v : Nat}, u ≤ v → c.length = ns.length → (∀ (p x n : Nat), c[p]? = some x → ns[p]? = some n → x ≤ n) → c.foldl (fun m n => m * (n + 1)) u ≤ ns.foldl (fun m n => m * (n + 1)) v := by
    intro c
    induction c with
    | nil =>
      intro ns u v h l _
      cases ns with
      | nil => exact h
      | cons n r => simp at l
    | cons x r ih =>
      intro ns u v h l le
      cases ns with
      | nil => simp at l
      | cons n q =>
        exact ih (ns := q) (u := u * (x + 1)) (v := v * (n + 1)) (Nat.mul_le_mul h (Nat.succ_le_succ (le 0 x n rfl rfl))) (by simpa using l) fun p a b ha hb => le (p + 1) a b ha hb
  intro c ns l h
  exact key (Nat.le_refl 1) l h
theorem Few.of_le {c ns : List Nat} (h : Le c ns) (f : Few ns) : Few c := few_of (by rw [h.1]; exact f.1) (Nat.le_trans (cnt_mono h.1 h.2) f.2.2)
theorem big_of {ns : List Nat} (f : Few ns) (i : Nat) : (chs ((ns.map fun n => (List.range (n + 1)).map kI).take i)).length ≤ 4000 := by
  have e : (chs ((ns.map fun n => (List.range (n + 1)).map kI).take i)).map PyData.tuple = (every (ns.take i)).map cD := by
    rw [← List.map_take]
    exact every_D (ns.take i)
  have l := congrArg List.length e
  rw [List.length_map, List.length_map, every_len] at l
  rw [l]
  exact (f.take i).2.2
def nextsTo (ns c : List Nat) (j : Nat) : List Nat := (List.range j).filter fun p => decide (c.getD p 0 < ns.getD p 0)
theorem nextsTo_succ (ns c : List Nat) (j : Nat) : nextsTo ns c (j + 1) = nextsTo ns c j ++ if c.getD j 0 < ns.getD j 0 then [j] else [] := by
  unfold nextsTo
  rw [List.range_succ, List.filter_append, List.filter_cons, List.filter_nil]
  by_cases h : c.getD j 0 < ns.getD j 0
  · rw [if_pos h, decide_eq_true h, if_pos rfl]
  · rw [if_neg h, decide_eq_false h, if_neg Bool.false_ne_true]
theorem nextsTo_len (ns c : List Nat) (j : Nat) : (nextsTo ns c j).length ≤ j := by
  have := List.length_filter_le (fun p => decide (c.getD p 0 < ns.getD p 0)) (List.range j)
  rw [List.length_range] at this
  exact this
def sp_steps_from (K : PySem.W.Frag) : Sp := fun vs H Q _ => ∃ (bs : List Bool) (fa na : Addr) (fs : List Int) (ns : List Nat), vs = [.str (tabOf bs), .ref fa, .ref na] ∧ H fa = some (.tup (fs.map V.int)) ∧ H na = some (.tup (natV ns)) ∧ Row01 fs ∧ Few ns ∧ ns.length = fs.length ∧ bs.length = 2 ^ fs.length ∧ ∀ r H', Same H H' → Tk H' (.ref r) (.list ((every ns).map (stepsAt bs fs ns))) → Q (.ref r) H'
theorem ok_steps_from (T : Tx K mg) : FnOk P w K mg base CX0 3 T.f_steps_from T.fd_steps_from ["table", "firsts", "numbers"] (sp_steps_from K) := by
  refine T.F_steps_from.ok sc_steps_from (fun vs H Q E h => ?_) (fun cdv A outer s H vs Q E hr h => ?_)
  · obtain ⟨bs, fa, na, fs, ns, rfl, _⟩ := h
    rfl
  · obtain ⟨bs, fa, na, fs, ns, rfl, hfa, hna, f01, few, lc, lb, q⟩ := h
    refine ⟨_, (pss_cons (ps_set (i := 3) sc_steps_from.nd rfl (by first | exact .inl rfl | exact .inr rfl) (pe_call (ok_choices_of T) (hr.mono (by decide)) (by rfl) T.g_choices_of T.F_choices_of.kp T.b_choices_of .nil pass0 (pa_cons (pe_lc (own := [("number", 9)]) (by rfl) sc_steps_from.nd (pi_tup (pv 2)) (blkOk_by (own := [("number", 9)]) (N := ["table", "firsts", "numbers", "every", "worths", "strides", "steps", "at", "counts", "number", "place", "count"]) (sc := defScope s_steps_from) (by decide +kernel)) (fun _ _ _ _ _ => (pg_name (i := 9) sc_steps_from.nd rfl (by first | exact .inl rfl | exact .inr rfl))) (fun _ _ _ _ _ => pts_nil) (fun _ _ _ _ _ => (pe_listRg rfl (by rfl) T.m_list (prg_1 (by rfl) T.m_range (pe_op op_add (pv 9) pe_int))))) pa_nil))) (pss_cons (ps_set (i := 4) sc_steps_from.nd rfl (by first | exact .inl rfl | exact .inr rfl) (pe_lc (own := [("counts", 8)]) (by rfl) sc_steps_from.nd (pi_tup (pv 3)) (blkOk_by (own := [("counts", 8)]) (N := ["table", "firsts", "numbers", "every", "worths", "strides", "steps", "at", "counts", "number", "place", "count"]) (sc := defScope s_steps_from) (by decide +kernel)) (fun _ _ _ _ _ => (pg_name (i := 8) sc_steps_from.nd rfl (by first | exact .inl rfl | exact .inr rfl))) (fun _ _ _ _ _ => pts_nil) (fun _ _ _ _ _ => (pe_call (ok_worth_by T) (hr.mono (by decide)) (by rfl) T.g_worth_by T.F_worth_by.kp T.b_worth_by .nil pass0 (pa_cons (pv 0) (pa_cons (pv 1) (pa_cons (pv 8) pa_nil))))))) (pss_cons (ps_set (i := 5) sc_steps_from.nd rfl (by first | exact .inl rfl | exact .inr rfl) (pe_call (ok_strides_of T) (hr.mono (by decide)) (by rfl) T.g_strides_of T.F_strides_of.kp T.b_strides_of .nil pass0 (pa_cons (pv 2) pa_nil))) (pss_cons (ps_set (i := 6) sc_steps_from.nd rfl (by first | exact .inl rfl | exact .inr rfl) (pe_lst pa_nil)) (pss_cons (ps_for PassesOwn.never rfl (pi_enumT (by rfl) T.m_enumerate (pa_cons (pv 3) pa_nil)) (pg_tup rfl (pgs_cons (pg_name (i := 7) sc_steps_from.nd rfl (by first | exact .inl rfl | exact .inr rfl)) (pgs_cons (pg_name (i := 8) sc_steps_from.nd rfl (by first | exact .inl rfl | exact .inr rfl)) pgs_nil))) (pss_one (ps_expr (pe_bm PySem.F.plainAttrs_list PySem.F.slot_list_append PySem.F.type_list_append mt_append (pv 6) (pa_cons (pe_lc (own := [("place", 10), ("count", 11)]) (by rfl) sc_steps_from.nd (pi_enumT (by rfl) T.m_enumerate (pa_cons (pv 8) pa_nil)) (blkOk_by (own := [("place", 10), ("count", 11)]) (N := ["table", "firsts", "numbers", "every", "worths", "strides", "steps", "at", "counts", "number", "place", "count"]) (sc := defScope s_steps_from) (by decide +kernel)) (fun _ _ _ _ _ => (show PG _ _ (gTup K 2 _) from pg_tup rfl (pgs_cons (pg_name (i := 10) sc_steps_from.nd rfl (by first | exact .inl rfl | exact .inr rfl)) (pgs_cons (pg_name (i := 11) sc_steps_from.nd rfl (by first | exact .inl rfl | exact .inr rfl)) pgs_nil)))) (fun _ _ _ _ _ => (pts_one (pt_cmpR op_lt (pv 11) (pe_ix (show IxR _ (rIxT K) from ix_tup) (pv 2) (pv 10) (fun _ _ => rfl)) (nomark _)))) (fun _ _ _ _ _ => (pe_tup (pa_cons (pv 10) (pa_cons (pe_op op_add (pv 7) (pe_ix (show IxR _ (rIxL K) from ix_list) (pv 5) (pv 10) (fun _ _ => rfl))) (pa_cons (pe_op op_xor (pe_ix (show IxR _ (rIxL K) from ix_list) (pv 4) (pv 7) (fun _ _ => rfl)) (pe_ix (show IxR _ (rIxL K) from ix_list) (pv 4) (pe_op op_add (pv 7) (pe_ix (show IxR _ (rIxL K) from ix_list) (pv 5) (pv 10) (fun _ _ => rfl))) (fun _ _ => rfl))) pa_nil)))))) pa_nil))))) (pss_one (ps_ret (pv 6)))))))), ?_⟩
    have n3 := few.1
    have c2197 := cnt_few few
    have sl : (16777216 : Nat) = sizeLine := by decide
    refine ⟨.ref na, rfl, na, rfl, ⟨_, SqT.of hna⟩, fun D nD => ?_⟩
    refine lc_tup (K := K) (a := na) (xs := natV ns) (fun i H' => Same H (hd1 D H') ∧ ∃ acc, H' D = some (.lst acc) ∧ TkAll (hd1 D H') acc ((ns.take i).map opD)) ⟨hd1_of (same_upd nD) nD, [], upd_same, .nil⟩ (fun i H' _ hP => SqT.of (hd1_le _ _ (hP.1 _ _ hna))) ?_ ?_
    · rintro i x H1 hx ⟨s1, acc, hD, ta⟩
      obtain ⟨n, hn, rfl⟩ := natV_inv hx
      have n12 := few.2.1 n (List.mem_of_getElem? hn)
      have hi := (List.getElem?_eq_some_iff.mp hn).1
      refine ⟨rfl, .int (Int.ofNat n), rfl, _, _, rfl, rfl, _, rfl, RgOk.of_le (by decide) (by show (n : Int) + 1 ≤ _; omega) (by decide) (by show 0 ≤ (n : Int) + 1; omega), fun L nL => ?_⟩
      have sL := same_upd (o := HO.lst (rgV 0 (Int.ofNat n + 1))) nL
      have LD : L ≠ D := (ne_of_none hD nL).symm
      have al := ta.length
      rw [List.length_map, List.length_take] at al
      refine ⟨acc, sL _ _ hD, by omega, (s1.trans (hd1_same sL)).trans hd1_upd, acc ++ [.ref L], upd_same, ?_⟩
      have e : (ns.take (i + 1)).map opD = (ns.take i).map opD ++ [opD n] := by rw [List.take_add_one, hn, List.map_append]; rfl
      rw [e]
      refine ((ta.same (hd1_same sL)).same hd1_upd).append (.cons (.lst (xs := rgV 0 (Int.ofNat n + 1)) (by rw [hd1_at LD, upd_ne LD]; exact upd_same) ?_) .nil)
      have er : rgV 0 (Int.ofNat n + 1) = ((List.range (n + 1)).map Int.ofNat).map V.int := by
        unfold rgV
        have : (Int.ofNat n + 1 - 0).toNat = n + 1 := by show ((n : Int) + 1 - 0).toNat = n + 1; omega
        rw [this, List.map_map]
        exact List.map_congr_left fun k _ => by show V.int (0 + (k : Int)) = V.int (k : Int); rw [Int.zero_add]
      rw [er, kI_map]
      exact TkAll.ints _
    rintro H1 ⟨s1, acc, hD, ta⟩
    rw [natV_len, List.take_length] at ta
    have s01 : Same H H1 := fun b o e => hd1_le _ _ (s1 _ _ e)
    refine ⟨D, acc, ns.map fun n => (List.range (n + 1)).map kI, rfl, hD, ?_, by rw [List.length_map]; exact n3, fun o ho => ?_, fun i _ => big_of few i, fun r H2 s2 t2 => ?_⟩
    · rw [List.map_map]
      exact ta.same hd1_le
    · obtain ⟨n, hn, rfl⟩ := List.mem_map.mp ho
      have := few.2.1 n hn
      rw [List.length_map, List.length_range]
      omega
    rw [every_D] at t2
    obtain ⟨r', es, e, hr2, tes⟩ := t2.tup_inv
    cases e
    have el : es.length = cnt ns := by rw [tes.length, List.length_map, every_len]
    have s02 := s01.trans s2
    clear ta hD s1 s2 s01 H1 D acc nD
    -- worths
    refine ⟨.ref r, rfl, r, rfl, ⟨_, SqT.of hr2⟩, fun D nD => ?_⟩
    refine lc_tup (K := K) (a := r) (xs := es) (fun i H' => Same H2 (hd1 D H') ∧ H' D = some (.lst ((((every ns).take i).map (Wc bs fs)).map V.int))) ⟨hd1_of (same_upd nD) nD, upd_same⟩ (fun i H' _ hP => SqT.of (hd1_le _ _ (hP.1 _ _ hr2))) ?_ ?_
    · rintro i x H3 hx ⟨s3, hD⟩
      obtain ⟨c, hc, tc⟩ := tes.at hx
      obtain ⟨le, ei⟩ := every_idx ns i c hc
      obtain ⟨ca, rfl, hca⟩ := (tc.same s3).c_inv
      have hil := (List.getElem?_eq_some_iff.mp hc).1
      rw [every_len] at hil
      refine ⟨rfl, .str (tabOf bs), rfl, .ref fa, rfl, .ref ca, rfl, bs, fa, ca, fs, c, rfl, hd1_le _ _ (s3 _ _ (s02 _ _ hfa)), hd1_le _ _ hca, f01, few.of_le le, by rw [le.1, lc], lb, fun H4 s4 => ?_⟩
      refine ⟨_, s4 _ _ hD, ?_, (s3.trans (hd1_same s4)).trans hd1_upd, ?_⟩
      · rw [List.length_map, List.length_map, List.length_take]
        omega
      · rw [upd_same, List.take_add_one, hc]
        show some (HO.lst (_ ++ [_])) = some (HO.lst (((_ ++ [_]).map (Wc bs fs)).map V.int))
        rw [List.map_append, List.map_append]
        rfl
    rintro H3 ⟨s3, hw⟩
    rw [el, ← every_len, List.take_length] at hw
    have s03 : Same H H3 := fun b o e => hd1_le _ _ (s3 _ _ (s02 _ _ e))
    have hr3 := hd1_le _ _ (s3 _ _ hr2)
    have tes3 := (tes.same s3).same hd1_le
    generalize hwr : D = wr at *
    clear hwr
    -- strides
    refine ⟨.ref na, rfl, na, ns, rfl, s03 _ _ hna, few, fun sr H4 s4 hs => ?_⟩
    refine ⟨Nat.zero_le _, fun L nL => ?_⟩
    have sL := same_upd (o := HO.lst []) nL
    have s34 := s4.trans sL
    have s04 := s03.trans s34
    have hw4 := s34 _ _ hw
    have hs4 := sL _ _ hs
    have hr4 := s34 _ _ hr3
    have hna4 := s04 _ _ hna
    have hL4 := upd_same (H := H4) (a := L) (o := .lst [])
    have rL := ne_of_none (s4 _ _ hr3) nL
    have wL := ne_of_none (s4 _ _ hw) nL
    have sLne := ne_of_none hs nL
    have naL := ne_of_none (s4 _ _ (s03 _ _ hna)) nL
    have sH : Same H (hd1 L (upd H4 L (.lst []))) := fun b o e => by
      rw [hd1_at (ne_of_none (s4 _ _ (s03 _ _ e)) nL)]
      exact s04 _ _ e
    have tes4 : TkAll (hd1 L (upd H4 L (.lst []))) es ((every ns).map cD) := by
      refine (tes3.same s4).same fun b o e => ?_
      rw [hd1_at (ne_of_none e nL)]
      exact sL _ _ e
    show tSeq _ _ _ _ (upd H4 L (.lst []))
    generalize upd H4 L (.lst []) = H5 at sL s34 s04 hw4 hs4 hr4 hna4 hL4 sH tes4 ⊢
    refine ⟨.ref r, rfl, r, es, rfl, SqT.of hr4, ?_⟩
    have keep : ∀ {H' : Hp} {b : Addr} {o : HO}, Same (hd1 L H5) (hd1 L H') → b ≠ L → H5 b = some o → H' b = some o := fun sk nb e => hd1_le _ _ (sk _ _ (by rw [hd1_at nb]; exact e))
    refine for_enumT (K := K) (a := r) (xs := es) (fun i σ H' => ∃ y7 y8, σ = [some (.str (tabOf bs)), some (.ref fa), some (.ref na), some (.ref r), some (.ref wr), some (.ref sr), some (.ref L), y7, y8, none, none, none] ∧ Same (hd1 L H5) (hd1 L H') ∧ ∃ zs, H' L = some (.lst zs) ∧ TkAll (hd1 L H') zs (((every ns).take i).map (stepsAt bs fs ns)))
      ⟨_, _, rfl, fun _ _ e => e, [], hL4, .nil⟩ (fun i σ H' _ ⟨_, _, _, hP, _⟩ => SqT.of (keep hP rL hr4)) ?_ ?_
    · rintro i v Tq σ H6 hv nT ⟨y7, y8, rfl, s6, zs, hL6, tz⟩
      obtain ⟨c, hc, tc⟩ := tes4.at hv
      obtain ⟨le, ei⟩ := every_idx ns i c hc
      obtain ⟨ca, rfl, hca⟩ := (tc.same s6).c_inv
      have hca6 := hd1_le _ _ hca
      have hil := (List.getElem?_eq_some_iff.mp hc).1
      rw [every_len] at hil
      have sT := same_upd (o := HO.tup [V.int (i : Nat), V.ref ca]) nT
      refine ⟨Tq, _, rfl, SqT.of upd_same, rfl, _, _, rfl, _, _, rfl, rfl, ?_⟩
      have hL7 := sT _ _ hL6
      have hca7 := sT _ _ hca6
      have hna7 := sT _ _ (keep s6 naL hna4)
      have hw7 := sT _ _ (keep s6 wL hw4)
      have hs7 := sT _ _ (keep s6 sLne hs4)
      show tDrop _ _ _ (upd H6 Tq (.tup [V.int (i : Nat), V.ref ca]))
      generalize upd H6 Tq (.tup [V.int (i : Nat), V.ref ca]) = H7 at sT hL7 hca7 hna7 hw7 hs7 ⊢
      refine ⟨.ref L, rfl, .inl ⟨rfl, _, SqL.of hL7⟩, .ref ca, rfl, ca, _, rfl, SqT.of hca7, fun D nD => ?_⟩
      refine lc_enumT (K := K) (a := ca) (xs := natV c) (fun j H' => Same H7 (hd1 D H') ∧ ∃ acc, H' D = some (.lst acc) ∧ TkAll (hd1 D H') acc ((nextsTo ns c j).map (stepD bs fs ns c))) ⟨hd1_of (same_upd nD) nD, [], upd_same, .nil⟩ (fun i H' _ hP => SqT.of (hd1_le _ _ (hP.1 _ _ hca7))) ?_ ?_
      · rintro j x T2 H8 hx nT2 ⟨s8, acc, hD, ta⟩
        obtain ⟨x, hxj, rfl⟩ := natV_inv hx
        have hjl := (List.getElem?_eq_some_iff.mp hxj).1
        rw [le.1] at hjl
        obtain ⟨n, hn⟩ : ∃ n, ns[j]? = some n := ⟨_, List.getElem?_eq_getElem hjl⟩
        have eg : c.getD j 0 = x := by rw [List.getD_eq_getElem?_getD, hxj]; rfl
        have en : ns.getD j 0 = n := by rw [List.getD_eq_getElem?_getD, hn]; rfl
        have sT2 := same_upd (o := HO.tup [V.int (j : Nat), V.int (Int.ofNat x)]) nT2
        have nl := nextsTo_len ns c j
        have al := ta.length
        rw [List.length_map] at al
        have hD9 := sT2 _ _ hD
        have hna9 := sT2 _ _ (hd1_le _ _ (s8 _ _ hna7))
        have hw9 := sT2 _ _ (hd1_le _ _ (s8 _ _ hw7))
        have hs9 := sT2 _ _ (hd1_le _ _ (s8 _ _ hs7))
        have hst : (natV (strides ns ns.length))[j]? = some (.int (Int.ofNat (cnt (ns.drop (j + 1))))) := by
          refine natV_at ?_
          unfold strides
          rw [List.getElem?_map, List.getElem?_range hjl]
          rfl
        refine ⟨T2, _, rfl, SqT.of upd_same, rfl, _, _, rfl, _, _, rfl, rfl, rfl, ?_⟩
        refine ⟨.int (Int.ofNat x), rfl, .ref na, rfl, .int (j : Nat), rfl, na, _, _, _, rfl, rfl, SqT.of hna9, atI_nat (natV_at hn), _, _, rfl, rfl, _, rfl, ite2 (fun hlt => ?_) (fun hge => ?_)⟩
        · have hlt : x < n := by have := of_decide_eq_true hlt; exact Int.ofNat_lt.mp this
          have hp : j ∈ nexts ns c := next_iff.mpr ⟨hjl, by rw [eg, en]; exact hlt⟩
          have ie := idx_inc ns c j le.1 hjl
          have ea := every_at ns (inc c j) (le.inc hp)
          rw [ie, ei] at ea
          have wi : (((every ns).map (Wc bs fs)).map V.int)[i]? = some (.int (Wc bs fs c)) := by rw [List.getElem?_map, List.getElem?_map, hc]; rfl
          have wj : (((every ns).map (Wc bs fs)).map V.int)[i + cnt (ns.drop (j + 1))]? = some (.int (Wc bs fs (inc c j))) := by rw [List.getElem?_map, List.getElem?_map, ea]; rfl
          refine ⟨.int (j : Nat), rfl, .int (i : Nat), rfl, .ref sr, rfl, .int (j : Nat), rfl, sr, _, _, _, rfl, rfl, SqL.of hs9, atI_nat hst, _, _, rfl, rfl, .ref wr, rfl, .int (i : Nat), rfl, wr, _, _, _, rfl, rfl, SqL.of hw9, atI_nat wi, .ref wr, rfl, .int (i : Nat), rfl, .ref sr, rfl, .int (j : Nat), rfl, sr, _, _, _, rfl, rfl, SqL.of hs9, atI_nat hst, _, _, rfl, rfl, wr, _, ((i + cnt (ns.drop (j + 1)) : Nat) : Int), _, rfl, rfl, SqL.of hw9, atI_nat wj, _, _, rfl, rfl, sl3, fun p np => ?_⟩
          dsimp only
          rw [show Builtin.bitXor (Wc bs fs c) (Wc bs fs (inc c j)) = xr (Wc bs fs c) (Wc bs fs (inc c j)) from xor_xr (gate01 _ _) (gate01 _ _)]
          have sp := same_upd (o := HO.tup [V.int (j : Nat), V.int ((i : Int) + Int.ofNat (cnt (ns.drop (j + 1)))), V.int (xr (Wc bs fs c) (Wc bs fs (inc c j)))]) np
          have pD : p ≠ D := (ne_of_none hD9 np).symm
          refine ⟨acc, sp _ _ hD9, by omega, (s8.trans (hd1_same (sT2.trans sp))).trans hd1_upd, acc ++ [.ref p], upd_same, ?_⟩
          rw [nextsTo_succ, if_pos (by rw [eg, en]; exact hlt), List.map_append]
          refine ((ta.same (hd1_same (sT2.trans sp))).same hd1_upd).append (.cons (.tup (a := p) (xs := [V.int (j : Nat), V.int ((i : Int) + Int.ofNat (cnt (ns.drop (j + 1)))), V.int (xr (Wc bs fs c) (Wc bs fs (inc c j)))]) (by rw [hd1_at pD, upd_ne pD]; exact upd_same) ?_) .nil)
          rw [ie, ei]
          exact .cons (.int _) (.cons (.int _) (.cons (.int _) .nil))
        · have hge : ¬ x < n := by intro h; exact hge (decide_eq_true (show Int.ofNat x < Int.ofNat n from Int.ofNat_lt.mpr h))
          refine ⟨s8.trans (hd1_same sT2), acc, hD9, ?_⟩
          rw [nextsTo_succ, if_neg (by rw [eg, en]; exact hge), List.append_nil]
          exact ta.same (hd1_same sT2)
      · rintro H8 ⟨s8, acc, hD, ta⟩
        rw [natV_len, le.1] at ta
        have ta : TkAll (hd1 D H8) acc ((nexts ns c).map (stepD bs fs ns c)) := ta
        have DL : D ≠ L := (ne_of_none hL7 nD).symm
        have s78 : Same H7 H8 := fun b o e => hd1_le _ _ (s8 _ _ e)
        have hL8 := s78 _ _ hL7
        have zl := tz.length
        rw [List.length_map, List.length_take, every_len] at zl
        refine ⟨L, _, _, rfl, rfl, hL8, by omega, _, _, rfl, (s6.trans (hd1_same (sT.trans s78))).trans hd1_upd, zs ++ [.ref D], upd_same, ?_⟩
        rw [List.take_add_one, hc]
        show TkAll _ _ ((_ ++ [c]).map _)
        rw [List.map_append]
        have noL : ∀ (ps : List Nat), noLs (ps.map (stepD bs fs ns c)) = true := fun ps => by
          induction ps with
          | nil => rfl
          | cons p r ih => show (true && noLs (r.map (stepD bs fs ns c))) = true; rw [ih]; rfl
        refine ((tz.same (hd1_same (sT.trans s78))).same hd1_upd).append (.cons (.lst (a := D) (xs := acc) (by rw [hd1_at DL, upd_ne DL]; exact hD) ?_) .nil)
        refine ta.ts (fun b xs e => ?_) (noL _)
        have e8 := hd1_le _ _ e
        have bL : b ≠ L := ne_of e8 hL8 (by intro z; cases z)
        rw [hd1_at bL, upd_ne bL]
        exact e8
    · rintro σ H6 ⟨y7, y8, rfl, s6, zs, hL6, tz⟩
      rw [el, ← every_len, List.take_length] at tz
      refine ⟨.ref L, rfl, q L H6 (fun b o e => hd1_le _ _ (s6 _ _ (sH _ _ e))) (.lst hL6 (tz.same hd1_le))⟩

end
end Gk

set_option Elab.async false
set_option linter.all false
set_option maxRecDepth 100000
set_option maxHeartbeats 1000000
set_option pp.maxSteps 1500
set_option pp.deepTerms false
namespace Gk
open PySem PySem.Spec PyProof.Rows L2
section
variable {P : Program} {w : World} {K : PySem.W.Frag} {mg : Str → Option Value} {base : Heap}
/-! ### what can still come from each counts on -/
def grAt (bs : List Bool) (fs : List Int) (ns : List Nat) (j : Nat) : Int := gr bs fs ns ((every ns).getD j [])
def pm (bs : List Bool) (fs : List Int) (ns : List Nat) (k : Nat) : List Int := (List.range (cnt ns)).map fun j => if cnt ns ≤ j + k then grAt bs fs ns j else 0
theorem pm_len (bs : List Bool) (fs : List Int) (ns : List Nat) (k : Nat) : (pm bs fs ns k).length = cnt ns := by unfold pm; rw [List.length_map, List.length_range]
theorem pm_get {bs : List Bool} {fs : List Int} {ns : List Nat} {k j : Nat} (h : j < cnt ns) : (pm bs fs ns k)[j]? = some (if cnt ns ≤ j + k then grAt bs fs ns j else 0) := by
  unfold pm
  rw [List.getElem?_map, List.getElem?_range h]
  rfl
theorem pm_succ {bs : List Bool} {fs : List Int} {ns : List Nat} {k : Nat} (h : k < cnt ns) : (pm bs fs ns k).set (cnt ns - 1 - k) (grAt bs fs ns (cnt ns - 1 - k)) = pm bs fs ns (k + 1) := by
  refine List.ext_getElem? fun j => ?_
  by_cases hj : j < cnt ns
  · rw [List.getElem?_set, pm_get hj, pm_get hj]
    by_cases e : cnt ns - 1 - k = j
    · rw [if_pos e, if_pos (by rw [pm_len]; omega), if_pos (by omega), e]
    · rw [if_neg e]
      by_cases h2 : cnt ns ≤ j + k
      · rw [if_pos h2, if_pos (by omega)]
      · rw [if_neg h2, if_neg (by omega)]
  · rw [List.getElem?_eq_none (by rw [List.length_set, pm_len]; omega), List.getElem?_eq_none (by rw [pm_len]; omega)]
theorem pm_zero (bs : List Bool) (fs : List Int) (ns : List Nat) : pm bs fs ns 0 = List.replicate (cnt ns) 0 := by
  refine List.ext_getElem? fun j => ?_
  by_cases hj : j < cnt ns
  · rw [pm_get hj, if_neg (by omega), List.getElem?_replicate, if_pos hj]
  · rw [List.getElem?_eq_none (by rw [pm_len]; omega), List.getElem?_eq_none (by rw [List.length_replicate]; omega)]
theorem pm_all (bs : List Bool) (fs : List Int) (ns : List Nat) : pm bs fs ns (cnt ns) = (every ns).map (gr bs fs ns) := by
  refine List.ext_getElem? fun j => ?_
  by_cases hj : j < cnt ns
  · rw [pm_get hj, if_pos (by omega), List.getElem?_map]
    have : (every ns)[j]? = some ((every ns)[j]'(by rw [every_len]; exact hj)) := List.getElem?_eq_getElem _
    unfold grAt
    rw [List.getD_eq_getElem?_getD, this]
    rfl
  · rw [List.getElem?_eq_none (by rw [pm_len]; omega), List.getElem?_eq_none (by rw [List.length_map, every_len]; omega)]
theorem grAt_eq {bs : List Bool} {fs : List Int} {ns c : List Nat} {j : Nat} (h : (every ns)[j]? = some c) : grAt bs fs ns j = gr bs fs ns c := by
  unfold grAt
  rw [List.getD_eq_getElem?_getD, h]
  rfl
theorem rep_zero (n : Nat) : (List.replicate n [V.int 0]).flatten = (List.replicate n (0 : Int)).map V.int := by
  induction n with
  | zero => rfl
  | succ n ih => rw [List.replicate_succ, List.flatten_cons, ih, List.replicate_succ, List.map_cons]; rfl
def zeros (ns : List Nat) : List Nat := List.replicate ns.length 0
theorem zeros_le (ns : List Nat) : Le (zeros ns) ns := by
  refine ⟨List.length_replicate, fun p x n hx hn => ?_⟩
  unfold zeros at hx
  rw [List.getElem?_replicate] at hx
  split at hx
  · have := Option.some.inj hx; omega
  · cases hx
theorem idx_zeros (ns : List Nat) : idx ns (zeros ns) = 0 := by
  induction ns using snoc_ind with
  | h0 => rfl
  | hs r x ih =>
    have e : zeros (r ++ [x]) = zeros r ++ [0] := by
      unfold zeros
      rw [List.length_append, List.length_singleton, List.replicate_succ']
    rw [e, idx_snoc (zeros_le r).1, ih, Nat.zero_mul]

/-! ### zip of two or three texts, tuples, lists -/
namespace ZpG
open PySem PySem.Spec PyProof.Rows L2
inductive ZS where
  | tx (x : PySem.Str)
  | tu (a : Addr)
  | li (a : Addr)
def ZS.val : ZS → V
  | .tx x => .str x
  | .tu a => .ref a
  | .li a => .ref a
def ZS.at (K : PySem.W.Frag) : ZS → Hp → List V → Prop
  | .tx x, _, xs => xs = x.cps.toList.map fun c => V.str ⟨#[c]⟩
  | .tu a, H, xs => SqT K H a xs
  | .li a, H, xs => SqL K H a xs
def ZS.it : ZS → Addr → Nat → Heap → Prop
  | .tx x, it, i, h => ∃ t, h.IsStrIter it (strIterType x) x t i
  | .tu a, it, i, h => h.IsTupleIter it a i
  | .li a, it, i, h => h.IsListIter it a i
def ZS.lt : ZS → Nat → Prop
  | .tx _, _ => True
  | .tu a, n => a < n
  | .li a, n => a < n
def ZS.off : ZS → Addr → Prop
  | .tx _, _ => True
  | .tu a, c => a ≠ c
  | .li a, c => a ≠ c
theorem ne' {a b : Nat} (h : a ≠ b) : @Ne Addr a b := h
theorem ZS.off_of {n c : Nat} (hc : n ≤ c) : ∀ {z : ZS}, z.lt n → z.off c
  | .tx _, _ => trivial
  | .tu _, h => Nat.ne_of_lt (Nat.lt_of_lt_of_le h hc)
  | .li _, h => Nat.ne_of_lt (Nat.lt_of_lt_of_le h hc)
theorem ZS.obj {it : Addr} {i : Nat} {h : Heap} : ∀ {z : ZS}, z.it it i h → ∃ o, h.get? it = some o ∧ ∀ v, o.data ≠ .cell v
  | .tx _, ⟨_, o, e, _, d⟩ => ⟨o, e, fun v q => by rw [d] at q; cases q⟩
  | .tu _, ⟨o, e, _, d⟩ => ⟨o, e, fun v q => by rw [d] at q; cases q⟩
  | .li _, ⟨o, e, _, d⟩ => ⟨o, e, fun v q => by rw [d] at q; cases q⟩
theorem ZS.move {it : Addr} {i : Nat} {h h' : Heap} (k : ∀ o, h.get? it = some o → h'.get? it = some o) : ∀ {z : ZS}, z.it it i h → z.it it i h'
  | .tx _, ⟨t, o, e, r⟩ => ⟨t, o, k o e, r⟩
  | .tu _, ⟨o, e, r⟩ => ⟨o, k o e, r⟩
  | .li _, ⟨o, e, r⟩ => ⟨o, k o e, r⟩
section
variable {X : Cx} {pins : List (Addr × Obj)} {σ : L2.St} {H : Hp} {s : Shared}
theorem ZS.inj (I : Inv X pins σ H s) {z : ZS} {xs ys : List V} (h1 : z.at X.K H xs) (h2 : z.at X.K H ys) : xs = ys := by
  cases z with
  | tx x =>
    have e1 : xs = _ := h1
    have e2 : ys = _ := h2
    rw [e1, e2]
  | tu a => exact I.tuple_inj h1 h2
  | li a => exact I.list_inj h1 h2
theorem ZS.draws {A : Around} {it : Addr} {i : Nat} {xs : List V} (z : ZS) (I : Inv X pins σ H s) (hq : z.at X.K H xs) (hh : A.handled = none) (off : z.off it) (st : z.it it i s.heap) :
    ∃ (fp : List Addr) (P : Nat → Value → Prop) (St : Nat → Heap → Prop), Draws X.prog X.w A it fp xs.length P St ∧ it ∈ fp ∧ (∀ c, c ∈ fp → c = it ∨ ¬ z.off c) ∧ St i s.heap ∧ (∀ j h, St j h → z.it it j h) ∧ ∀ j v, P j v → ∃ x, xs[j]? = some x ∧ RelV x v := by
  cases z with
  | tx x =>
    obtain ⟨t, st⟩ := st
    have e : xs = x.cps.toList.map fun c => V.str ⟨#[c]⟩ := hq
    have el : xs.length = x.cps.size := by rw [e, List.length_map, Array.length_toList]
    refine ⟨[it], fun i v => ∃ c u, x.cps[i]? = some c ∧ v = .str ⟨#[c]⟩ u, fun i h => h.IsStrIter it (strIterType x) x t i, ?_, List.mem_cons_self, fun c hc => .inl (List.mem_singleton.mp hc), st, fun j h q => ⟨t, q⟩, fun j v p => ?_⟩
    · rw [el]
      exact Draws.text hh it x t
    · obtain ⟨c, u, hc, rfl⟩ := p
      refine ⟨.str ⟨#[c]⟩, ?_, ⟨u, rfl⟩⟩
      rw [e, List.getElem?_map, Array.getElem?_toList, hc]
      rfl
  | tu a =>
    obtain ⟨its, rv, p, _⟩ := I.tuple hq
    have hl := rv.length
    refine ⟨[it, a], fun i v => its.toArray[i]? = some v, fun i h => h.IsTupleIter it a i ∧ h.IsTuple a its.toArray, ?_, List.mem_cons_self, fun c hc => ?_, ⟨st, p⟩, fun j h q => q.1, fun j v q => ?_⟩
    · rw [hl, ← List.size_toArray]
      exact Draws.tuple hh it a off its.toArray
    · rcases List.mem_cons.mp hc with e | e
      · exact .inl e
      · refine .inr fun q => ?_
        rw [List.mem_singleton.mp e] at q
        exact q rfl
    · have q : its[j]? = some v := by simpa using q
      have hj := (List.getElem?_eq_some_iff.mp q).1
      have hx : xs[j]? = some (xs[j]'(by omega)) := List.getElem?_eq_getElem _
      obtain ⟨u, hu, ru⟩ := rv.get hx
      rw [q] at hu
      cases Option.some.inj hu
      exact ⟨_, hx, ru⟩
  | li a =>
    obtain ⟨its, rv, p, _⟩ := I.list hq
    have hl := rv.length
    refine ⟨[it, a], fun i v => its.toArray[i]? = some v, fun i h => h.IsListIter it a i ∧ h.IsList a its.toArray, ?_, List.mem_cons_self, fun c hc => ?_, ⟨st, p.isList⟩, fun j h q => q.1, fun j v q => ?_⟩
    · rw [hl, ← List.size_toArray]
      exact Draws.list hh it a off its.toArray
    · rcases List.mem_cons.mp hc with e | e
      · exact .inl e
      · refine .inr fun q => ?_
        rw [List.mem_singleton.mp e] at q
        exact q rfl
    · have q : its[j]? = some v := by simpa using q
      have hj := (List.getElem?_eq_some_iff.mp q).1
      have hx : xs[j]? = some (xs[j]'(by omega)) := List.getElem?_eq_getElem _
      obtain ⟨u, hu, ru⟩ := rv.get hx
      rw [q] at hu
      cases Option.some.inj hu
      exact ⟨_, hx, ru⟩
theorem ZS.begins {v : Value} {xs : List V} (z : ZS) (I : Inv X pins σ H s) (hq : z.at X.K H xs) (r : RelV z.val v) : ∃ o Hh, Begins v o Hh ∧ Hh s.heap ∧ (∀ it h, h.get? it = some o → z.it it 0 h) ∧ z.lt s.heap.objs.size := by
  cases z with
  | tx x =>
    obtain ⟨t, rfl⟩ := (show ∃ t, v = Value.str x t from r)
    exact ⟨_, _, begins_text x t, trivial, fun it h e => ⟨t, _, e, rfl, rfl⟩, trivial⟩
  | tu a =>
    cases (show v = Value.ref a from r)
    obtain ⟨its, rv, p, _⟩ := I.tuple hq
    obtain ⟨o1, ho1, _⟩ := id p
    exact ⟨_, _, begins_tuple a its.toArray, p, fun it h e => ⟨_, e, rfl, rfl⟩, Heap.lt_size ho1⟩
  | li a =>
    cases (show v = Value.ref a from r)
    obtain ⟨its, rv, p, _⟩ := I.list hq
    exact ⟨_, _, begins_list a its.toArray, p.isList, fun it h e => ⟨_, e, rfl, rfl⟩, p.lt⟩
end
def Itz2 (K : PySem.W.Frag) (z1 z2 : ZS) : It :=
  ⟨fun i H => ∃ (xs1 xs2 : List V) (x1 x2 : V), z1.at K H xs1 ∧ z2.at K H xs2 ∧ xs1[i]? = some x1 ∧ xs2[i]? = some x2,
    fun i H v H' => ∃ T x1 x2, v = .ref T ∧ H T = none ∧ H' = upd H T (.tup [x1, x2]) ∧ (∀ xs, z1.at K H xs → xs[i]? = some x1) ∧ (∀ xs, z2.at K H xs → xs[i]? = some x2),
    fun i H => ∃ xs1 xs2 : List V, z1.at K H xs1 ∧ z2.at K H xs2 ∧ i ≤ xs1.length ∧ i ≤ xs2.length ∧ (i = xs1.length ∨ i = xs2.length)⟩
theorem turn_zip2 {P : Program} {w : World} {K : PySem.W.Frag} {elts : List Expr} {kk : Nat} {tpos : Pos} {z1 z2 : ZS} {n : Nat} (l1 : z1.lt n) (l2 : z2.lt n) :
    Turn P w K (.Tuple elts kk tpos) (Itz2 K z1 z2) [n + 4, n + 2, n + 3, n, n + 1] (n + 4) (fun i h => IsZip h (n + 4) (n + 2) (n + 3) .none ∧ IsTupOf2 h (n + 2) (.ref (n)) (.ref (n + 1)) ∧ (∃ x1 x2, IsTupOf2 h (n + 3) x1 x2) ∧ z1.it (n) i h ∧ z2.it (n + 1) i h) where
  mem := List.mem_cons_self
  obj := fun i h st c hc => by
    obtain ⟨hz, hTI, ⟨x1, x2, hTO⟩, st1, st2⟩ := st
    have e' : c = n + 4 ∨ c = n + 2 ∨ c = n + 3 ∨ c = n ∨ c = n + 1 := by simpa using hc
    rcases e' with q | q | q | q | q
    · rw [q]; exact ⟨_, hz, fun v q => nomatch q⟩
    · rw [q]; exact ⟨_, hTI, fun v q => nomatch q⟩
    · rw [q]; exact ⟨_, hTO, fun v q => nomatch q⟩
    · rw [q]; exact ZS.obj (z := z1) st1
    · rw [q]; exact ZS.obj (z := z2) st2
  keep := fun i h h' st k => by
    obtain ⟨hz, hTI, ⟨x1, x2, hTO⟩, st1, st2⟩ := st
    exact ⟨k _ (by simp) _ hz, k _ (by simp) _ hTI, ⟨x1, x2, k _ (by simp) _ hTO⟩, ZS.move (z := z1) (fun o q => k _ (by simp) o q) st1, ZS.move (z := z2) (fun o q => k _ (by simp) o q) st2⟩
  item := by
    intro X hP hw hK hc i pins s σ H E I hf st hg
    subst hP hw hK
    obtain ⟨hz, hTI, ⟨y1, y2, hTO⟩, st1, st2⟩ := st
    obtain ⟨xs1, xs2, x1, x2, q1, q2, h1, h2⟩ := hg
    have hh : X.A.in1.handled = none := I.ok.hd hc
    obtain ⟨fp1, P1, St1, D1, m1, f1, s1, b1, p1⟩ := z1.draws (A := X.A.in1) I q1 hh (ZS.off_of (by omega) l1) st1
    have nf1 : ∀ c, n ≤ c → c ≠ n → c ∉ fp1 := fun c h1 h2 h3 => by
      rcases f1 c h3 with e | e
      · exact h2 e
      · exact e (ZS.off_of h1 l1)
    obtain ⟨fp2, P2, St2, D2, m2, f2, s2, b2, p2⟩ := z2.draws (A := X.A.in1) I q2 hh (ZS.off_of (by omega) l2) st2
    have nf2 : ∀ c, n ≤ c → c ≠ n + 1 → c ∉ fp2 := fun c h1 h2 h3 => by
      rcases f2 c h3 with e | e
      · exact h2 e
      · exact e (ZS.off_of h1 l2)
    have t1 : i < xs1.length := (List.getElem?_eq_some_iff.mp h1).1
    have t2 : i < xs2.length := (List.getElem?_eq_some_iff.mp h2).1
    have hzl : n + 4 < s.heap.objs.size := Heap.lt_size hz
    have S : ZipSep2 (n + 4) (n + 2) (n + 3) (n) (n + 1) fp1 fp2 := { TIz := (ne' (a := n + 2) (b := n + 4) (by omega)), TOz := (ne' (a := n + 3) (b := n + 4) (by omega)), TITO := (ne' (a := n + 2) (b := n + 3) (by omega)), TIi1 := (ne' (a := n + 2) (b := n) (by omega)), mem1 := m1, zf1 := nf1 (n + 4) (by omega) (ne' (a := n + 4) (b := n) (by omega)), Tf1 := nf1 (n + 3) (by omega) (ne' (a := n + 3) (b := n) (by omega)), TIi2 := (ne' (a := n + 2) (b := n + 1) (by omega)), mem2 := m2, zf2 := nf2 (n + 4) (by omega) (ne' (a := n + 4) (b := n + 1) (by omega)), Tf2 := nf2 (n + 3) (by omega) (ne' (a := n + 3) (b := n + 1) (by omega)), sep1_2 := nf2 (n) (by omega) (ne' (a := n) (b := n + 1) (by omega)), sep2_1 := nf1 (n + 1) (by omega) (ne' (a := n + 1) (b := n) (by omega)) }
    refine wpAny_pyNext_zipD2_item S D1 D2 hz hTI hTO s1 s2 t1 t2 fun u1 u2 h' tk g1 g2 z' TO' w1 w2 hT hsz hk => ?_
    refine ⟨_, rfl, wpAny_letOwnedTupleGo_zip (s := { s with heap := h', toks := tk }) z' fun h'' z'' sb => ?_⟩
    obtain ⟨x1', e1, ru1⟩ := p1 i u1 g1
    rw [h1] at e1
    cases Option.some.inj e1
    obtain ⟨x2', e2, ru2⟩ := p2 i u2 g2
    rw [h2] at e2
    cases Option.some.inj e2
    have hT2 : h''.get? s.heap.objs.size = some { cls := .type "tuple", data := .seq #[u1, u2] } := (sb.2 _ (Nat.ne_of_gt hzl)).trans hT
    have new : ObjOk X.prog X.w (upd H s.heap.objs.size (.tup [x1, x2])) h'' s.heap.objs.size (.tup [x1, x2]) :=
      ⟨by show 2 ≤ sizeLine; decide, [u1, u2], .cons ru1 (.cons ru2 (.nil)), ⟨_, hT2, rfl, _, rfl⟩⟩
    have out5 : ∀ c, c ∉ [n + 4, n + 2, n + 3, n, n + 1] → c ≠ n + 4 ∧ c ≠ n + 3 ∧ c ≠ n ∧ c ≠ n + 1 := fun c hb => ⟨fun q' => hb (by simp [q']), fun q' => hb (by simp [q']), fun q' => hb (by simp [q']), fun q' => hb (by simp [q'])⟩
    have I1 : Inv X pins σ (upd H s.heap.objs.size (.tup [x1, x2])) { s with heap := h'', toks := tk } :=
      I.turnedNew (t' := tk) (ch := [n + 4, n + 2, n + 3, n, n + 1]) (fun c o hb q => by
        obtain ⟨a1, a2, b1', b2'⟩ := out5 c hb
        exact (sb.2 c a1).trans (hk c o a1 a2 b1' b2' q)) hf (Nat.le_refl _) new
    refine ⟨.ref s.heap.objs.size, _, I1, rfl, ⟨_, x1, x2, rfl, I.hok.fresh (Nat.le_refl _), rfl, fun l hl => by rw [ZS.inj I hl q1]; exact h1, fun l hl => by rw [ZS.inj I hl q2]; exact h2⟩, ⟨z'', ?_, ⟨u1, u2, ?_⟩, ?_, ?_⟩, fun c hcm => ?_⟩
    · exact (sb.2 (n + 2) (ne' (a := n + 2) (b := n + 4) (by omega))).trans (hk (n + 2) _ (ne' (a := n + 2) (b := n + 4) (by omega)) (ne' (a := n + 2) (b := n + 3) (by omega)) (ne' (a := n + 2) (b := n) (by omega)) (ne' (a := n + 2) (b := n + 1) (by omega)) hTI)
    · exact (sb.2 (n + 3) (ne' (a := n + 3) (b := n + 4) (by omega))).trans TO'
    · exact ZS.move (z := z1) (fun o q => (sb.2 (n) (ne' (a := n) (b := n + 4) (by omega))).trans q) (b1 _ _ w1)
    · exact ZS.move (z := z2) (fun o q => (sb.2 (n + 1) (ne' (a := n + 1) (b := n + 4) (by omega))).trans q) (b2 _ _ w2)
    · have hlt : c < s.heap.objs.size := by
        have e' : c = n + 4 ∨ c = n + 2 ∨ c = n + 3 ∨ c = n ∨ c = n + 1 := by simpa using hcm
        rcases e' with q | q | q | q | q
        · rw [q]; exact (show (n + 4 : Nat) < s.heap.objs.size by omega)
        · rw [q]; exact (show (n + 2 : Nat) < s.heap.objs.size by omega)
        · rw [q]; exact (show (n + 3 : Nat) < s.heap.objs.size by omega)
        · rw [q]; exact (show (n : Nat) < s.heap.objs.size by omega)
        · rw [q]; exact (show (n + 1 : Nat) < s.heap.objs.size by omega)
      rw [upd_ne (Nat.ne_of_lt hlt)]
      exact (hf c hcm).1
  done := by
    intro X hP hw hK hc i pins s σ H E I hf st hg
    subst hP hw hK
    obtain ⟨hz, hTI, ⟨y1, y2, hTO⟩, st1, st2⟩ := st
    obtain ⟨xs1, xs2, q1, q2, t1, t2, hend⟩ := hg
    have hh : X.A.in1.handled = none := I.ok.hd hc
    obtain ⟨fp1, P1, St1, D1, m1, f1, s1, b1, p1⟩ := z1.draws (A := X.A.in1) I q1 hh (ZS.off_of (by omega) l1) st1
    have nf1 : ∀ c, n ≤ c → c ≠ n → c ∉ fp1 := fun c h1 h2 h3 => by
      rcases f1 c h3 with e | e
      · exact h2 e
      · exact e (ZS.off_of h1 l1)
    obtain ⟨fp2, P2, St2, D2, m2, f2, s2, b2, p2⟩ := z2.draws (A := X.A.in1) I q2 hh (ZS.off_of (by omega) l2) st2
    have nf2 : ∀ c, n ≤ c → c ≠ n + 1 → c ∉ fp2 := fun c h1 h2 h3 => by
      rcases f2 c h3 with e | e
      · exact h2 e
      · exact e (ZS.off_of h1 l2)
    have S : ZipSep2 (n + 4) (n + 2) (n + 3) (n) (n + 1) fp1 fp2 := { TIz := (ne' (a := n + 2) (b := n + 4) (by omega)), TOz := (ne' (a := n + 3) (b := n + 4) (by omega)), TITO := (ne' (a := n + 2) (b := n + 3) (by omega)), TIi1 := (ne' (a := n + 2) (b := n) (by omega)), mem1 := m1, zf1 := nf1 (n + 4) (by omega) (ne' (a := n + 4) (b := n) (by omega)), Tf1 := nf1 (n + 3) (by omega) (ne' (a := n + 3) (b := n) (by omega)), TIi2 := (ne' (a := n + 2) (b := n + 1) (by omega)), mem2 := m2, zf2 := nf2 (n + 4) (by omega) (ne' (a := n + 4) (b := n + 1) (by omega)), Tf2 := nf2 (n + 3) (by omega) (ne' (a := n + 3) (b := n + 1) (by omega)), sep1_2 := nf2 (n) (by omega) (ne' (a := n) (b := n + 1) (by omega)), sep2_1 := nf1 (n + 1) (by omega) (ne' (a := n + 1) (b := n) (by omega)) }
    exact wpAny_pyNext_zipD2_end S D1 D2 hz hTI hTO s1 s2 t1 t2 hend fun h' tk hk => ⟨rfl, I.turnedL (t' := tk) (ch := [n + 4, n + 2, n + 3, n, n + 1]) (fun c o hb q =>
      hk c o (fun q' => hb (by simp [q'])) (fun q' => hb (by simp [q'])) (fun q' => hb (by simp [q'])) (fun q' => hb (by simp [q'])) q) hf⟩
  self := fun A i s Q E st h => wpAny_pyIter_zip st.1 h
def iZip2 (K : PySem.W.Frag) (ta : TA) : TI := fun σ H R => ta σ H fun vs H1 => ∃ (z1 z2 : ZS) (xs1 xs2 : List V), vs = [z1.val, z2.val] ∧ z1.at K H1 xs1 ∧ z2.at K H1 xs2 ∧ R (Itz2 K z1 z2) H1
theorem pi_zip2 {X : Cx} {e e2 : Expr} {ta : TA} {p pos tpos : Pos} {elts : List Expr} {kk : Nat} (hg : Gl X "zip") (hm : X.mg "zip" = none) (ha : PA X [e, e2] ta)
    (hs : starEach [e, e2] X.env = (false, eval e X.env) :: starEach [e2] X.env := by rfl) (hpl : (backTo pos (starEach [e2] X.env)).any (·.1) = false := by rfl) :
    PI X (.Tuple elts kk tpos) (.Call (.Name "zip" p) [e, e2] [] pos) (iZip2 X.K ta) := by
  refine ⟨fun pins s σ H R I h => ?_⟩
  refine Call_ (ld_blt I hg hm PyProof.Rows.boot_zip (PyProof.Rows.callWith_type1 (thn (ha.run pos pins s σ H _ I h) fun us s1 ⟨vs, H1, I1, r1, q1⟩ => ?_) hs hpl))
  obtain ⟨z1, z2, xs1, xs2, ex, q1, q2, q⟩ := q1
  subst ex
  cases r1 with
  | cons r1 rr =>
    cases rr with
    | cons r2 rr =>
      cases rr
      obtain ⟨o1, G1, B1, h1, i1, l1⟩ := z1.begins I1 q1 r1
      obtain ⟨o2, G2, B2, h2, i2, l2⟩ := z2.begins I1 q2 r2
      have fresh5 : ∀ c, c ∈ [s1.heap.objs.size + 4, s1.heap.objs.size + 2, s1.heap.objs.size + 3, s1.heap.objs.size, s1.heap.objs.size + 1] → FpOk X pins H1 c := fun c hcm => by
        have e' : c = s1.heap.objs.size + 4 ∨ c = s1.heap.objs.size + 2 ∨ c = s1.heap.objs.size + 3 ∨ c = s1.heap.objs.size ∨ c = s1.heap.objs.size + 1 := by simpa using hcm
        have hle : s1.heap.objs.size ≤ c := by omega
        exact I1.fpOk hle (I1.hok.fresh hle)
      refine zip_begins2 B1 B2 h1 h2 fun h' hz hTI hTO g1 g2 hsz hk => wpAny_pyIter_zip hz ?_
      have I2 : Inv X pins σ H1 { s1 with heap := h' } := I1.kept (t' := s1.toks) hk
      exact ⟨s1.heap.objs.size + 4, [s1.heap.objs.size + 4, s1.heap.objs.size + 2, s1.heap.objs.size + 3, s1.heap.objs.size, s1.heap.objs.size + 1], _, _, H1, rfl, I2, turn_zip2 l1 l2, ⟨hz, hTI, ⟨_, _, hTO⟩, i1 _ _ g1, i2 _ _ g2⟩, fresh5, q⟩
theorem for_zip2 {K : PySem.W.Frag} {z1 z2 : ZS} {xs1 xs2 : List V} {n : Nat} {g : TG} {tb : TS} {D : Ends} {σ : L2.St} {H : Hp} (n1 : xs1.length = n) (n2 : xs2.length = n) (Pv : Nat → L2.St → Hp → Prop) (h0 : Pv 0 σ H) (hl : ∀ i σ H, i ≤ n → Pv i σ H → z1.at K H xs1 ∧ z2.at K H xs2)
    (hs : ∀ (i : Nat) (x1 x2 : V) (T : Addr) (σ : L2.St) (H : Hp), xs1[i]? = some x1 → xs2[i]? = some x2 → H T = none → Pv i σ H → g (.ref T) σ (upd H T (.tup [x1, x2])) fun σ2 H2 => tb { D with nx := Pv (i + 1), ct := Pv (i + 1), bk := D.nx } σ2 H2) (hd : ∀ σ H, Pv n σ H → D.nx σ H) :
    ∃ W : Nat → Nat → L2.St → Hp → Prop, (∃ m, W 0 m σ H) ∧ ∀ i m σ H, W i m σ H →
      ((Itz2 K z1 z2).stop i H ∧ D.nx σ H) ∨ ((Itz2 K z1 z2).go i H ∧ ∃ N : L2.St → Hp → Prop, (∀ σ' H', N σ' H' → ∃ m', m' < m ∧ W (i + 1) m' σ' H') ∧ ∀ v H', (Itz2 K z1 z2).yld i H v H' → g v σ H' fun σ2 H2 => tb { D with nx := N, ct := N, bk := D.nx } σ2 H2) := by
  refine ⟨fun i m σ H => m = n - i ∧ i ≤ n ∧ Pv i σ H, ⟨n, rfl, Nat.zero_le _, h0⟩, ?_⟩
  rintro i m σ H ⟨rfl, hi, p⟩
  obtain ⟨q1, q2⟩ := hl i σ H hi p
  by_cases hlt : i < n
  · have e1 : xs1[i]? = some (xs1[i]'(by omega)) := List.getElem?_eq_getElem _
    have e2 : xs2[i]? = some (xs2[i]'(by omega)) := List.getElem?_eq_getElem _
    refine .inr ⟨⟨xs1, xs2, _, _, q1, q2, e1, e2⟩, Pv (i + 1), fun σ' H' p' => ⟨n - (i + 1), by omega, rfl, hlt, p'⟩, fun v H' y => ?_⟩
    obtain ⟨T, y1, y2, rfl, hT, rfl, f1, f2⟩ := y
    exact hs i y1 y2 T σ H (f1 xs1 q1) (f2 xs2 q2) hT p
  · have e : i = n := by omega
    subst e
    exact .inl ⟨⟨xs1, xs2, q1, q2, by omega, by omega, .inl (by omega)⟩, hd σ H p⟩
theorem lc_zip2 {K : PySem.W.Frag} {z1 z2 : ZS} {xs1 xs2 : List V} {n : Nat} {g : TG} {tt : TT} {te : TE} {vs : List Nat} {σ : L2.St} {H1 : Hp} {D : Addr} {Qd : Hp → Prop} (n1 : xs1.length = n) (n2 : xs2.length = n) (Pv : Nat → Hp → Prop) (h0 : Pv 0 (upd H1 D (.lst []))) (hl : ∀ i H, i ≤ n → Pv i H → z1.at K H xs1 ∧ z2.at K H xs2)
    (hs : ∀ (i : Nat) (x1 x2 : V) (T : Addr) (H : Hp), xs1[i]? = some x1 → xs2[i]? = some x2 → H T = none → Pv i H → g (.ref T) (wipe σ vs) (upd H T (.tup [x1, x2])) fun σ2 H2 => wipe σ2 vs = wipe σ vs ∧ tt σ2 H2 fun b H3 =>
      if b = true then te σ2 H3 fun y H4 => ∃ acc, H4 D = some (.lst acc) ∧ acc.length < sizeLine ∧ Pv (i + 1) (upd H4 D (.lst (acc ++ [y]))) else Pv (i + 1) H3) (hd : ∀ H, Pv n H → Qd H) :
    ∃ W : Nat → Nat → Hp → Prop, (∃ m, W 0 m (upd H1 D (.lst []))) ∧ ∀ i m H, W i m H →
      ((Itz2 K z1 z2).stop i H ∧ Qd H) ∨ ((Itz2 K z1 z2).go i H ∧ ∃ Nx : Hp → Prop, (∀ H', Nx H' → ∃ m', m' < m ∧ W (i + 1) m' H') ∧ ∀ x H', (Itz2 K z1 z2).yld i H x H' → g x (wipe σ vs) H' fun σ2 H2 => wipe σ2 vs = wipe σ vs ∧ tt σ2 H2 fun b H3 =>
        if b = true then te σ2 H3 fun y H4 => ∃ acc, H4 D = some (.lst acc) ∧ acc.length < sizeLine ∧ Nx (upd H4 D (.lst (acc ++ [y]))) else Nx H3) := by
  refine ⟨fun i m H => m = n - i ∧ i ≤ n ∧ Pv i H, ⟨n, by simp, Nat.zero_le _, h0⟩, ?_⟩
  rintro i m H ⟨rfl, hi, p⟩
  obtain ⟨q1, q2⟩ := hl i H hi p
  by_cases hlt : i < n
  · have e1 : xs1[i]? = some (xs1[i]'(by omega)) := List.getElem?_eq_getElem _
    have e2 : xs2[i]? = some (xs2[i]'(by omega)) := List.getElem?_eq_getElem _
    refine .inr ⟨⟨xs1, xs2, _, _, q1, q2, e1, e2⟩, Pv (i + 1), fun H' p' => ⟨n - (i + 1), by omega, rfl, hlt, p'⟩, fun v H' y => ?_⟩
    obtain ⟨T, y1, y2, rfl, hT, rfl, f1, f2⟩ := y
    exact hs i y1 y2 T H (f1 xs1 q1) (f2 xs2 q2) hT p
  · have e : i = n := by omega
    subst e
    exact .inl ⟨⟨xs1, xs2, q1, q2, by omega, by omega, .inl (by omega)⟩, hd H p⟩
theorem gx_zip2 {α : Type} {K : PySem.W.Frag} {z1 z2 : ZS} {xs1 xs2 : List V} {n : Nat} {g : TG} {tt : TT} {te : TE} {vs : List Nat} {σ0 : L2.St} {End : α → Hp → Prop} {Yd : α → V → Hp → (α → Hp → Prop) → Prop} {a0 : α} {H0 : Hp} (n1 : xs1.length = n) (n2 : xs2.length = n) (Pv : Nat → α → Hp → Prop) (h0 : Pv 0 a0 H0) (hl : ∀ i c H, i ≤ n → Pv i c H → z1.at K H xs1 ∧ z2.at K H xs2)
    (hs : ∀ (i : Nat) (x1 x2 : V) (T : Addr) (c : α) (H : Hp), xs1[i]? = some x1 → xs2[i]? = some x2 → H T = none → Pv i c H → g (.ref T) σ0 (upd H T (.tup [x1, x2])) fun σ2 H2 => wipe σ2 vs = σ0 ∧ tt σ2 H2 fun b H3 => if b = true then te σ2 H3 fun y H4 => Yd c y H4 (Pv (i + 1)) else Pv (i + 1) c H3) (hd : ∀ c H, Pv n c H → End c H) :
    ∃ W : Nat → Nat → α → Hp → Prop, (∃ m, W 0 m a0 H0) ∧ tGx (Itz2 K z1 z2) g tt te σ0 vs End Yd W := by
  refine ⟨fun i m c H => m = n - i ∧ i ≤ n ∧ Pv i c H, ⟨n, rfl, Nat.zero_le _, h0⟩, ?_⟩
  rintro i m c H ⟨rfl, hi, p⟩
  obtain ⟨q1, q2⟩ := hl i c H hi p
  by_cases hlt : i < n
  · have e1 : xs1[i]? = some (xs1[i]'(by omega)) := List.getElem?_eq_getElem _
    have e2 : xs2[i]? = some (xs2[i]'(by omega)) := List.getElem?_eq_getElem _
    refine .inr ⟨⟨xs1, xs2, _, _, q1, q2, e1, e2⟩, Pv (i + 1), fun c' H' p' => ⟨n - (i + 1), by omega, rfl, hlt, p'⟩, fun v H' y => ?_⟩
    obtain ⟨T, y1, y2, rfl, hT, rfl, f1, f2⟩ := y
    exact hs i y1 y2 T c H (f1 xs1 q1) (f2 xs2 q2) hT p
  · have e : i = n := by omega
    subst e
    exact .inl ⟨⟨xs1, xs2, q1, q2, by omega, by omega, .inl (by omega)⟩, hd c H p⟩
def Itz3 (K : PySem.W.Frag) (z1 z2 z3 : ZS) : It :=
  ⟨fun i H => ∃ (xs1 xs2 xs3 : List V) (x1 x2 x3 : V), z1.at K H xs1 ∧ z2.at K H xs2 ∧ z3.at K H xs3 ∧ xs1[i]? = some x1 ∧ xs2[i]? = some x2 ∧ xs3[i]? = some x3,
    fun i H v H' => ∃ T x1 x2 x3, v = .ref T ∧ H T = none ∧ H' = upd H T (.tup [x1, x2, x3]) ∧ (∀ xs, z1.at K H xs → xs[i]? = some x1) ∧ (∀ xs, z2.at K H xs → xs[i]? = some x2) ∧ (∀ xs, z3.at K H xs → xs[i]? = some x3),
    fun i H => ∃ xs1 xs2 xs3 : List V, z1.at K H xs1 ∧ z2.at K H xs2 ∧ z3.at K H xs3 ∧ i ≤ xs1.length ∧ i ≤ xs2.length ∧ i ≤ xs3.length ∧ (i = xs1.length ∨ i = xs2.length ∨ i = xs3.length)⟩
theorem turn_zip3 {P : Program} {w : World} {K : PySem.W.Frag} {elts : List Expr} {kk : Nat} {tpos : Pos} {z1 z2 z3 : ZS} {n : Nat} (l1 : z1.lt n) (l2 : z2.lt n) (l3 : z3.lt n) :
    Turn P w K (.Tuple elts kk tpos) (Itz3 K z1 z2 z3) [n + 5, n + 3, n + 4, n, n + 1, n + 2] (n + 5) (fun i h => IsZip h (n + 5) (n + 3) (n + 4) .none ∧ IsTupOf3 h (n + 3) (.ref (n)) (.ref (n + 1)) (.ref (n + 2)) ∧ (∃ x1 x2 x3, IsTupOf3 h (n + 4) x1 x2 x3) ∧ z1.it (n) i h ∧ z2.it (n + 1) i h ∧ z3.it (n + 2) i h) where
  mem := List.mem_cons_self
  obj := fun i h st c hc => by
    obtain ⟨hz, hTI, ⟨x1, x2, x3, hTO⟩, st1, st2, st3⟩ := st
    have e' : c = n + 5 ∨ c = n + 3 ∨ c = n + 4 ∨ c = n ∨ c = n + 1 ∨ c = n + 2 := by simpa using hc
    rcases e' with q | q | q | q | q | q
    · rw [q]; exact ⟨_, hz, fun v q => nomatch q⟩
    · rw [q]; exact ⟨_, hTI, fun v q => nomatch q⟩
    · rw [q]; exact ⟨_, hTO, fun v q => nomatch q⟩
    · rw [q]; exact ZS.obj (z := z1) st1
    · rw [q]; exact ZS.obj (z := z2) st2
    · rw [q]; exact ZS.obj (z := z3) st3
  keep := fun i h h' st k => by
    obtain ⟨hz, hTI, ⟨x1, x2, x3, hTO⟩, st1, st2, st3⟩ := st
    exact ⟨k _ (by simp) _ hz, k _ (by simp) _ hTI, ⟨x1, x2, x3, k _ (by simp) _ hTO⟩, ZS.move (z := z1) (fun o q => k _ (by simp) o q) st1, ZS.move (z := z2) (fun o q => k _ (by simp) o q) st2, ZS.move (z := z3) (fun o q => k _ (by simp) o q) st3⟩
  item := by
    intro X hP hw hK hc i pins s σ H E I hf st hg
    subst hP hw hK
    obtain ⟨hz, hTI, ⟨y1, y2, y3, hTO⟩, st1, st2, st3⟩ := st
    obtain ⟨xs1, xs2, xs3, x1, x2, x3, q1, q2, q3, h1, h2, h3⟩ := hg
    have hh : X.A.in1.handled = none := I.ok.hd hc
    obtain ⟨fp1, P1, St1, D1, m1, f1, s1, b1, p1⟩ := z1.draws (A := X.A.in1) I q1 hh (ZS.off_of (by omega) l1) st1
    have nf1 : ∀ c, n ≤ c → c ≠ n → c ∉ fp1 := fun c h1 h2 h3 => by
      rcases f1 c h3 with e | e
      · exact h2 e
      · exact e (ZS.off_of h1 l1)
    obtain ⟨fp2, P2, St2, D2, m2, f2, s2, b2, p2⟩ := z2.draws (A := X.A.in1) I q2 hh (ZS.off_of (by omega) l2) st2
    have nf2 : ∀ c, n ≤ c → c ≠ n + 1 → c ∉ fp2 := fun c h1 h2 h3 => by
      rcases f2 c h3 with e | e
      · exact h2 e
      · exact e (ZS.off_of h1 l2)
    obtain ⟨fp3, P3, St3, D3, m3, f3, s3, b3, p3⟩ := z3.draws (A := X.A.in1) I q3 hh (ZS.off_of (by omega) l3) st3
    have nf3 : ∀ c, n ≤ c → c ≠ n + 2 → c ∉ fp3 := fun c h1 h2 h3 => by
      rcases f3 c h3 with e | e
      · exact h2 e
      · exact e (ZS.off_of h1 l3)
    have t1 : i < xs1.length := (List.getElem?_eq_some_iff.mp h1).1
    have t2 : i < xs2.length := (List.getElem?_eq_some_iff.mp h2).1
    have t3 : i < xs3.length := (List.getElem?_eq_some_iff.mp h3).1
    have hzl : n + 5 < s.heap.objs.size := Heap.lt_size hz
    have S : ZipSep3 (n + 5) (n + 3) (n + 4) (n) (n + 1) (n + 2) fp1 fp2 fp3 := { TIz := (ne' (a := n + 3) (b := n + 5) (by omega)), TOz := (ne' (a := n + 4) (b := n + 5) (by omega)), TITO := (ne' (a := n + 3) (b := n + 4) (by omega)), TIi1 := (ne' (a := n + 3) (b := n) (by omega)), mem1 := m1, zf1 := nf1 (n + 5) (by omega) (ne' (a := n + 5) (b := n) (by omega)), Tf1 := nf1 (n + 4) (by omega) (ne' (a := n + 4) (b := n) (by omega)), TIi2 := (ne' (a := n + 3) (b := n + 1) (by omega)), mem2 := m2, zf2 := nf2 (n + 5) (by omega) (ne' (a := n + 5) (b := n + 1) (by omega)), Tf2 := nf2 (n + 4) (by omega) (ne' (a := n + 4) (b := n + 1) (by omega)), TIi3 := (ne' (a := n + 3) (b := n + 2) (by omega)), mem3 := m3, zf3 := nf3 (n + 5) (by omega) (ne' (a := n + 5) (b := n + 2) (by omega)), Tf3 := nf3 (n + 4) (by omega) (ne' (a := n + 4) (b := n + 2) (by omega)), sep1_2 := nf2 (n) (by omega) (ne' (a := n) (b := n + 1) (by omega)), sep1_3 := nf3 (n) (by omega) (ne' (a := n) (b := n + 2) (by omega)), sep2_1 := nf1 (n + 1) (by omega) (ne' (a := n + 1) (b := n) (by omega)), sep2_3 := nf3 (n + 1) (by omega) (ne' (a := n + 1) (b := n + 2) (by omega)), sep3_1 := nf1 (n + 2) (by omega) (ne' (a := n + 2) (b := n) (by omega)), sep3_2 := nf2 (n + 2) (by omega) (ne' (a := n + 2) (b := n + 1) (by omega)) }
    refine wpAny_pyNext_zipD3_item S D1 D2 D3 hz hTI hTO s1 s2 s3 t1 t2 t3 fun u1 u2 u3 h' tk g1 g2 g3 z' TO' w1 w2 w3 hT hsz hk => ?_
    refine ⟨_, rfl, wpAny_letOwnedTupleGo_zip (s := { s with heap := h', toks := tk }) z' fun h'' z'' sb => ?_⟩
    obtain ⟨x1', e1, ru1⟩ := p1 i u1 g1
    rw [h1] at e1
    cases Option.some.inj e1
    obtain ⟨x2', e2, ru2⟩ := p2 i u2 g2
    rw [h2] at e2
    cases Option.some.inj e2
    obtain ⟨x3', e3, ru3⟩ := p3 i u3 g3
    rw [h3] at e3
    cases Option.some.inj e3
    have hT2 : h''.get? s.heap.objs.size = some { cls := .type "tuple", data := .seq #[u1, u2, u3] } := (sb.2 _ (Nat.ne_of_gt hzl)).trans hT
    have new : ObjOk X.prog X.w (upd H s.heap.objs.size (.tup [x1, x2, x3])) h'' s.heap.objs.size (.tup [x1, x2, x3]) :=
      ⟨by show 3 ≤ sizeLine; decide, [u1, u2, u3], .cons ru1 (.cons ru2 (.cons ru3 (.nil))), ⟨_, hT2, rfl, _, rfl⟩⟩
    have out5 : ∀ c, c ∉ [n + 5, n + 3, n + 4, n, n + 1, n + 2] → c ≠ n + 5 ∧ c ≠ n + 4 ∧ c ≠ n ∧ c ≠ n + 1 ∧ c ≠ n + 2 := fun c hb => ⟨fun q' => hb (by simp [q']), fun q' => hb (by simp [q']), fun q' => hb (by simp [q']), fun q' => hb (by simp [q']), fun q' => hb (by simp [q'])⟩
    have I1 : Inv X pins σ (upd H s.heap.objs.size (.tup [x1, x2, x3])) { s with heap := h'', toks := tk } :=
      I.turnedNew (t' := tk) (ch := [n + 5, n + 3, n + 4, n, n + 1, n + 2]) (fun c o hb q => by
        obtain ⟨a1, a2, b1', b2', b3'⟩ := out5 c hb
        exact (sb.2 c a1).trans (hk c o a1 a2 b1' b2' b3' q)) hf (Nat.le_refl _) new
    refine ⟨.ref s.heap.objs.size, _, I1, rfl, ⟨_, x1, x2, x3, rfl, I.hok.fresh (Nat.le_refl _), rfl, fun l hl => by rw [ZS.inj I hl q1]; exact h1, fun l hl => by rw [ZS.inj I hl q2]; exact h2, fun l hl => by rw [ZS.inj I hl q3]; exact h3⟩, ⟨z'', ?_, ⟨u1, u2, u3, ?_⟩, ?_, ?_, ?_⟩, fun c hcm => ?_⟩
    · exact (sb.2 (n + 3) (ne' (a := n + 3) (b := n + 5) (by omega))).trans (hk (n + 3) _ (ne' (a := n + 3) (b := n + 5) (by omega)) (ne' (a := n + 3) (b := n + 4) (by omega)) (ne' (a := n + 3) (b := n) (by omega)) (ne' (a := n + 3) (b := n + 1) (by omega)) (ne' (a := n + 3) (b := n + 2) (by omega)) hTI)
    · exact (sb.2 (n + 4) (ne' (a := n + 4) (b := n + 5) (by omega))).trans TO'
    · exact ZS.move (z := z1) (fun o q => (sb.2 (n) (ne' (a := n) (b := n + 5) (by omega))).trans q) (b1 _ _ w1)
    · exact ZS.move (z := z2) (fun o q => (sb.2 (n + 1) (ne' (a := n + 1) (b := n + 5) (by omega))).trans q) (b2 _ _ w2)
    · exact ZS.move (z := z3) (fun o q => (sb.2 (n + 2) (ne' (a := n + 2) (b := n + 5) (by omega))).trans q) (b3 _ _ w3)
    · have hlt : c < s.heap.objs.size := by
        have e' : c = n + 5 ∨ c = n + 3 ∨ c = n + 4 ∨ c = n ∨ c = n + 1 ∨ c = n + 2 := by simpa using hcm
        rcases e' with q | q | q | q | q | q
        · rw [q]; exact (show (n + 5 : Nat) < s.heap.objs.size by omega)
        · rw [q]; exact (show (n + 3 : Nat) < s.heap.objs.size by omega)
        · rw [q]; exact (show (n + 4 : Nat) < s.heap.objs.size by omega)
        · rw [q]; exact (show (n : Nat) < s.heap.objs.size by omega)
        · rw [q]; exact (show (n + 1 : Nat) < s.heap.objs.size by omega)
        · rw [q]; exact (show (n + 2 : Nat) < s.heap.objs.size by omega)
      rw [upd_ne (Nat.ne_of_lt hlt)]
      exact (hf c hcm).1
  done := by
    intro X hP hw hK hc i pins s σ H E I hf st hg
    subst hP hw hK
    obtain ⟨hz, hTI, ⟨y1, y2, y3, hTO⟩, st1, st2, st3⟩ := st
    obtain ⟨xs1, xs2, xs3, q1, q2, q3, t1, t2, t3, hend⟩ := hg
    have hh : X.A.in1.handled = none := I.ok.hd hc
    obtain ⟨fp1, P1, St1, D1, m1, f1, s1, b1, p1⟩ := z1.draws (A := X.A.in1) I q1 hh (ZS.off_of (by omega) l1) st1
    have nf1 : ∀ c, n ≤ c → c ≠ n → c ∉ fp1 := fun c h1 h2 h3 => by
      rcases f1 c h3 with e | e
      · exact h2 e
      · exact e (ZS.off_of h1 l1)
    obtain ⟨fp2, P2, St2, D2, m2, f2, s2, b2, p2⟩ := z2.draws (A := X.A.in1) I q2 hh (ZS.off_of (by omega) l2) st2
    have nf2 : ∀ c, n ≤ c → c ≠ n + 1 → c ∉ fp2 := fun c h1 h2 h3 => by
      rcases f2 c h3 with e | e
      · exact h2 e
      · exact e (ZS.off_of h1 l2)
    obtain ⟨fp3, P3, St3, D3, m3, f3, s3, b3, p3⟩ := z3.draws (A := X.A.in1) I q3 hh (ZS.off_of (by omega) l3) st3
    have nf3 : ∀ c, n ≤ c → c ≠ n + 2 → c ∉ fp3 := fun c h1 h2 h3 => by
      rcases f3 c h3 with e | e
      · exact h2 e
      · exact e (ZS.off_of h1 l3)
    have S : ZipSep3 (n + 5) (n + 3) (n + 4) (n) (n + 1) (n + 2) fp1 fp2 fp3 := { TIz := (ne' (a := n + 3) (b := n + 5) (by omega)), TOz := (ne' (a := n + 4) (b := n + 5) (by omega)), TITO := (ne' (a := n + 3) (b := n + 4) (by omega)), TIi1 := (ne' (a := n + 3) (b := n) (by omega)), mem1 := m1, zf1 := nf1 (n + 5) (by omega) (ne' (a := n + 5) (b := n) (by omega)), Tf1 := nf1 (n + 4) (by omega) (ne' (a := n + 4) (b := n) (by omega)), TIi2 := (ne' (a := n + 3) (b := n + 1) (by omega)), mem2 := m2, zf2 := nf2 (n + 5) (by omega) (ne' (a := n + 5) (b := n + 1) (by omega)), Tf2 := nf2 (n + 4) (by omega) (ne' (a := n + 4) (b := n + 1) (by omega)), TIi3 := (ne' (a := n + 3) (b := n + 2) (by omega)), mem3 := m3, zf3 := nf3 (n + 5) (by omega) (ne' (a := n + 5) (b := n + 2) (by omega)), Tf3 := nf3 (n + 4) (by omega) (ne' (a := n + 4) (b := n + 2) (by omega)), sep1_2 := nf2 (n) (by omega) (ne' (a := n) (b := n + 1) (by omega)), sep1_3 := nf3 (n) (by omega) (ne' (a := n) (b := n + 2) (by omega)), sep2_1 := nf1 (n + 1) (by omega) (ne' (a := n + 1) (b := n) (by omega)), sep2_3 := nf3 (n + 1) (by omega) (ne' (a := n + 1) (b := n + 2) (by omega)), sep3_1 := nf1 (n + 2) (by omega) (ne' (a := n + 2) (b := n) (by omega)), sep3_2 := nf2 (n + 2) (by omega) (ne' (a := n + 2) (b := n + 1) (by omega)) }
    exact wpAny_pyNext_zipD3_end S D1 D2 D3 hz hTI hTO s1 s2 s3 t1 t2 t3 hend fun h' tk hk => ⟨rfl, I.turnedL (t' := tk) (ch := [n + 5, n + 3, n + 4, n, n + 1, n + 2]) (fun c o hb q =>
      hk c o (fun q' => hb (by simp [q'])) (fun q' => hb (by simp [q'])) (fun q' => hb (by simp [q'])) (fun q' => hb (by simp [q'])) (fun q' => hb (by simp [q'])) q) hf⟩
  self := fun A i s Q E st h => wpAny_pyIter_zip st.1 h
def iZip3 (K : PySem.W.Frag) (ta : TA) : TI := fun σ H R => ta σ H fun vs H1 => ∃ (z1 z2 z3 : ZS) (xs1 xs2 xs3 : List V), vs = [z1.val, z2.val, z3.val] ∧ z1.at K H1 xs1 ∧ z2.at K H1 xs2 ∧ z3.at K H1 xs3 ∧ R (Itz3 K z1 z2 z3) H1
theorem pi_zip3 {X : Cx} {e e2 e3 : Expr} {ta : TA} {p pos tpos : Pos} {elts : List Expr} {kk : Nat} (hg : Gl X "zip") (hm : X.mg "zip" = none) (ha : PA X [e, e2, e3] ta)
    (hs : starEach [e, e2, e3] X.env = (false, eval e X.env) :: starEach [e2, e3] X.env := by rfl) (hpl : (backTo pos (starEach [e2, e3] X.env)).any (·.1) = false := by rfl) :
    PI X (.Tuple elts kk tpos) (.Call (.Name "zip" p) [e, e2, e3] [] pos) (iZip3 X.K ta) := by
  refine ⟨fun pins s σ H R I h => ?_⟩
  refine Call_ (ld_blt I hg hm PyProof.Rows.boot_zip (PyProof.Rows.callWith_type1 (thn (ha.run pos pins s σ H _ I h) fun us s1 ⟨vs, H1, I1, r1, q1⟩ => ?_) hs hpl))
  obtain ⟨z1, z2, z3, xs1, xs2, xs3, ex, q1, q2, q3, q⟩ := q1
  subst ex
  cases r1 with
  | cons r1 rr =>
    cases rr with
    | cons r2 rr =>
      cases rr with
      | cons r3 rr =>
        cases rr
        obtain ⟨o1, G1, B1, h1, i1, l1⟩ := z1.begins I1 q1 r1
        obtain ⟨o2, G2, B2, h2, i2, l2⟩ := z2.begins I1 q2 r2
        obtain ⟨o3, G3, B3, h3, i3, l3⟩ := z3.begins I1 q3 r3
        have fresh5 : ∀ c, c ∈ [s1.heap.objs.size + 5, s1.heap.objs.size + 3, s1.heap.objs.size + 4, s1.heap.objs.size, s1.heap.objs.size + 1, s1.heap.objs.size + 2] → FpOk X pins H1 c := fun c hcm => by
          have e' : c = s1.heap.objs.size + 5 ∨ c = s1.heap.objs.size + 3 ∨ c = s1.heap.objs.size + 4 ∨ c = s1.heap.objs.size ∨ c = s1.heap.objs.size + 1 ∨ c = s1.heap.objs.size + 2 := by simpa using hcm
          have hle : s1.heap.objs.size ≤ c := by omega
          exact I1.fpOk hle (I1.hok.fresh hle)
        refine zip_begins3 B1 B2 B3 h1 h2 h3 fun h' hz hTI hTO g1 g2 g3 hsz hk => wpAny_pyIter_zip hz ?_
        have I2 : Inv X pins σ H1 { s1 with heap := h' } := I1.kept (t' := s1.toks) hk
        exact ⟨s1.heap.objs.size + 5, [s1.heap.objs.size + 5, s1.heap.objs.size + 3, s1.heap.objs.size + 4, s1.heap.objs.size, s1.heap.objs.size + 1, s1.heap.objs.size + 2], _, _, H1, rfl, I2, turn_zip3 l1 l2 l3, ⟨hz, hTI, ⟨_, _, _, hTO⟩, i1 _ _ g1, i2 _ _ g2, i3 _ _ g3⟩, fresh5, q⟩
theorem for_zip3 {K : PySem.W.Frag} {z1 z2 z3 : ZS} {xs1 xs2 xs3 : List V} {n : Nat} {g : TG} {tb : TS} {D : Ends} {σ : L2.St} {H : Hp} (n1 : xs1.length = n) (n2 : xs2.length = n) (n3 : xs3.length = n) (Pv : Nat → L2.St → Hp → Prop) (h0 : Pv 0 σ H) (hl : ∀ i σ H, i ≤ n → Pv i σ H → z1.at K H xs1 ∧ z2.at K H xs2 ∧ z3.at K H xs3)
    (hs : ∀ (i : Nat) (x1 x2 x3 : V) (T : Addr) (σ : L2.St) (H : Hp), xs1[i]? = some x1 → xs2[i]? = some x2 → xs3[i]? = some x3 → H T = none → Pv i σ H → g (.ref T) σ (upd H T (.tup [x1, x2, x3])) fun σ2 H2 => tb { D with nx := Pv (i + 1), ct := Pv (i + 1), bk := D.nx } σ2 H2) (hd : ∀ σ H, Pv n σ H → D.nx σ H) :
    ∃ W : Nat → Nat → L2.St → Hp → Prop, (∃ m, W 0 m σ H) ∧ ∀ i m σ H, W i m σ H →
      ((Itz3 K z1 z2 z3).stop i H ∧ D.nx σ H) ∨ ((Itz3 K z1 z2 z3).go i H ∧ ∃ N : L2.St → Hp → Prop, (∀ σ' H', N σ' H' → ∃ m', m' < m ∧ W (i + 1) m' σ' H') ∧ ∀ v H', (Itz3 K z1 z2 z3).yld i H v H' → g v σ H' fun σ2 H2 => tb { D with nx := N, ct := N, bk := D.nx } σ2 H2) := by
  refine ⟨fun i m σ H => m = n - i ∧ i ≤ n ∧ Pv i σ H, ⟨n, rfl, Nat.zero_le _, h0⟩, ?_⟩
  rintro i m σ H ⟨rfl, hi, p⟩
  obtain ⟨q1, q2, q3⟩ := hl i σ H hi p
  by_cases hlt : i < n
  · have e1 : xs1[i]? = some (xs1[i]'(by omega)) := List.getElem?_eq_getElem _
    have e2 : xs2[i]? = some (xs2[i]'(by omega)) := List.getElem?_eq_getElem _
    have e3 : xs3[i]? = some (xs3[i]'(by omega)) := List.getElem?_eq_getElem _
    refine .inr ⟨⟨xs1, xs2, xs3, _, _, _, q1, q2, q3, e1, e2, e3⟩, Pv (i + 1), fun σ' H' p' => ⟨n - (i + 1), by omega, rfl, hlt, p'⟩, fun v H' y => ?_⟩
    obtain ⟨T, y1, y2, y3, rfl, hT, rfl, f1, f2, f3⟩ := y
    exact hs i y1 y2 y3 T σ H (f1 xs1 q1) (f2 xs2 q2) (f3 xs3 q3) hT p
  · have e : i = n := by omega
    subst e
    exact .inl ⟨⟨xs1, xs2, xs3, q1, q2, q3, by omega, by omega, by omega, .inl (by omega)⟩, hd σ H p⟩
theorem lc_zip3 {K : PySem.W.Frag} {z1 z2 z3 : ZS} {xs1 xs2 xs3 : List V} {n : Nat} {g : TG} {tt : TT} {te : TE} {vs : List Nat} {σ : L2.St} {H1 : Hp} {D : Addr} {Qd : Hp → Prop} (n1 : xs1.length = n) (n2 : xs2.length = n) (n3 : xs3.length = n) (Pv : Nat → Hp → Prop) (h0 : Pv 0 (upd H1 D (.lst []))) (hl : ∀ i H, i ≤ n → Pv i H → z1.at K H xs1 ∧ z2.at K H xs2 ∧ z3.at K H xs3)
    (hs : ∀ (i : Nat) (x1 x2 x3 : V) (T : Addr) (H : Hp), xs1[i]? = some x1 → xs2[i]? = some x2 → xs3[i]? = some x3 → H T = none → Pv i H → g (.ref T) (wipe σ vs) (upd H T (.tup [x1, x2, x3])) fun σ2 H2 => wipe σ2 vs = wipe σ vs ∧ tt σ2 H2 fun b H3 =>
      if b = true then te σ2 H3 fun y H4 => ∃ acc, H4 D = some (.lst acc) ∧ acc.length < sizeLine ∧ Pv (i + 1) (upd H4 D (.lst (acc ++ [y]))) else Pv (i + 1) H3) (hd : ∀ H, Pv n H → Qd H) :
    ∃ W : Nat → Nat → Hp → Prop, (∃ m, W 0 m (upd H1 D (.lst []))) ∧ ∀ i m H, W i m H →
      ((Itz3 K z1 z2 z3).stop i H ∧ Qd H) ∨ ((Itz3 K z1 z2 z3).go i H ∧ ∃ Nx : Hp → Prop, (∀ H', Nx H' → ∃ m', m' < m ∧ W (i + 1) m' H') ∧ ∀ x H', (Itz3 K z1 z2 z3).yld i H x H' → g x (wipe σ vs) H' fun σ2 H2 => wipe σ2 vs = wipe σ vs ∧ tt σ2 H2 fun b H3 =>
        if b = true then te σ2 H3 fun y H4 => ∃ acc, H4 D = some (.lst acc) ∧ acc.length < sizeLine ∧ Nx (upd H4 D (.lst (acc ++ [y]))) else Nx H3) := by
  refine ⟨fun i m H => m = n - i ∧ i ≤ n ∧ Pv i H, ⟨n, by simp, Nat.zero_le _, h0⟩, ?_⟩
  rintro i m H ⟨rfl, hi, p⟩
  obtain ⟨q1, q2, q3⟩ := hl i H hi p
  by_cases hlt : i < n
  · have e1 : xs1[i]? = some (xs1[i]'(by omega)) := List.getElem?_eq_getElem _
    have e2 : xs2[i]? = some (xs2[i]'(by omega)) := List.getElem?_eq_getElem _
    have e3 : xs3[i]? = some (xs3[i]'(by omega)) := List.getElem?_eq_getElem _
    refine .inr ⟨⟨xs1, xs2, xs3, _, _, _, q1, q2, q3, e1, e2, e3⟩, Pv (i + 1), fun H' p' => ⟨n - (i + 1), by omega, rfl, hlt, p'⟩, fun v H' y => ?_⟩
    obtain ⟨T, y1, y2, y3, rfl, hT, rfl, f1, f2, f3⟩ := y
    exact hs i y1 y2 y3 T H (f1 xs1 q1) (f2 xs2 q2) (f3 xs3 q3) hT p
  · have e : i = n := by omega
    subst e
    exact .inl ⟨⟨xs1, xs2, xs3, q1, q2, q3, by omega, by omega, by omega, .inl (by omega)⟩, hd H p⟩
theorem gx_zip3 {α : Type} {K : PySem.W.Frag} {z1 z2 z3 : ZS} {xs1 xs2 xs3 : List V} {n : Nat} {g : TG} {tt : TT} {te : TE} {vs : List Nat} {σ0 : L2.St} {End : α → Hp → Prop} {Yd : α → V → Hp → (α → Hp → Prop) → Prop} {a0 : α} {H0 : Hp} (n1 : xs1.length = n) (n2 : xs2.length = n) (n3 : xs3.length = n) (Pv : Nat → α → Hp → Prop) (h0 : Pv 0 a0 H0) (hl : ∀ i c H, i ≤ n → Pv i c H → z1.at K H xs1 ∧ z2.at K H xs2 ∧ z3.at K H xs3)
    (hs : ∀ (i : Nat) (x1 x2 x3 : V) (T : Addr) (c : α) (H : Hp), xs1[i]? = some x1 → xs2[i]? = some x2 → xs3[i]? = some x3 → H T = none → Pv i c H → g (.ref T) σ0 (upd H T (.tup [x1, x2, x3])) fun σ2 H2 => wipe σ2 vs = σ0 ∧ tt σ2 H2 fun b H3 => if b = true then te σ2 H3 fun y H4 => Yd c y H4 (Pv (i + 1)) else Pv (i + 1) c H3) (hd : ∀ c H, Pv n c H → End c H) :
    ∃ W : Nat → Nat → α → Hp → Prop, (∃ m, W 0 m a0 H0) ∧ tGx (Itz3 K z1 z2 z3) g tt te σ0 vs End Yd W := by
  refine ⟨fun i m c H => m = n - i ∧ i ≤ n ∧ Pv i c H, ⟨n, rfl, Nat.zero_le _, h0⟩, ?_⟩
  rintro i m c H ⟨rfl, hi, p⟩
  obtain ⟨q1, q2, q3⟩ := hl i c H hi p
  by_cases hlt : i < n
  · have e1 : xs1[i]? = some (xs1[i]'(by omega)) := List.getElem?_eq_getElem _
    have e2 : xs2[i]? = some (xs2[i]'(by omega)) := List.getElem?_eq_getElem _
    have e3 : xs3[i]? = some (xs3[i]'(by omega)) := List.getElem?_eq_getElem _
    refine .inr ⟨⟨xs1, xs2, xs3, _, _, _, q1, q2, q3, e1, e2, e3⟩, Pv (i + 1), fun c' H' p' => ⟨n - (i + 1), by omega, rfl, hlt, p'⟩, fun v H' y => ?_⟩
    obtain ⟨T, y1, y2, y3, rfl, hT, rfl, f1, f2, f3⟩ := y
    exact hs i y1 y2 y3 T c H (f1 xs1 q1) (f2 xs2 q2) (f3 xs3 q3) hT p
  · have e : i = n := by omega
    subst e
    exact .inl ⟨⟨xs1, xs2, xs3, q1, q2, q3, by omega, by omega, by omega, .inl (by omega)⟩, hd c H p⟩
end ZpG

/-! ### all but some tables stays -/
def GrT (Ps : List Addr) (H H' : Hp) : Prop := (∀ b o, b ∉ Ps → H b = some o → H' b = some o) ∧ ∀ P ∈ Ps, GxR.TabG H P → GxR.TabG H' P
theorem GrT.of {Ps : List Addr} {H H' : Hp} (s : Same H H') : GrT Ps H H' := ⟨fun b o _ e => s b o e, fun P _ ⟨ps, e, t⟩ => ⟨ps, s _ _ e, t⟩⟩
theorem GrT.refl {Ps : List Addr} {H : Hp} : GrT Ps H H := GrT.of (Same.refl H)
theorem GrT.trans {Ps : List Addr} {H H1 H2 : Hp} (a : GrT Ps H H1) (b : GrT Ps H1 H2) : GrT Ps H H2 := ⟨fun c o n e => b.1 c o n (a.1 c o n e), fun P h t => b.2 P h (a.2 P h t)⟩
theorem GrT.then {Ps : List Addr} {H H1 H2 : Hp} (a : GrT Ps H H1) (b : Same H1 H2) : GrT Ps H H2 := a.trans (GrT.of b)
theorem GrT.tab {Ps : List Addr} {P : Addr} {H H' : Hp} (m : P ∈ Ps) (h : GxR.Tabbed P H H') : GrT Ps H H' := by
  refine ⟨fun b o n e => ?_, fun Q _ t => ?_⟩
  · rw [h.2 b (fun z => n (by rw [z]; exact m))]
    exact e
  · by_cases z : Q = P
    · rw [z]; exact h.1
    · obtain ⟨ps, e, t⟩ := t
      exact ⟨ps, by rw [h.2 Q z]; exact e, t⟩
theorem GrT.tabs {Ps : List Addr} {H H' : Hp} (g : GrT Ps H H') (t : Tabs H Ps) : Tabs H' Ps := fun P h => g.2 P h (t P h)
theorem Tabs.off {Ps : List Addr} {H : Hp} {b : Addr} {o : HO} (t : Tabs H Ps) (n : ∀ ps, o ≠ HO.tbl ps) (e : H b = some o) : b ∉ Ps := fun m => by
  obtain ⟨ps, e', _⟩ := t b m
  rw [e] at e'
  exact n ps (Option.some.inj e')
theorem GrT.tup {Ps : List Addr} {H H' : Hp} (g : GrT Ps H H') (t : Tabs H Ps) {a : Addr} {xs : List V} (h : H a = some (.tup xs)) : H' a = some (.tup xs) := g.1 a _ (t.off (fun _ z => by cases z) h) h
theorem GrT.lst {Ps : List Addr} {H H' : Hp} (g : GrT Ps H H') (t : Tabs H Ps) {a : Addr} {xs : List V} (h : H a = some (.lst xs)) : H' a = some (.lst xs) := g.1 a _ (t.off (fun _ z => by cases z) h) h
theorem GrT.gr {Ps : List Addr} {H H' : Hp} (g : GrT Ps H H') (t : Tabs H Ps) : Gr H H' := by
  refine ⟨fun b o n e => g.1 b o (t.off n e) e, fun b q => ?_⟩
  by_cases m : b ∈ Ps
  · exact g.2 b m q
  · obtain ⟨ps, e, q⟩ := q
    exact ⟨ps, g.1 b _ m e, q⟩
theorem GrT.hid {Ps : List Addr} {D : Addr} {H H' : Hp} (g : GrT Ps H H') : GrT Ps (hd1 D H) (hd1 D H') := by
  refine ⟨fun b o n e => ?_, fun P m ⟨ps, e, t⟩ => ?_⟩
  · have z : b ≠ D := fun z => by unfold Gk.hd1 at e; rw [if_pos z] at e; cases e
    rw [hd1_at z] at e ⊢
    exact g.1 b o n e
  · have z : P ≠ D := fun z => by unfold Gk.hd1 at e; rw [if_pos z] at e; cases e
    rw [hd1_at z] at e
    obtain ⟨ps', e', t'⟩ := g.2 P m ⟨ps, e, t⟩
    exact ⟨ps', by rw [hd1_at z]; exact e', t'⟩
theorem GrT.le {Ps : List Addr} {D : Addr} {H H' : Hp} (g : GrT Ps H (hd1 D H')) : GrT Ps H H' := g.then hd1_le
theorem Tabs.hd {Ps : List Addr} {D : Addr} {H : Hp} {xs : List V} (t : Tabs H Ps) (h : H D = some (.lst xs)) : Tabs (hd1 D H) Ps := fun P m => TabG_hd1 (t P m) fun z => t.off (fun _ z => by cases z) h (by rw [z]; exact m)
theorem Tabs.same {Ps : List Addr} {H H' : Hp} (t : Tabs H Ps) (s : Same H H') : Tabs H' Ps := (GrT.of s).tabs t

/-! ### what a row settles -/
def pickI (ws : List Int) (ins : List Nat) : List Int := ins.map fun i => ws.getD i 0
def stepS (ws : List Int) (g : Gt) : List Int := ws ++ [gateM g.1 (pickI ws g.2)]
def settledM (gs : List Gt) (r : List Int) : List Int := gs.foldl stepS r
theorem settledM_take {gs : List Gt} {k : Nat} {g : Gt} (h : gs[k]? = some g) (r : List Int) : settledM (gs.take (k + 1)) r = stepS (settledM (gs.take k) r) g := by
  rw [List.take_add_one, h]
  unfold settledM
  show ((gs.take k) ++ [g]).foldl stepS r = _
  rw [List.foldl_append]
  rfl
theorem settledM_len (gs : List Gt) (r : List Int) : (settledM gs r).length = r.length + gs.length := by
  induction gs generalizing r with
  | nil => rfl
  | cons g t ih =>
    show (settledM t (stepS r g)).length = _
    rw [ih]
    unfold stepS
    rw [List.length_append, List.length_cons, List.length_cons, List.length_nil]
    omega
theorem Row01.snoc {r : List Int} {v : Int} (h : Row01 r) (hv : v = 0 ∨ v = 1) : Row01 (r ++ [v]) := fun x hx => by
  rcases List.mem_append.mp hx with z | z
  · exact h x z
  · rw [List.mem_singleton.mp z]; exact hv
theorem settledM_01 (gs : List Gt) (r : List Int) (h : Row01 r) : Row01 (settledM gs r) := by
  induction gs generalizing r with
  | nil => exact h
  | cons g t ih => exact ih (stepS r g) (h.snoc (gate01 _ _))
theorem getD_01 {r : List Int} (h : Row01 r) (i : Nat) : r.getD i 0 = 0 ∨ r.getD i 0 = 1 := by
  rw [List.getD_eq_getElem?_getD]
  cases e : r[i]? with
  | none => exact .inl rfl
  | some x => exact h x (List.mem_of_getElem? e)
theorem pick_01 {r : List Int} (h : Row01 r) (ins : List Nat) : ∀ x ∈ pickI r ins, x = 0 ∨ x = 1 := fun x hx => by
  obtain ⟨i, _, rfl⟩ := List.mem_map.mp hx
  exact getD_01 h i

def sp_settled (K : PySem.W.Frag) : Sp := fun vs H Q _ => ∃ (nv rv : V) (m : Int) (gs : List Gt) (a : List Int), vs = [nv, rv] ∧ Tk H nv (netD m gs) ∧ Tk H rv (rowD a) ∧ Row01 a ∧ a.length ≤ 16 ∧ gs.length ≤ 1000 ∧ NetOk a.length gs ∧ ∀ r H', Same H H' → Tk H' (.ref r) (rowD (settledM gs a)) → Q (.ref r) H'
theorem ok_settled (T : Tx K mg) : FnOk P w K mg base CX0 2 T.f_settled T.fd_settled ["net", "row"] (sp_settled K) := by
  refine T.F_settled.ok sc_settled (fun vs H Q E h => ?_) (fun cdv A outer s H vs Q E hr h => ?_)
  · obtain ⟨nv, rv, m, gs, a, rfl, _⟩ := h
    rfl
  · obtain ⟨nv, rv, m, gs, a, rfl, tn, tr, ha, h16, h64, ok, q⟩ := h
    refine ⟨_, (pss_cons (ps_set (i := 2) sc_settled.nd rfl (by first | exact .inl rfl | exact .inr rfl) (pe_callTy call_list_of (by rfl) T.m_list (by decide +kernel) (pa_cons (pv 1) pa_nil))) (pss_cons (ps_for PassesOwn.never rfl (pi_tup (pe_ix ix_tup (pv 0) pe_int (fun _ _ => rfl))) (pg_tup rfl (pgs_cons (pg_name (i := 3) sc_settled.nd rfl (by first | exact .inl rfl | exact .inr rfl)) (pgs_cons (pg_name (i := 4) sc_settled.nd rfl (by first | exact .inl rfl | exact .inr rfl)) pgs_nil))) (pss_one (ps_expr (pe_bm PySem.F.plainAttrs_list PySem.F.slot_list_append PySem.F.type_list_append mt_append (pv 2) (pa_cons (pe_call (ok_table_worth T) (hr.mono (by decide)) (by rfl) T.g_table_worth T.F_table_worth.kp T.b_table_worth .nil pass0 (pa_cons (pv 3) (pa_cons (pe_lc (own := [("wire", 5)]) (by rfl) sc_settled.nd (pi_tup (pv 4)) (blkOk_by (own := [("wire", 5)]) (N := ["net", "row", "worths", "table", "ins", "wire"]) (sc := defScope s_settled) (by decide +kernel)) (fun _ _ _ _ _ => (pg_name (i := 5) sc_settled.nd rfl (by first | exact .inl rfl | exact .inr rfl))) (fun _ _ _ _ _ => pts_nil) (fun _ _ _ _ _ => (pe_ix (show IxR _ (rIxL K) from ix_list) (pv 2) (pv 5) (fun _ _ => rfl)))) pa_nil))) pa_nil))))) (pss_one (ps_ret (pe_callTy call_tuple_of (by rfl) T.m_tuple (by decide +kernel) (pa_cons (pv 2) pa_nil)))))), ?_⟩
    obtain ⟨n, g, xs, rfl, hn, hg, tg⟩ := tn.net_inv
    obtain ⟨ra, rfl, hra⟩ := tr.row_inv
    have xl : xs.length = gs.length := by rw [tg.length, List.length_map]
    refine ⟨.ref ra, rfl, ra, _, rfl, .inr (SqT.of hra), fun L nL => ?_⟩
    have s1 := same_upd (o := HO.lst (a.map V.int)) nL
    refine ⟨.ref n, rfl, n, _, 1, .ref g, rfl, rfl, SqT.of (s1 _ _ hn), rfl, g, rfl, ⟨_, SqT.of (s1 _ _ hg)⟩, ?_⟩
    refine for_tup (K := K) (a := g) (xs := xs) (fun i σ H' => ∃ y3 y4, σ = [some (.ref n), some (.ref ra), some (.ref L), y3, y4, none] ∧ Same H (hd1 L H') ∧ H' L = some (.lst ((settledM (gs.take i) a).map V.int)))
      ⟨_, _, rfl, hd1_of s1 nL, upd_same⟩ (fun i σ H' _ ⟨_, _, _, hP, _⟩ => SqT.of (hd1_le _ _ (hP _ _ hg))) ?_ ?_
    · rintro i v σ H2 hv ⟨y3, y4, rfl, s2, hL⟩
      have s02 : Same H H2 := fun b o e => hd1_le _ _ (s2 _ _ e)
      obtain ⟨gt, hgt, tgt⟩ := tg.at hv
      obtain ⟨ga, ii, rfl, hga, hii⟩ := (tgt.same s02).gt_inv
      obtain ⟨ok1, ok2, ok3, ok4⟩ := ok i gt hgt
      have hil := (List.getElem?_eq_some_iff.mp hgt).1
      have sl : (settledM (gs.take i) a).length = a.length + i := by
        rw [settledM_len, List.length_take]
        omega
      have s01 := settledM_01 (gs.take i) a ha
      refine ⟨ga, _, rfl, SqT.of hga, rfl, _, _, rfl, _, _, rfl, rfl, ?_⟩
      refine ⟨.ref L, rfl, .inl ⟨rfl, _, SqL.of hL⟩, .str (tabOf gt.1), rfl, .ref ii, rfl, ii, rfl, ⟨_, SqT.of hii⟩, fun M nM => ?_⟩
      refine lc_tup (K := K) (a := ii) (xs := (gt.2.map Int.ofNat).map V.int) (fun j H' => Same H2 (hd1 M H') ∧ H' M = some (.lst ((pickI (settledM (gs.take i) a) (gt.2.take j)).map V.int))) ⟨hd1_of (same_upd nM) nM, upd_same⟩ (fun j H' _ hP => SqT.of (hd1_le _ _ (hP.1 _ _ hii))) ?_ ?_
      · rintro j x H3 hx ⟨s3, hM⟩
        rw [List.getElem?_map, List.getElem?_map] at hx
        cases hj : gt.2[j]? with
        | none => rw [hj] at hx; cases hx
        | some k =>
          rw [hj] at hx
          cases Option.some.inj hx
          have hk := ok4 k (List.mem_of_getElem? hj)
          have hjl := (List.getElem?_eq_some_iff.mp hj).1
          have hat : ((settledM (gs.take i) a).map V.int)[k]? = some (.int ((settledM (gs.take i) a).getD k 0)) := by
            rw [List.getElem?_map, List.getD_eq_getElem?_getD, List.getElem?_eq_getElem (by omega)]
            rfl
          refine ⟨rfl, .ref L, rfl, .int (Int.ofNat k), rfl, L, _, Int.ofNat k, _, rfl, rfl, SqL.of (hd1_le _ _ (s3 _ _ hL)), atI_nat hat, _, hM, ?_, s3.trans hd1_upd, ?_⟩
          · unfold pickI
            rw [List.length_map, List.length_map, List.length_take]
            exact Nat.lt_of_lt_of_le (show _ < 8 by omega) (by decide)
          · rw [upd_same, List.take_add_one, hj]
            unfold pickI
            rw [List.map_append, List.map_append]
            rfl
      · rintro H3 ⟨s3, hM⟩
        rw [List.length_map, List.length_map, List.take_length] at hM
        have s23 : Same H2 H3 := fun b o e => hd1_le _ _ (s3 _ _ e)
        have pl : (pickI (settledM (gs.take i) a) gt.2).length = gt.2.length := by unfold pickI; rw [List.length_map]
        refine ⟨gt.1, M, _, rfl, SqL.of hM, pick_01 s01 _, by rw [pl]; exact ok1, by rw [pl]; exact ok3, ?_⟩
        refine ⟨L, _, _, rfl, rfl, s23 _ _ hL, ?_, ?_⟩
        · rw [List.length_map, sl]
          exact Nat.lt_of_lt_of_le (show _ < 2000 by omega) (by decide)
        · refine ⟨_, _, rfl, s2.trans ((hd1_same s23).trans hd1_upd), ?_⟩
          rw [upd_same, settledM_take hgt]
          unfold stepS
          rw [List.map_append]
          rfl
    · rintro σ H2 ⟨y3, y4, rfl, s2, hL⟩
      rw [xl, List.take_length] at hL
      refine ⟨.ref L, rfl, L, _, rfl, .inl ⟨SqL.of hL, fun t nt => ?_⟩⟩
      exact q t _ (Same.trans (fun b o e => hd1_le _ _ (s2 _ _ e)) (same_upd nt)) (.tup upd_same (TkAll.ints _))

/-! ### numbers of nets -/
def pickN (ns : List Nat) (ins : List Nat) : List Nat := ins.map fun i => ns.getD i 0
def numG (fs : List Int) (ns : List Nat) (g : Gt) : Int := gr g.1 (pickI fs g.2) (pickN ns g.2) (zeros (pickN ns g.2))
def partG (fs : List Int) (ns : List Nat) (g : Gt) : List Int := (every (pickN ns g.2)).map (gr g.1 (pickI fs g.2) (pickN ns g.2))
def stepN (fs : List Int) (ns : List Nat) (g : Gt) : List Nat := ns ++ [(numG fs ns g).toNat]
def numsM (fs : List Int) (gs : List Gt) (ns : List Nat) : List Nat := gs.foldl (stepN fs) ns
def partsM (fs : List Int) : List Gt → List Nat → List (List Int)
  | [], _ => []
  | g :: r, ns => partG fs ns g :: partsM fs r (stepN fs ns g)
theorem numsM_take {fs : List Int} {gs : List Gt} {k : Nat} {g : Gt} (h : gs[k]? = some g) (ns : List Nat) : numsM fs (gs.take (k + 1)) ns = stepN fs (numsM fs (gs.take k) ns) g := by
  rw [List.take_add_one, h]
  unfold numsM
  show ((gs.take k) ++ [g]).foldl (stepN fs) ns = _
  rw [List.foldl_append]
  rfl
theorem numsM_len (fs : List Int) (gs : List Gt) (ns : List Nat) : (numsM fs gs ns).length = ns.length + gs.length := by
  induction gs generalizing ns with
  | nil => rfl
  | cons g r ih =>
    show (numsM fs r (stepN fs ns g)).length = _
    rw [ih]
    unfold stepN
    rw [List.length_append, List.length_cons]
    show ns.length + 1 + r.length = ns.length + (r.length + 1)
    omega
theorem partsM_snoc (fs : List Int) (gs : List Gt) (g : Gt) (ns : List Nat) : partsM fs (gs ++ [g]) ns = partsM fs gs ns ++ [partG fs (numsM fs gs ns) g] := by
  induction gs generalizing ns with
  | nil => rfl
  | cons x r ih =>
    show partG fs ns x :: partsM fs (r ++ [g]) (stepN fs ns x) = partG fs ns x :: _ ++ _
    rw [ih]
    rfl
theorem partsM_take {fs : List Int} {gs : List Gt} {k : Nat} {g : Gt} (h : gs[k]? = some g) (ns : List Nat) : partsM fs (gs.take (k + 1)) ns = partsM fs (gs.take k) ns ++ [partG fs (numsM fs (gs.take k) ns) g] := by
  rw [List.take_add_one, h]
  exact partsM_snoc _ _ _ _
theorem partsM_len (fs : List Int) (gs : List Gt) (ns : List Nat) : (partsM fs gs ns).length = gs.length := by
  induction gs generalizing ns with
  | nil => rfl
  | cons x r ih => show (partsM fs r _).length + 1 = r.length + 1; rw [ih]
theorem numsM_pre (fs : List Int) (gs : List Gt) (k : Nat) (ns : List Nat) : ∀ x ∈ numsM fs (gs.take k) ns, x ∈ numsM fs gs ns := by
  have key : ∀ (r : List Gt) (l : List Nat), ∀ x ∈ l, x ∈ r.foldl (stepN fs) l := by
    intro r
    induction r with
    | nil => exact fun l x h => h
    | cons g r ih => exact fun l x h => ih _ x (List.mem_append_left _ h)
  intro x hx
  have e : numsM fs gs ns = (gs.drop k).foldl (stepN fs) (numsM fs (gs.take k) ns) := by
    unfold numsM
    rw [← List.foldl_append, List.take_append_drop]
  rw [e]
  exact key _ _ x hx
theorem part_nums {fs : List Int} {gs : List Gt} {ns : List Nat} {i : Nat} {p : List Int} (h : (partsM fs gs ns)[i]? = some p) : ∃ g, gs[i]? = some g ∧ p = partG fs (numsM fs (gs.take i) ns) g ∧ (numsM fs gs ns)[ns.length + i]? = some (numG fs (numsM fs (gs.take i) ns) g).toNat := by
  induction gs generalizing ns i with
  | nil => simp [partsM] at h
  | cons x r ih =>
    cases i with
    | zero =>
      refine ⟨x, rfl, (Option.some.inj h).symm, ?_⟩
      have key : ∀ (r : List Gt) (l : List Nat) (j : Nat), j < l.length → (r.foldl (stepN fs) l)[j]? = l[j]? := by
        intro r
        induction r with
        | nil => intro l j _; rfl
        | cons g r ih2 =>
          intro l j hj
          show (r.foldl (stepN fs) (stepN fs l g))[j]? = _
          rw [ih2 _ _ (by unfold stepN; rw [List.length_append]; omega)]
          unfold stepN
          rw [List.getElem?_append_left hj]
      show (r.foldl (stepN fs) (stepN fs ns x))[ns.length + 0]? = _
      rw [key _ _ _ (by unfold stepN; rw [List.length_append]; show ns.length + 0 < ns.length + 1; omega)]
      unfold stepN
      rw [List.getElem?_append_right (by omega)]
      show [_][ns.length + 0 - ns.length]? = _
      rw [show ns.length + 0 - ns.length = 0 by omega]
      rfl
    | succ i =>
      obtain ⟨g, h1, h2, h3⟩ := ih (ns := stepN fs ns x) (i := i) h
      refine ⟨g, h1, h2, ?_⟩
      have e : (stepN fs ns x).length = ns.length + 1 := by unfold stepN; rw [List.length_append]; rfl
      rw [e, show ns.length + 1 + i = ns.length + (i + 1) by omega] at h3
      exact h3
def xrN (x y : Int) : Nat := if x = y then 0 else 1
def inN (a b : List Int) : List Nat := List.zipWith xrN a b
theorem inN_len {a b : List Int} (h : a.length = b.length) : (inN a b).length = a.length := by unfold inN; rw [List.length_zipWith, h, Nat.min_self]
theorem xrN_xor {x y : Int} (hx : x = 0 ∨ x = 1) (hy : y = 0 ∨ y = 1) : Builtin.bitXor x y = Int.ofNat (xrN x y) := by
  rcases hx with rfl | rfl <;> rcases hy with rfl | rfl <;> decide +kernel
theorem inN_le (a b : List Int) : ∀ x ∈ inN a b, x ≤ 1 := by
  intro x hx
  unfold inN at hx
  obtain ⟨i, hi⟩ := List.getElem?_of_mem hx
  rw [List.getElem?_zipWith] at hi
  cases ha : a[i]? with
  | none => rw [ha] at hi; cases hi
  | some p =>
    cases hb : b[i]? with
    | none => rw [ha, hb] at hi; cases hi
    | some q =>
      rw [ha, hb] at hi
      cases Option.some.inj hi
      unfold xrN
      split <;> omega
theorem Tk.ts0 {H H' : Hp} {v : V} {r : List Int} (h : Tk H v (rowD r)) (s : ∀ b xs, H b = some (HO.tup xs) → H' b = some (.tup xs)) : Tk H' v (rowD r) := by
  obtain ⟨a, rfl, ha⟩ := h.row_inv
  exact .tup (s _ _ ha) (TkAll.ints _)
theorem vints_at {ws : List Int} {i : Nat} {v : V} (h : (ws.map V.int)[i]? = some v) : ∃ u, ws[i]? = some u ∧ v = .int u := by
  rw [List.getElem?_map] at h
  cases hz : ws[i]? with
  | none => rw [hz] at h; cases h
  | some u => rw [hz] at h; exact ⟨u, rfl, (Option.some.inj h).symm⟩
def Tx.pt (T : Tx K mg) : List Addr := [T.P_input_numbers, T.P_at_wires, T.P_part_holds]
theorem pt_in (T : Tx K mg) : T.P_input_numbers ∈ T.pt := by unfold Tx.pt; simp
theorem pt_at (T : Tx K mg) : T.P_at_wires ∈ T.pt := by unfold Tx.pt; simp
def sp_input_numbers (K : PySem.W.Frag) (Ps : List Addr) : Sp := fun vs H Q _ => ∃ (cv : V) (a b : List Int), vs = [cv] ∧ Tk H cv (chD a b) ∧ a.length = b.length ∧ Row01 a ∧ Row01 b ∧ a.length ≤ 16 ∧ Tabs H Ps ∧ ∀ r H', GrT Ps H H' → H' r = some (.tup (natV (inN a b))) → Q (.ref r) H'
theorem ok_input_numbers (T : Tx K mg) (B : Tb base T) : FnOk P w K mg base CX0 2 T.f_input_numbers T.fd_input_numbers ["change"] (sp_input_numbers K T.pt) := by
  refine okC T.F_input_numbers sc_input_numbers (fun vs H Q E h => ?_) (fun A outer s H vs Q E hr h => ?_)
  · obtain ⟨cv, a, b, rfl, _⟩ := h
    rfl
  · obtain ⟨cv, a, b, rfl, tc, el, a01, b01, a16, tabs, q⟩ := h
    refine ⟨_, (pss_cons (ps_asg (pv 0) (pg_tup rfl (pgs_cons (pg_name (i := 1) sc_input_numbers.nd rfl (by first | exact .inl rfl | exact .inr rfl)) (pgs_cons (pg_name (i := 2) sc_input_numbers.nd rfl (by first | exact .inl rfl | exact .inr rfl)) pgs_nil)))) (pss_one (ps_ret (pe_tupX (own := [("before", 3), ("after", 4)]) (k := 0) (hr.mono (by decide)) rfl sc_input_numbers.nd (by rfl) T.m_tuple (by decide +kernel) B.TB_input_numbers T.cd_input_numbers rfl rfl (by decide +kernel) (blkOk_by (own := [("before", 3), ("after", 4)]) (N := ["change", "a", "b", "before", "after"]) (sc := defScope s_input_numbers) (by decide +kernel)) (ZpG.pi_zip2 (by rfl) T.m_zip (pa_cons (pv 1) (pa_cons (pv 2) pa_nil))) (fun _ _ _ _ _ _ _ hr gd => (show PG _ _ (gTup K 2 _) from pg_tup rfl (pgs_cons (pg_name (i := 3) sc_input_numbers.nd rfl (by first | exact .inl rfl | exact .inr rfl)) (pgs_cons (pg_name (i := 4) sc_input_numbers.nd rfl (by first | exact .inl rfl | exact .inr rfl)) pgs_nil)))) (fun _ _ _ _ _ _ _ hr gd => pts_nil) (fun _ _ _ _ _ _ _ hr gd => (pe_op op_xor (pv 3) (pv 4))) (fun _ => rfl))))), ?_⟩
    obtain ⟨c, ra, rb, rfl, hc, hra, hrb⟩ := tc.ch_inv
    have sl : (16777216 : Nat) = sizeLine := by decide
    refine ⟨.ref c, rfl, c, _, rfl, SqT.of hc, rfl, _, _, rfl, _, _, rfl, rfl, ?_⟩
    refine ⟨.ref ra, rfl, .ref rb, rfl, .tu ra, .tu rb, _, _, rfl, SqT.of hra, SqT.of hrb, tabs _ (pt_in T), fun H2 tb2 => ?_⟩
    have g2 := GrT.tab (pt_in T) tb2
    have hra2 := g2.tup tabs hra
    have hrb2 := g2.tup tabs hrb
    refine ZpG.gx_zip2 (K := K) (z1 := .tu ra) (z2 := .tu rb) (xs1 := a.map V.int) (xs2 := b.map V.int) (n := a.length) (by rw [List.length_map]) (by rw [List.length_map]; exact el.symm)
      (fun i ys H' => Same H2 H' ∧ ys = natV ((inN a b).take i)) ⟨Same.refl _, rfl⟩ (fun i ys H' _ hP => ⟨SqT.of (hP.1 _ _ hra2), SqT.of (hP.1 _ _ hrb2)⟩) ?_ ?_
    · rintro i x y Tq ys H3 hx hy nT ⟨s3, rfl⟩
      obtain ⟨p, hp, rfl⟩ := vints_at hx
      obtain ⟨u, hu, rfl⟩ := vints_at hy
      have hn : (inN a b)[i]? = some (xrN p u) := by
        unfold inN
        rw [List.getElem?_zipWith, hp, hu]
      refine ⟨Tq, _, rfl, SqT.of upd_same, rfl, _, _, rfl, _, _, rfl, rfl, rfl, ?_⟩
      refine ⟨.int p, rfl, .int u, rfl, _, _, rfl, rfl, ?_, s3.trans (same_upd nT), ?_⟩
      · rw [natV_len, List.length_take, inN_len el]
        omega
      · dsimp only
        rw [xrN_xor (a01 p (List.mem_of_getElem? hp)) (b01 u (List.mem_of_getElem? hu)), List.take_add_one, hn]
        unfold natV
        show _ ++ [_] = ((_ ++ [_]).map Int.ofNat).map V.int
        rw [List.map_append, List.map_append]
        rfl
    · rintro ys H3 ⟨s3, rfl⟩
      rw [List.take_of_length_le (by rw [inN_len el]; exact Nat.le_refl _)]
      refine ⟨by rw [natV_len, inN_len el]; omega, fun p np => ?_⟩
      exact q p _ ((g2.then s3).then (same_upd np)) upd_same
theorem pickI_len (ws : List Int) (ins : List Nat) : (pickI ws ins).length = ins.length := by unfold pickI; rw [List.length_map]
theorem pickN_len (ws : List Nat) (ins : List Nat) : (pickN ws ins).length = ins.length := by unfold pickN; rw [List.length_map]
def sp_at_wiresT (K : PySem.W.Frag) (Ps : List Addr) : Sp := fun vs H Q _ => ∃ (ra ia : Addr) (ws : List Int) (ins : List Nat), vs = [.ref ra, .ref ia] ∧ H ra = some (.tup (ws.map V.int)) ∧ H ia = some (.tup (natV ins)) ∧ (∀ i ∈ ins, i < ws.length) ∧ ins.length ≤ 3 ∧ Tabs H Ps ∧ ∀ r H', GrT Ps H H' → H' r = some (.tup ((pickI ws ins).map V.int)) → Q (.ref r) H'
theorem ok_at_wiresT (T : Tx K mg) (B : Tb base T) : FnOk P w K mg base CX0 2 T.f_at_wires T.fd_at_wires ["row", "wires"] (sp_at_wiresT K T.pt) := by
  refine okC T.F_at_wires sc_at_wires (fun vs H Q E h => ?_) (fun A outer s H vs Q E hr h => ?_)
  · obtain ⟨ra, ia, ws, ins, rfl, _⟩ := h
    rfl
  · obtain ⟨ra, ia, ws, ins, rfl, hra, hia, lt, l3, tabs, q⟩ := h
    refine ⟨_, (pss_one (ps_ret (pe_tupX (own := [("wire", 2)]) (k := 0) (hr.mono (by decide)) rfl sc_at_wires.nd (by rfl) T.m_tuple (by decide +kernel) B.TB_at_wires T.cd_at_wires rfl rfl (by decide +kernel) (blkOk_by (own := [("wire", 2)]) (N := ["row", "wires", "wire"]) (sc := defScope s_at_wires) (by decide +kernel)) (pi_tup (pv 1)) (fun _ _ _ _ _ _ _ hr gd => (pg_name (i := 2) sc_at_wires.nd rfl (by first | exact .inl rfl | exact .inr rfl))) (fun _ _ _ _ _ _ _ hr gd => pts_nil) (fun _ _ _ _ _ _ _ hr gd => (pe_ix (show IxR _ (rIxT K) from ix_tup) (pv 0) (pv 2) (fun _ _ => rfl))) (fun _ => rfl)))), ?_⟩
    have sl : (16777216 : Nat) = sizeLine := by decide
    refine ⟨.ref ia, rfl, ia, rfl, ⟨_, SqT.of hia⟩, tabs _ (pt_at T), fun H2 tb2 => ?_⟩
    have g2 := GrT.tab (pt_at T) tb2
    have hra2 := g2.tup tabs hra
    have hia2 := g2.tup tabs hia
    refine gx_tup (K := K) (a := ia) (xs := natV ins) (fun i ys H' => H' = H2 ∧ ys = (pickI ws (ins.take i)).map V.int) ⟨rfl, rfl⟩ (fun i ys H' _ hP => by rw [hP.1]; exact SqT.of hia2) ?_ ?_
    · rintro i x ys H3 hx ⟨rfl, rfl⟩
      obtain ⟨n, hn, rfl⟩ := natV_inv hx
      have hl := lt n (List.mem_of_getElem? hn)
      have hil := (List.getElem?_eq_some_iff.mp hn).1
      have hw : (ws.map V.int)[n]? = some (.int (ws.getD n 0)) := by rw [List.getElem?_map, List.getD_eq_getElem?_getD, List.getElem?_eq_getElem hl]; rfl
      refine ⟨rfl, .ref ra, rfl, .int (Int.ofNat n), rfl, ra, _, (n : Int), _, rfl, rfl, SqT.of hra2, atI_nat hw, ?_, rfl, ?_⟩
      · rw [List.length_map, pickI_len, List.length_take]
        omega
      · rw [List.take_add_one, hn]
        unfold pickI
        show _ ++ [_] = ((_ ++ [n]).map _).map V.int
        rw [List.map_append, List.map_append]
        rfl
    · rintro ys H3 ⟨rfl, rfl⟩
      rw [natV_len, List.take_length]
      refine ⟨by rw [List.length_map, pickI_len]; omega, fun p np => ?_⟩
      exact q p _ (g2.then (same_upd np)) upd_same

end
end Gk

set_option Elab.async false
set_option linter.all false
set_option maxRecDepth 100000
set_option maxHeartbeats 1000000
set_option pp.maxSteps 1500
set_option pp.deepTerms false
namespace Gk
open PySem PySem.Spec PyProof.Rows L2
section
variable {P : Program} {w : World} {K : PySem.W.Frag} {mg : Str → Option Value} {base : Heap}
def sp_at_wiresL (K : PySem.W.Frag) (Ps : List Addr) : Sp := fun vs H Q _ => ∃ (ra ia : Addr) (ws ins : List Nat), vs = [.ref ra, .ref ia] ∧ H ra = some (.lst (natV ws)) ∧ H ia = some (.tup (natV ins)) ∧ (∀ i ∈ ins, i < ws.length) ∧ ins.length ≤ 3 ∧ Tabs H Ps ∧ ∀ r H', GrT Ps H H' → H' r = some (.tup (natV (pickN ws ins))) → Q (.ref r) H'
theorem ok_at_wiresL (T : Tx K mg) (B : Tb base T) : FnOk P w K mg base CX0 2 T.f_at_wires T.fd_at_wires ["row", "wires"] (sp_at_wiresL K T.pt) := by
  refine okC T.F_at_wires sc_at_wires (fun vs H Q E h => ?_) (fun A outer s H vs Q E hr h => ?_)
  · obtain ⟨ra, ia, ws, ins, rfl, _⟩ := h
    rfl
  · obtain ⟨ra, ia, ws, ins, rfl, hra, hia, lt, l3, tabs, q⟩ := h
    refine ⟨_, (pss_one (ps_ret (pe_tupX (own := [("wire", 2)]) (k := 0) (hr.mono (by decide)) rfl sc_at_wires.nd (by rfl) T.m_tuple (by decide +kernel) B.TB_at_wires T.cd_at_wires rfl rfl (by decide +kernel) (blkOk_by (own := [("wire", 2)]) (N := ["row", "wires", "wire"]) (sc := defScope s_at_wires) (by decide +kernel)) (pi_tup (pv 1)) (fun _ _ _ _ _ _ _ hr gd => (pg_name (i := 2) sc_at_wires.nd rfl (by first | exact .inl rfl | exact .inr rfl))) (fun _ _ _ _ _ _ _ hr gd => pts_nil) (fun _ _ _ _ _ _ _ hr gd => (pe_ix (show IxR _ (rIxL K) from ix_list) (pv 0) (pv 2) (fun _ _ => rfl))) (fun _ => rfl)))), ?_⟩
    have sl : (16777216 : Nat) = sizeLine := by decide
    refine ⟨.ref ia, rfl, ia, rfl, ⟨_, SqT.of hia⟩, tabs _ (pt_at T), fun H2 tb2 => ?_⟩
    have g2 := GrT.tab (pt_at T) tb2
    have hra2 := g2.lst tabs hra
    have hia2 := g2.tup tabs hia
    refine gx_tup (K := K) (a := ia) (xs := natV ins) (fun i ys H' => H' = H2 ∧ ys = natV (pickN ws (ins.take i))) ⟨rfl, rfl⟩ (fun i ys H' _ hP => by rw [hP.1]; exact SqT.of hia2) ?_ ?_
    · rintro i x ys H3 hx ⟨rfl, rfl⟩
      obtain ⟨n, hn, rfl⟩ := natV_inv hx
      have hl := lt n (List.mem_of_getElem? hn)
      have hil := (List.getElem?_eq_some_iff.mp hn).1
      have hw : (natV ws)[n]? = some (.int (Int.ofNat (ws.getD n 0))) := natV_at (by rw [List.getD_eq_getElem?_getD, List.getElem?_eq_getElem hl]; rfl)
      refine ⟨rfl, .ref ra, rfl, .int (Int.ofNat n), rfl, ra, _, (n : Int), _, rfl, rfl, SqL.of hra2, atI_nat hw, ?_, rfl, ?_⟩
      · rw [natV_len, pickN_len, List.length_take]
        omega
      · rw [List.take_add_one, hn]
        unfold pickN natV
        show _ ++ [_] = (((_ ++ [n]).map _).map Int.ofNat).map V.int
        rw [List.map_append, List.map_append, List.map_append]
        rfl
    · rintro ys H3 ⟨rfl, rfl⟩
      rw [natV_len ins, List.take_length]
      refine ⟨by rw [natV_len, pickN_len]; omega, fun p np => ?_⟩
      exact q p _ (g2.then (same_upd np)) upd_same

end
end Gk

set_option Elab.async false
set_option linter.all false
set_option maxRecDepth 100000
set_option maxHeartbeats 1000000
set_option pp.maxSteps 1500
set_option pp.deepTerms false
namespace Gk
open PySem PySem.Spec PyProof.Rows L2
section
variable {P : Program} {w : World} {K : PySem.W.Frag} {mg : Str → Option Value} {base : Heap}
/-! ### a tuple told backwards: t[::-1]; and == against nothing -/
namespace TupRev
section
open PySem.W PySem.Calls HT
variable {prog : Program} {w : World} {A : Around} {E : Value → Shared → Prop} {s : Shared}
theorem adj_rev (n : Nat) : Builtin.Slice.sliceAdjust none none (-1) (n : Int) = ((n : Int) - 1, -1) := by
  first
    | rfl
    | simp [Builtin.Slice.sliceAdjust]
theorem places_rev (n : Nat) : Builtin.Slice.slicePlaces ((n : Int) - 1) (-1) (-1) = n := by
  unfold Builtin.Slice.slicePlaces
  by_cases h : n = 0
  · subst h
    decide
  · simp
    omega
theorem applied_rev {sl : Addr} {vl vu vs : Value} {n : Nat} {Q : Int × Int × Nat → Shared → Prop} (slice : s.heap.IsSliceOf sl vl vu vs) (pl : IsPart vl none) (pu : IsPart vu none) (ps : IsPart vs (some (-1))) (fin : Q ((n : Int) - 1, -1, n) s) :
    wpAny (model prog w) A (Builtin.Slice.sliceApplied (.ref sl) (pure (n : Int))) Q E s := by
  obtain ⟨o, ho, hc, parts⟩ := id slice
  unfold Builtin.Slice.sliceApplied Builtin.Slice.sliceFields
  refine wpAny_bind (wpAny_bind (wpAny_field ho parts (x := vl) rfl (wpAny_bind (wpAny_field ho parts (x := vu) rfl (wpAny_bind (wpAny_field ho parts (x := vs) rfl (wpAny_pure ?_)))))))
  refine wpAny_bind (slicePart_ ps ?_)
  show wpAny _ _ (if ((-1 : Int) == 0) = true then _ else _) _ _ s
  rw [if_neg (show ¬ _ by decide)]
  refine wpAny_bind (slicePart_ pl (wpAny_bind (slicePart_ pu (wpAny_bind (wpAny_pure (?_))))))
  show wpAny _ _ (match Builtin.Slice.sliceAdjust none none (-1) (n : Int) with | (a, b) => pure (a, (-1 : Int), Builtin.Slice.slicePlaces a b (-1))) _ _ s
  rw [adj_rev]
  show wpAny _ _ (pure ((n : Int) - 1, (-1 : Int), Builtin.Slice.slicePlaces ((n : Int) - 1) (-1) (-1))) _ _ s
  rw [places_rev]
  exact wpAny_pure fin
theorem pick_rev (xs : Array Value) : ((List.range xs.size).filterMap fun (k : Nat) => xs[((xs.size : Int) - 1 + (k : Int) * (-1)).toNat]?).toArray = xs.toList.reverse.toArray := by
  have e : ((List.range xs.size).filterMap fun (k : Nat) => xs[((xs.size : Int) - 1 + (k : Int) * (-1)).toNat]?) = ((List.range xs.size).map fun k => xs.size - 1 - k).filterMap (xs[·]?) := by
    rw [List.filterMap_map]
    congr 1
    funext k
    show xs[((xs.size : Int) - 1 + (k : Int) * (-1)).toNat]? = xs[xs.size - 1 - k]?
    rw [show ((xs.size : Int) - 1 + (k : Int) * (-1)).toNat = xs.size - 1 - k by omega]
  rw [e, krv_range, List.filterMap_reverse, krv_all]
theorem item_rev {t sl : Addr} {xs : Array Value} {vl vu vs : Value} {Q : Value → Shared → Prop} (tup : IsTup s.heap t xs) (slice : s.heap.IsSliceOf sl vl vu vs) (pl : IsPart vl none) (pu : IsPart vu none) (ps : IsPart vs (some (-1)))
    (fin : Q (.ref s.heap.objs.size) { s with heap := s.heap.push { cls := .type "tuple", data := .seq xs.toList.reverse.toArray } }) (few : xs.size ≤ sizeLine) : wpAny (model prog w) A (getItem (.ref t) (.ref sl)) Q E s := by
  have fits : sizeOk (.seq xs.toList.reverse.toArray) := by
    show xs.toList.reverse.toArray.size ≤ sizeLine
    rw [List.size_toArray, List.length_reverse, Array.length_toList]
    exact few
  obtain ⟨o, ho, hc, parts⟩ := id slice
  have ty : s.TypeIs (.ref sl) "slice" := ⟨o, ho, hc⟩
  unfold getItem
  (try with_reducible refine wpAny_holding (?_)); (first | refine wpAny_bind (wpAny_pure (?_)) | skip)
  refine wpAny_bind (wpAny_sequenceKey tup.typeIs (by decide) ?_)
  refine wpAny_bind (wpAny_callSpecial?_slot (name := Str.ofString "__getitem__") tup.typeIs PyProof.Rows.slot_tuple_getitem (wpAny_call_entry PyProof.Rows.slot_tuple_getitem tup.typeIs entry_tuple_getitem ?_ (args_tuple_getitem _ _)))
  show wpAny _ _ (Builtin.Tuple.tupleItemsOf (Value.ref t) >>= _) _ _ s
  refine wpAny_bind (tupleItemsOf_ tup (wpAny_bind (wpAny_typeOf ty ?_)))
  rw [if_pos (show _ by decide)]
  refine wpAny_bind (applied_rev slice pl pu ps ?_)
  have no : ¬ ((((xs.size : Int) - 1) == 0 && (-1 : Int) == 1 && xs.size == xs.size) = true) := by
    intro z
    rw [Bool.and_eq_true, Bool.and_eq_true] at z
    have := z.1.2
    revert this
    decide
  show wpAny _ _ (if ((((xs.size : Int) - 1) == 0 && (-1 : Int) == 1 && xs.size == xs.size)) = true then _ else _) _ _ s
  rw [if_neg no, pick_rev]
  first
    | exact wpAny_bind (m := Builtin.Tuple.tupleExact _) (wpAny_newObj_type (wpAny_pure ⟨_, rfl, wpAny_pure fin⟩) fits)
    | exact wpAny_bind (m := Builtin.Tuple.tupleExact _) (wpAny_newObj_type (wpAny_bind (wpAny_pure (wpAny_pure ⟨_, rfl, wpAny_pure fin⟩))) fits)
    | exact wpAny_bind (wpAny_bind (m := Builtin.Tuple.tupleExact _) (wpAny_newObj_type (wpAny_pure (wpAny_pure ⟨_, rfl, wpAny_pure fin⟩)) fits))
    | exact wpAny_bind (wpAny_bind (m := Builtin.Tuple.tupleExact _) (wpAny_newObj_type (wpAny_pure ⟨_, rfl, wpAny_pure fin⟩) fits))
end
section
variable {X : Cx}
def tRevT (K : PySem.W.Frag) (te : TE) : TE := fun σ H Q => te σ H fun x H1 => ∃ a xs, x = .ref a ∧ SqT K H1 a xs ∧ ∀ p, H1 p = none → Q (.ref p) (upd H1 p (.tup xs.reverse))
theorem pe_revT {e : Expr} {te : TE} {k : Nat} {p1 p2 p3 pos : Pos} (he : PE X e te) : PE X (.Subscript e (.Slice none none (some (.UnaryOp .USub (.Constant (.int 1) k p1) p2)) p3) pos) (tRevT X.K te) := by
  refine ⟨fun pins s σ H Q I told => Subscript_ (thn (he.run pins s σ H _ I told) ?_)⟩
  rintro v s1 ⟨x, H1, I1, r1, a, xs, rfl, tup, q⟩
  cases r1
  have back : PO X (some (.UnaryOp .USub (.Constant (.int 1) k p1) p2)) (tPart (tUn (rU fun i => .int (-i)) (tC (.int 1)))) := po_some (pe_un un_neg pe_int)
  refine wpAny_Slice (thn (po_none.run pins s1 σ H1 (fun o H2 => o = none ∧ H2 = H1) I1 ⟨rfl, rfl⟩) ?_)
  rintro vl s2 ⟨l, H2, I2, pl, rfl, rfl⟩
  refine thn (po_none.run pins s2 σ H2 (fun o H3 => o = none ∧ H3 = H2) I2 ⟨rfl, rfl⟩) ?_
  rintro vu s3 ⟨u, H3, I3, pu, rfl, rfl⟩
  refine thn (back.run pins s3 σ H3 (fun o H4 => o = some (-1) ∧ H4 = H3) I3 ⟨1, rfl, -1, rfl, rfl, rfl⟩) ?_
  rintro vs s4 ⟨o, H4, I4, ps, rfl, rfl⟩
  have J : Inv X pins σ H4 { s4 with heap := s4.heap.push { cls := .type "slice", data := .fields #[vl, vu, vs] } } := I4.kept (t' := s4.toks) fun b ob z => Heap.get?_push_of_some _ z
  obtain ⟨us, r, ht, few⟩ := J.tuple tup
  have ln := r.length
  show wpAny (model X.prog X.w) X.A (subscriptTail e (.Slice none none (some (.UnaryOp .USub (.Constant (.int 1) k p1) p2)) p3) (.ref a) (.ref s4.heap.objs.size)) (EP X pins σ Q) _ _
  refine tail_any (ops := [.ref a, .ref s4.heap.objs.size]) ht.typeIs (PyProof.Rows.slot_tuple_getitem.lookup) ?_ (by with_unfolding_all rfl)
  refine item_rev ht (Heap.IsSliceOf.new _ vl vu vs) pl pu ps ?_ (by rw [List.size_toArray]; omega)
  refine ⟨.ref _, _, J.laid (t' := s4.toks) (o := .tup xs.reverse) (fun b ob z => Heap.get?_push_of_some _ z) (Nat.le_refl _) ?_, rfl, q _ (J.hok.fresh (Nat.le_refl _))⟩
  exact ⟨by rw [List.length_reverse]; exact few, _, r.reverse, IsTup.new _ _⟩
/-- t == () of any tuple -/
def rEqE (K : PySem.W.Frag) : R2 := fun x y H Q => ∃ a b xs, x = .ref a ∧ y = .ref b ∧ SqT K H a xs ∧ SqT K H b [] ∧ Q (.bl xs.isEmpty) H
theorem op_eqE (hu : X.A.units + 64 < cLine) : OpR X (compareOp .Eq) (rEqE X.K) := by
  intro pins s σ H x y v u Q I rx ry h
  obtain ⟨a, b, xs, rfl, rfl, ha, hb, q⟩ := h
  cases rx
  cases ry
  obtain ⟨us, r1, t1, _⟩ := I.tuple ha
  obtain ⟨ws, r2, t2, _⟩ := I.tuple hb
  cases r2
  refine SeqAt.eq_tupleAt (items2 := #[]) (e := fun _ => true) t1 t2 (by omega) (fun j _ h2 => absurd h2 (Nat.not_lt_zero _)) ?_
  have : ((List.range (min us.toArray.size (#[] : Array Value).size)).all (fun _ => true) && us.toArray.size == (#[] : Array Value).size) = xs.isEmpty := by
    cases r1 with
    | nil => rfl
    | cons _ _ => simp
  show EP X pins σ Q (.bool ((List.range (min us.toArray.size (#[] : Array Value).size)).all (fun _ => true) && us.toArray.size == (#[] : Array Value).size)) s
  rw [this]
  exact ⟨.bl _, H, I, rfl, q⟩
/-- l == [] of any list -/
def rEqN (K : PySem.W.Frag) : R2 := fun x y H Q => ∃ a b xs, x = .ref a ∧ y = .ref b ∧ SqL K H a xs ∧ SqL K H b [] ∧ Q (.bl xs.isEmpty) H
theorem op_eqN (hu : X.A.units + 64 < cLine) : OpR X (compareOp .Eq) (rEqN X.K) := by
  intro pins s σ H x y v u Q I rx ry h
  obtain ⟨a, b, xs, rfl, rfl, ha, hb, q⟩ := h
  cases rx
  cases ry
  obtain ⟨us, r1, t1, _⟩ := I.list ha
  obtain ⟨ws, r2, t2, _⟩ := I.list hb
  cases r2
  cases r1 with
  | nil => exact SeqAt.eq_listAt (e := fun _ => true) t1.isList t2.isList rfl (by omega) (fun j h1 _ => absurd h1 (Nat.not_lt_zero _)) ⟨.bl true, H, I, rfl, q⟩
  | cons _ _ => exact SeqAt.eq_list_lengthsAt t1.isList t2.isList (by simp) (by omega) ⟨.bl false, H, I, rfl, q⟩
end
end TupRev

/-! ### the same reckoned from the first counts on -/
def dec (c : List Nat) (p : Nat) : List Nat := c.set p (c.getD p 0 - 1)
def prevsTo (c : List Nat) (j : Nat) : List Nat := (List.range j).filter fun p => decide (0 < c.getD p 0)
def prevs (c : List Nat) : List Nat := prevsTo c c.length
theorem prev_iff {c : List Nat} {p : Nat} : p ∈ prevs c ↔ p < c.length ∧ 0 < c.getD p 0 := by
  unfold prevs prevsTo
  rw [List.mem_filter, List.mem_range, decide_eq_true_eq]
theorem prevsTo_succ (c : List Nat) (j : Nat) : prevsTo c (j + 1) = prevsTo c j ++ if 0 < c.getD j 0 then [j] else [] := by
  unfold prevsTo
  rw [List.range_succ, List.filter_append, List.filter_cons, List.filter_nil]
  by_cases h : 0 < c.getD j 0
  · rw [if_pos h, decide_eq_true h, if_pos rfl]
  · rw [if_neg h, decide_eq_false h, if_neg Bool.false_ne_true]
theorem getD_set {c : List Nat} {p x : Nat} (h : p < c.length) : (c.set p x).getD p 0 = x := by
  rw [List.getD_eq_getElem?_getD, List.getElem?_set_self h]
  rfl
theorem set_getD {c : List Nat} {p : Nat} (h : p < c.length) : c.set p (c.getD p 0) = c := by
  refine List.ext_getElem? fun i => ?_
  by_cases e : p = i
  · subst e
    rw [List.getElem?_set_self h, List.getD_eq_getElem?_getD, List.getElem?_eq_getElem h]
    rfl
  · rw [List.getElem?_set_ne e]
theorem inc_dec {c : List Nat} {p : Nat} (h : p ∈ prevs c) : inc (dec c p) p = c := by
  obtain ⟨h1, h2⟩ := prev_iff.mp h
  unfold inc dec
  rw [getD_set h1, List.set_set, show c.getD p 0 - 1 + 1 = c.getD p 0 by omega, set_getD h1]
theorem dec_inc {c : List Nat} {p : Nat} (h : p < c.length) : dec (inc c p) p = c := by
  unfold inc dec
  rw [getD_set h, List.set_set, Nat.add_sub_cancel, set_getD h]
theorem dec_len (c : List Nat) (p : Nat) : (dec c p).length = c.length := by unfold dec; rw [List.length_set]
theorem sum_inc : ∀ (c : List Nat) (p : Nat), p < c.length → (inc c p).sum = c.sum + 1
  | [], p, h => by simp at h
  | x :: r, 0, h => by
    show (x + 1) + r.sum = x + r.sum + 1
    omega
  | x :: r, p + 1, h => by
    have := sum_inc r p (by simpa using h)
    show x + (inc r p).sum = x + r.sum + 1
    omega
theorem sum_dec {c : List Nat} {p : Nat} (h : p ∈ prevs c) : (dec c p).sum + 1 = c.sum := by
  have := sum_inc (dec c p) p (by rw [dec_len]; exact (prev_iff.mp h).1)
  rw [inc_dec h] at this
  exact this.symm
def fwF (bs : List Bool) (fs : List Int) : Nat → List Nat → Int
  | 0, _ => 0
  | k + 1, c => mx0 ((prevs c).map fun p => fwF bs fs k (dec c p) + xr (Wc bs fs c) (Wc bs fs (dec c p)))
def fw (bs : List Bool) (fs : List Int) (c : List Nat) : Int := fwF bs fs c.sum c
theorem fw_eq (bs : List Bool) (fs : List Int) (c : List Nat) : fw bs fs c = mx0 ((prevs c).map fun p => fw bs fs (dec c p) + xr (Wc bs fs c) (Wc bs fs (dec c p))) := by
  unfold fw
  cases hk : c.sum with
  | zero =>
    have : prevs c = [] := by
      refine List.eq_nil_iff_forall_not_mem.mpr fun p hp => ?_
      have := sum_dec hp
      omega
    rw [this]
    rfl
  | succ k =>
    show mx0 _ = _
    congr 1
    refine List.map_congr_left fun p hp => ?_
    have := sum_dec hp
    rw [show (dec c p).sum = k by omega]
theorem fw_nonneg (bs : List Bool) (fs : List Int) (c : List Nat) : 0 ≤ fw bs fs c := by rw [fw_eq]; exact mx0_nonneg _
theorem xr_comm (a b : Int) : xr a b = xr b a := by
  unfold xr
  by_cases h : a = b
  · rw [if_pos h, if_pos h.symm]
  · rw [if_neg h, if_neg (fun e => h e.symm)]
theorem fw_ge {bs : List Bool} {fs : List Int} {c : List Nat} {p : Nat} (h : p < c.length) : fw bs fs c + xr (Wc bs fs c) (Wc bs fs (inc c p)) ≤ fw bs fs (inc c p) := by
  have hp : p ∈ prevs (inc c p) := prev_iff.mpr ⟨by rw [inc_len]; exact h, by unfold inc; rw [getD_set h]; omega⟩
  rw [fw_eq bs fs (inc c p)]
  have := (mx_ge ((prevs (inc c p)).map fun q => fw bs fs (dec (inc c p) q) + xr (Wc bs fs (inc c p)) (Wc bs fs (dec (inc c p) q))) 0).2 _ (List.mem_map.mpr ⟨p, hp, rfl⟩)
  rw [dec_inc h, xr_comm] at this
  exact this
theorem gr_ge {bs : List Bool} {fs : List Int} {ns c : List Nat} {p : Nat} (hl : c.length = ns.length) (hp : p ∈ nexts ns c) : gr bs fs ns (inc c p) + xr (Wc bs fs c) (Wc bs fs (inc c p)) ≤ gr bs fs ns c := by
  rw [gr_eq hl]
  exact (mx_ge ((nexts ns c).map fun q => gr bs fs ns (inc c q) + xr (Wc bs fs c) (Wc bs fs (inc c q))) 0).2 _ (List.mem_map.mpr ⟨p, hp, rfl⟩)
theorem Le.dec {c ns : List Nat} {p : Nat} (h : Le c ns) (hp : p ∈ prevs c) : Le (dec c p) ns := by
  obtain ⟨h1, h2⟩ := prev_iff.mp hp
  refine ⟨by rw [dec_len, h.1], fun q x n hx hn => ?_⟩
  unfold Gk.dec at hx
  by_cases e : p = q
  · subst e
    rw [List.getElem?_set_self h1] at hx
    have := Option.some.inj hx
    have hy : c[p]? = some (c.getD p 0) := by rw [List.getD_eq_getElem?_getD, List.getElem?_eq_getElem h1]; rfl
    have := h.2 p _ n hy hn
    omega
  · rw [List.getElem?_set_ne e] at hx
    exact h.2 q x n hx hn
theorem Le.refl (ns : List Nat) : Le ns ns := ⟨rfl, fun p x n hx hn => by rw [hx] at hn; cases hn; exact Nat.le_refl _⟩
theorem dec_next {c ns : List Nat} {p : Nat} (h : Le c ns) (hp : p ∈ prevs c) : p ∈ nexts ns (dec c p) := by
  obtain ⟨h1, h2⟩ := prev_iff.mp hp
  refine next_iff.mpr ⟨by rw [← h.1]; exact h1, ?_⟩
  have hn : ns[p]? = some (ns.getD p 0) := by rw [List.getD_eq_getElem?_getD, List.getElem?_eq_getElem (by rw [← h.1]; exact h1)]; rfl
  have hy : c[p]? = some (c.getD p 0) := by rw [List.getD_eq_getElem?_getD, List.getElem?_eq_getElem h1]; rfl
  have := h.2 p _ _ hy hn
  unfold dec
  rw [getD_set h1]
  omega
theorem ns_of {c ns : List Nat} (h : Le c ns) (hn : nexts ns c = []) : c = ns := by
  refine List.ext_getElem? fun i => ?_
  by_cases hi : i < ns.length
  · have h1 : c[i]? = some (c.getD i 0) := by rw [List.getD_eq_getElem?_getD, List.getElem?_eq_getElem (by rw [h.1]; exact hi)]; rfl
    have h2 : ns[i]? = some (ns.getD i 0) := by rw [List.getD_eq_getElem?_getD, List.getElem?_eq_getElem hi]; rfl
    have h3 := h.2 i _ _ h1 h2
    have h4 : ¬ c.getD i 0 < ns.getD i 0 := fun z => by
      have : i ∈ nexts ns c := next_iff.mpr ⟨hi, z⟩
      rw [hn] at this
      cases this
    rw [h1, h2, show c.getD i 0 = ns.getD i 0 by omega]
  · rw [List.getElem?_eq_none (by rw [h.1]; omega), List.getElem?_eq_none (by omega)]
theorem zeros_of {c ns : List Nat} (h : c.length = ns.length) (hn : prevs c = []) : c = zeros ns := by
  refine List.ext_getElem? fun i => ?_
  unfold zeros
  rw [List.getElem?_replicate]
  by_cases hi : i < ns.length
  · have h1 : c[i]? = some (c.getD i 0) := by rw [List.getD_eq_getElem?_getD, List.getElem?_eq_getElem (by omega)]; rfl
    have h4 : ¬ 0 < c.getD i 0 := fun z => by
      have : i ∈ prevs c := prev_iff.mpr ⟨by omega, z⟩
      rw [hn] at this
      cases this
    rw [if_pos hi, h1, show c.getD i 0 = 0 by omega]
  · rw [if_neg hi, List.getElem?_eq_none (by omega)]
theorem fw_up (bs : List Bool) (fs : List Int) (ns : List Nat) : ∀ (k : Nat) (c : List Nat), c.sum = k → Le c ns → fw bs fs c + gr bs fs ns c ≤ gr bs fs ns (zeros ns) := by
  intro k
  induction k with
  | zero =>
    intro c hk le
    have : prevs c = [] := by
      refine List.eq_nil_iff_forall_not_mem.mpr fun p hp => ?_
      have := sum_dec hp
      omega
    rw [fw_eq, this, zeros_of le.1 this]
    show 0 + _ ≤ _
    omega
  | succ k ih =>
    intro c hk le
    have step : ∀ p ∈ prevs c, fw bs fs (dec c p) + xr (Wc bs fs c) (Wc bs fs (dec c p)) + gr bs fs ns c ≤ gr bs fs ns (zeros ns) := fun p hp => by
      have h1 := ih (dec c p) (by have := sum_dec hp; omega) (le.dec hp)
      have h2 := gr_ge (bs := bs) (fs := fs) (le.dec hp).1 (dec_next le hp)
      rw [inc_dec hp, xr_comm] at h2
      omega
    by_cases he : prevs c = []
    · rw [fw_eq, he, zeros_of le.1 he]
      show 0 + _ ≤ _
      omega
    · obtain ⟨p, hp⟩ := List.exists_mem_of_ne_nil _ he
      have h0 := step p hp
      have h1 := fw_nonneg bs fs (dec c p)
      have h2 := xr01 (Wc bs fs c) (Wc bs fs (dec c p))
      rw [fw_eq]
      have := mx0_le (l := (prevs c).map fun p => fw bs fs (dec c p) + xr (Wc bs fs c) (Wc bs fs (dec c p))) (m := gr bs fs ns (zeros ns) - gr bs fs ns c) (by omega) fun y hy => by
        obtain ⟨q, hq, rfl⟩ := List.mem_map.mp hy
        have := step q hq
        omega
      omega
theorem gr_up (bs : List Bool) (fs : List Int) (ns : List Nat) : ∀ (k : Nat) (c : List Nat), rem ns c = k → Le c ns → gr bs fs ns c + fw bs fs c ≤ fw bs fs ns := by
  intro k
  induction k with
  | zero =>
    intro c hk le
    have : nexts ns c = [] := by
      refine List.eq_nil_iff_forall_not_mem.mpr fun p hp => ?_
      obtain ⟨h1, h2⟩ := next_iff.mp hp
      have := rem_inc ns c p le.1 h1 h2
      omega
    rw [gr_eq le.1, this, ns_of le this]
    show 0 + _ ≤ _
    omega
  | succ k ih =>
    intro c hk le
    have step : ∀ p ∈ nexts ns c, gr bs fs ns (inc c p) + xr (Wc bs fs c) (Wc bs fs (inc c p)) + fw bs fs c ≤ fw bs fs ns := fun p hp => by
      obtain ⟨h1, h2⟩ := next_iff.mp hp
      have h3 := ih (inc c p) (by have := rem_inc ns c p le.1 h1 h2; omega) (le.inc hp)
      have h4 := fw_ge (bs := bs) (fs := fs) (c := c) (p := p) (by rw [le.1]; exact h1)
      omega
    by_cases he : nexts ns c = []
    · rw [gr_eq le.1, he, ns_of le he]
      show 0 + _ ≤ _
      omega
    · obtain ⟨p, hp⟩ := List.exists_mem_of_ne_nil _ he
      have h0 := step p hp
      have h1 := gr_nonneg bs fs ns (inc c p)
      have h2 := xr01 (Wc bs fs c) (Wc bs fs (inc c p))
      rw [gr_eq le.1]
      have := mx0_le (l := (nexts ns c).map fun p => gr bs fs ns (inc c p) + xr (Wc bs fs c) (Wc bs fs (inc c p))) (m := fw bs fs ns - fw bs fs c) (by omega) fun y hy => by
        obtain ⟨q, hq, rfl⟩ := List.mem_map.mp hy
        have := step q hq
        omega
      omega
theorem fw_gr (bs : List Bool) (fs : List Int) (ns : List Nat) : fw bs fs ns = gr bs fs ns (zeros ns) := by
  have h1 := fw_up bs fs ns _ ns rfl (Le.refl ns)
  have h2 := gr_up bs fs ns _ (zeros ns) rfl (zeros_le ns)
  have h3 := gr_nonneg bs fs ns ns
  have h4 := fw_nonneg bs fs (zeros ns)
  omega
theorem idx_full (ns : List Nat) : idx ns ns + 1 = cnt ns := by
  induction ns using snoc_ind with
  | h0 => rfl
  | hs r x ih =>
    rw [idx_snoc rfl, cnt_snoc, ← ih, Nat.add_mul]
    omega
theorem cnt_cons (n : Nat) (r : List Nat) : cnt (n :: r) = cnt r * (n + 1) := by
  induction r using snoc_ind with
  | h0 => show cnt ([] ++ [n]) = _; rw [cnt_snoc]
  | hs r x ih => rw [← List.cons_append, cnt_snoc, ih, cnt_snoc, Nat.mul_right_comm]
theorem mx0_snoc (l : List Int) (v : Int) : mx0 (l ++ [v]) = if v > mx0 l then v else mx0 l := by
  unfold mx0
  rw [List.foldl_append]
  show max _ v = _
  split <;> omega
/-! ### ins in another order -/
theorem ws_at' {fs : List Int} {c : List Nat} {j x : Nat} {f : Int} (hn : fs[j]? = some f) (hx : c[j]? = some x) : (wsOf fs c)[j]? = some (tw f x) := by
  unfold wsOf
  rw [List.getElem?_zipWith, hn, hx]
def act {α : Type} [Inhabited α] (o : List Nat) (l : List α) : List α := o.map fun i => l.getD i default
theorem act_at {α : Type} [Inhabited α] {o : List Nat} {l : List α} {k i : Nat} (h : o[k]? = some i) : (act o l)[k]? = some (l.getD i default) := by
  unfold act
  rw [List.getElem?_map, h]
  rfl
theorem act_len {α : Type} [Inhabited α] (o : List Nat) (l : List α) : (act o l).length = o.length := by unfold act; rw [List.length_map]
structure Ord (o : List Nat) (m : Nat) : Prop where
  len : o.length = m
  lt : ∀ i ∈ o, i < m
  nd : o.Nodup
  all : ∀ i, i < m → i ∈ o
theorem getD_some {α : Type} [Inhabited α] {l : List α} {i : Nat} (h : i < l.length) : l[i]? = some (l.getD i default) := by
  rw [List.getD_eq_getElem?_getD, List.getElem?_eq_getElem h]
  rfl
theorem act_ws {o : List Nat} {m : Nat} {fs : List Int} {c : List Nat} (h : Ord o m) (lf : fs.length = m) (lc : c.length = m) : wsOf (act o fs) (act o c) = act o (wsOf fs c) := by
  refine List.ext_getElem? fun k => ?_
  cases hk : o[k]? with
  | none =>
    have : o.length ≤ k := List.getElem?_eq_none_iff.mp hk
    rw [List.getElem?_eq_none (by rw [wsOf_len (by rw [act_len, act_len]), act_len]; exact this), List.getElem?_eq_none (by rw [act_len]; exact this)]
  | some i =>
    have hi := h.lt i (List.mem_of_getElem? hk)
    rw [ws_at' (act_at hk) (act_at hk), act_at hk]
    have : (wsOf fs c)[i]? = some (tw (fs.getD i default) (c.getD i default)) := ws_at' (getD_some (by omega)) (getD_some (by omega))
    rw [List.getD_eq_getElem?_getD (l := wsOf fs c), this]
    rfl
theorem act_inc {o : List Nat} {m : Nat} {c : List Nat} {k i : Nat} (h : Ord o m) (lc : c.length = m) (hk : o[k]? = some i) : inc (act o c) k = act o (inc c i) := by
  have hi := h.lt i (List.mem_of_getElem? hk)
  have hkl := (List.getElem?_eq_some_iff.mp hk).1
  refine List.ext_getElem? fun q => ?_
  unfold inc
  cases hq : o[q]? with
  | none =>
    have : o.length ≤ q := List.getElem?_eq_none_iff.mp hq
    rw [List.getElem?_eq_none (by rw [List.length_set, act_len]; exact this), List.getElem?_eq_none (by rw [act_len]; exact this)]
  | some j =>
    rw [act_at hq]
    by_cases e : k = q
    · subst e
      cases Option.some.inj (hk.symm.trans hq)
      rw [List.getElem?_set_self (by rw [act_len]; exact hkl), List.getD_eq_getElem?_getD (l := act o c), act_at hk]
      rw [List.getD_eq_getElem?_getD (l := c.set i _), List.getElem?_set_self (by omega)]
      rfl
    · rw [List.getElem?_set_ne e, act_at hq]
      have ij : i ≠ j := fun z => by
        subst z
        have h1 := List.getElem?_eq_some_iff.mp hk
        have h2 := List.getElem?_eq_some_iff.mp hq
        obtain ⟨a1, b1⟩ := h1
        obtain ⟨a2, b2⟩ := h2
        have pw := List.pairwise_iff_getElem.mp h.nd
        rcases Nat.lt_or_gt_of_ne e with z | z
        · exact pw _ _ a1 a2 z (b1.trans b2.symm)
        · exact pw _ _ a2 a1 z (b2.trans b1.symm)
      rw [List.getD_eq_getElem?_getD, List.getD_eq_getElem?_getD, List.getElem?_set_ne ij]
theorem mx0_congr {a b : List Int} (h1 : ∀ y ∈ a, y ∈ b) (h2 : ∀ y ∈ b, y ∈ a) : mx0 a = mx0 b :=
  Int.le_antisymm (mx0_le (mx0_nonneg _) fun y hy => (mx_ge b 0).2 y (h1 y hy)) (mx0_le (mx0_nonneg _) fun y hy => (mx_ge a 0).2 y (h2 y hy))
theorem gr_act {bs bs' : List Bool} {fs : List Int} {ns o : List Nat} {m : Nat} (h : Ord o m) (lf : fs.length = m) (ln : ns.length = m) (hg : ∀ c : List Nat, c.length = m → Wc bs' (act o fs) (act o c) = Wc bs fs c) :
    ∀ (k : Nat) (c : List Nat), c.length = m → rem ns c = k → gr bs' (act o fs) (act o ns) (act o c) = gr bs fs ns c := by
  have nx : ∀ (c : List Nat), c.length = m → ∀ p i, o[p]? = some i → (p ∈ nexts (act o ns) (act o c) ↔ i ∈ nexts ns c) := fun c lc p i hp => by
    have hi := h.lt i (List.mem_of_getElem? hp)
    have hpl := (List.getElem?_eq_some_iff.mp hp).1
    have e1 : ∀ l : List Nat, (act o l).getD p 0 = l.getD i 0 := fun l => by rw [List.getD_eq_getElem?_getD, act_at hp]; rfl
    rw [next_iff, next_iff, e1, e1, act_len]
    exact ⟨fun z => ⟨by omega, z.2⟩, fun z => ⟨hpl, z.2⟩⟩
  have main : ∀ (c : List Nat), c.length = m → (∀ p ∈ nexts ns c, gr bs' (act o fs) (act o ns) (act o (inc c p)) = gr bs fs ns (inc c p)) → gr bs' (act o fs) (act o ns) (act o c) = gr bs fs ns c := fun c lc ih => by
    rw [gr_eq (by rw [act_len, act_len]), gr_eq (by omega)]
    refine mx0_congr (fun y hy => ?_) (fun y hy => ?_)
    · obtain ⟨p, hp, rfl⟩ := List.mem_map.mp hy
      have hpl := (next_iff.mp hp).1
      rw [act_len] at hpl
      have ho : o[p]? = some (o[p]'hpl) := List.getElem?_eq_getElem hpl
      have hi := (nx c lc p _ ho).mp hp
      refine List.mem_map.mpr ⟨_, hi, ?_⟩
      rw [act_inc h lc ho, ih _ hi, hg c lc, hg _ (by rw [inc_len]; exact lc)]
    · obtain ⟨i, hi, rfl⟩ := List.mem_map.mp hy
      have him := (next_iff.mp hi).1
      obtain ⟨p, ho⟩ := List.getElem?_of_mem (h.all i (by omega))
      refine List.mem_map.mpr ⟨p, (nx c lc p i ho).mpr hi, ?_⟩
      rw [act_inc h lc ho, ih _ hi, hg c lc, hg _ (by rw [inc_len]; exact lc)]
  intro k
  induction k with
  | zero =>
    intro c lc hk
    refine main c lc fun p hp => ?_
    obtain ⟨h1, h2⟩ := next_iff.mp hp
    have := rem_inc ns c p (by omega) h1 h2
    omega
  | succ k ih =>
    intro c lc hk
    refine main c lc fun p hp => ?_
    obtain ⟨h1, h2⟩ := next_iff.mp hp
    have := rem_inc ns c p (by omega) h1 h2
    exact ih _ (by rw [inc_len]; exact lc) (by omega)
theorem act_zeros {o : List Nat} {m : Nat} {ns : List Nat} (h : Ord o m) (ln : ns.length = m) : act o (zeros ns) = zeros (act o ns) := by
  refine List.ext_getElem? fun k => ?_
  unfold zeros
  rw [List.getElem?_replicate, act_len]
  cases hk : o[k]? with
  | none =>
    have : o.length ≤ k := List.getElem?_eq_none_iff.mp hk
    rw [List.getElem?_eq_none (by rw [act_len]; exact this), if_neg (by omega)]
  | some i =>
    have hi := h.lt i (List.mem_of_getElem? hk)
    have hkl := (List.getElem?_eq_some_iff.mp hk).1
    rw [act_at hk, if_pos hkl, List.getD_eq_getElem?_getD, List.getElem?_replicate, if_pos (by omega)]
    rfl

/-! ### drawn tables -/
theorem none_of_frE {d l p : Addr} {H H' : Hp} {n : Int} (f : Fr d l H H') (D : DeckE H' d l n) (h : H' p = none) : H p = none := by
  have o := D.off h
  cases z : H p with
  | none => rfl
  | some u => rw [f _ _ o.1 o.2 z] at h; cases h
def TabsIn (k : Nat) (bss : List (List Bool)) : Prop := bss ≠ [] ∧ bss.length ≤ 8 ∧ ∀ bs ∈ bss, bs.length = 2 ^ k
def vT (bs : List Bool) : V := .str (tabOf bs)
theorem tab_pick {k : Nat} {bss : List (List Bool)} (h : TabsIn k bss) {v : Int} (v0 : 0 ≤ v) (v1 : v < bss.length) : ∃ bs, atI (bss.map vT) v = some (vT bs) ∧ bs.length = 2 ^ k := by
  obtain ⟨j, rfl⟩ := Int.eq_ofNat_of_zero_le v0
  have hj : j < bss.length := by omega
  refine ⟨bss[j], atI_nat ?_, h.2.2 _ (List.getElem_mem hj)⟩
  rw [List.getElem?_map, List.getElem?_eq_getElem hj]
  rfl
def tabs1 : List (List Bool) := [[false, true], [true, false], [false, false], [true, true]]
def tabs2 : List (List Bool) := [[false, true, true, false], [false, false, false, true], [false, true, true, true], [true, false, false, true], [true, false, true, true], [true, true, true, false]]
def tabs3 : List (List Bool) := [[false, true, true, false, true, false, false, true], [false, false, false, true, false, true, true, true], [false, false, false, false, false, false, false, true], [false, true, true, true, true, true, true, true],
  [false, false, true, true, false, true, false, true], [true, false, false, true, false, true, true, false], [false, false, false, false, true, true, true, true], [true, true, true, false, true, false, false, false]]
theorem tabsIn1 : TabsIn 1 tabs1 := ⟨by decide, by decide, by decide⟩
theorem tabsIn2 : TabsIn 2 tabs2 := ⟨by decide, by decide, by decide⟩
theorem tabsIn3 : TabsIn 3 tabs3 := ⟨by decide, by decide, by decide⟩
def sg (b : Bool) : Str := SX.S [if b = true then 49 else 48]
theorem joinL_nil : ∀ l : List (List Nat), TL.joinL [] l = l.flatten
  | [] => rfl
  | [p] => by simp [TL.joinL]
  | p :: q :: r => by
    show p ++ ([] ++ TL.joinL [] (q :: r)) = _
    rw [joinL_nil (q :: r)]
    rfl
theorem join_sg (bs : List Bool) : Txt.join (Str.ofString "") (bs.map sg) = tabOf bs := by
  have e : bs.map sg = (bs.map fun b => [if b = true then 49 else 48]).map SX.S := by rw [List.map_map]; rfl
  have z : Str.ofString "" = SX.S [] := by decide +kernel
  rw [e, z, SX.join_S, joinL_nil]
  have : (bs.map fun b => [if b = true then 49 else 48]).flatten = bs.map fun b => if b = true then 49 else 48 := by
    clear e z
    induction bs with
    | nil => rfl
    | cons b r ih => rw [List.map_cons, List.flatten_cons, ih]; rfl
  rw [this]
  rfl
theorem zo_S : Str.ofString "01" = SX.S [48, 49] := by decide +kernel
def sp_table (K : PySem.W.Frag) : Sp := fun vs H Q _ => ∃ (d l : Addr) (n : Int) (k : Nat), vs = [.ref d, .int k] ∧ DeckE H d l n ∧ n < 100000000 ∧ 1 ≤ k ∧ k ≤ 3 ∧ ∀ H' bs, DeckE H' d l (n + 10) → Fr d l H H' → bs.length = 2 ^ k → Q (.str (tabOf bs)) H'
theorem ok_table (T : Tx K mg) : FnOk P w K mg base CX0 2 T.f_table T.fd_table ["_law_deck_here", "_law_many"] (sp_table K) := by
  refine T.F_table.ok sc_table (fun vs H Q E h => ?_) (fun cdv A outer s H vs Q E hr h => ?_)
  · obtain ⟨d, l, n, k, rfl, _⟩ := h
    rfl
  · obtain ⟨d, l, n, k, rfl, D1, hn, k1, k3, q⟩ := h
    refine ⟨_, (pss_cons (ps_set (i := 2) sc_table.nd rfl (by first | exact .inl rfl | exact .inr rfl) (pe_lst (pa_cons (pe_lst (pa_cons pe_str (pa_cons pe_str (pa_cons pe_str (pa_cons pe_str pa_nil))))) (pa_cons (pe_lst (pa_cons pe_str (pa_cons pe_str (pa_cons pe_str (pa_cons pe_str (pa_cons pe_str (pa_cons pe_str pa_nil))))))) pa_nil)))) (pss_cons (ps_expr (pe_bm PySem.F.plainAttrs_list PySem.F.slot_list_append PySem.F.type_list_append mt_append (pv 2) (pa_cons (pe_lst (pa_cons pe_str (pa_cons pe_str (pa_cons pe_str (pa_cons pe_str (pa_cons pe_str (pa_cons pe_str (pa_cons pe_str (pa_cons pe_str pa_nil))))))))) pa_nil))) (pss_cons (ps_if (pt_cmpR op_eq (pe_call (ok_draw T) (hr.mono (by decide)) (by rfl) T.g_draw T.F_draw.kp T.b_draw .nil pass0 (pa_cons (pv 0) (pa_cons pe_int pa_nil))) pe_int (nomark _)) (pss_cons (ps_set (i := 3) sc_table.nd rfl (by first | exact .inl rfl | exact .inr rfl) (pe_ix ix_list (pv 2) (pe_op op_sub (pv 1) pe_int) (fun _ _ => rfl))) (pss_one (ps_ret (pe_ix ix_list (pv 3) (pe_call (ok_draw T) (hr.mono (by decide)) (by rfl) T.g_draw T.F_draw.kp T.b_draw .nil pass0 (pa_cons (pv 0) (pa_cons (pe_callB call_len_seq (by rfl) T.m_len PySem.boot_len (pa_cons (pv 3) pa_nil)) pa_nil))) (fun _ _ => rfl))))) pss_nil) (pss_one (ps_ret (pe_join pe_str (pe_lc (own := [("_law_k", 4)]) (by rfl) sc_table.nd (pi_range1 (by rfl) T.m_range (pa_cons (pe_ix ix_list (pe_lst (pa_cons pe_int (pa_cons pe_int (pa_cons pe_int pa_nil)))) (pe_op op_sub (pv 1) pe_int) (fun _ _ => rfl)) pa_nil)) (blkOk_by (own := [("_law_k", 4)]) (N := ["_law_deck_here", "_law_many", "_law_told", "_law_some", "_law_k"]) (sc := defScope s_table) (by decide +kernel)) (fun _ _ _ _ _ => (pg_name (i := 4) sc_table.nd rfl (by first | exact .inl rfl | exact .inr rfl))) (fun _ _ _ _ _ => pts_nil) (fun _ _ _ _ _ => (pe_item_str pe_str (pe_call (ok_draw T) (hr.mono (by decide)) (by rfl) T.g_draw T.F_draw.kp T.b_draw .nil pass0 (pa_cons (pv 0) (pa_cons pe_int pa_nil))) (fun _ _ => rfl)))))))))), ?_⟩
    refine ⟨by decide, fun p1 n1 => ⟨by decide, fun p2 n2 => ⟨sl2, fun p3 n3 => ?_⟩⟩⟩
    have hA1 : ([V.str (Str.ofString "01"), V.str (Str.ofString "10"), V.str (Str.ofString "00"), V.str (Str.ofString "11")] : List V) = tabs1.map vT := by decide +kernel
    have hA2 : ([V.str (Str.ofString "0110"), V.str (Str.ofString "0001"), V.str (Str.ofString "0111"), V.str (Str.ofString "1001"), V.str (Str.ofString "1011"), V.str (Str.ofString "1110")] : List V) = tabs2.map vT := by decide +kernel
    have hA3 : ([V.str (Str.ofString "01101001"), V.str (Str.ofString "00010111"), V.str (Str.ofString "00000001"), V.str (Str.ofString "01111111"), V.str (Str.ofString "00110101"), V.str (Str.ofString "10010110"), V.str (Str.ofString "00001111"), V.str (Str.ofString "11101000")] : List V) = tabs3.map vT := by decide +kernel
    rw [hA1] at n2 n3
    rw [hA2] at n3
    rw [hA1, hA2]
    refine ⟨.ref p3, rfl, .inl ⟨rfl, _, SqL.of upd_same⟩, by decide, fun p4 n4 => ?_⟩
    rw [hA3]
    have e1 : (upd (upd (upd H p1 (.lst (tabs1.map vT))) p2 (.lst (tabs2.map vT))) p3 (.lst [.ref p1, .ref p2])) p3 = some (.lst [.ref p1, .ref p2]) := upd_same
    have sA : Same H (upd (upd (upd H p1 (.lst (tabs1.map vT))) p2 (.lst (tabs2.map vT))) p3 (.lst [.ref p1, .ref p2])) := ((same_upd n1).trans (same_upd n2)).trans (same_upd n3)
    have e2 : (upd (upd (upd H p1 (.lst (tabs1.map vT))) p2 (.lst (tabs2.map vT))) p3 (.lst [.ref p1, .ref p2])) p1 = some (.lst (tabs1.map vT)) := same_upd n3 _ _ (same_upd n2 _ _ upd_same)
    have e3 : (upd (upd (upd H p1 (.lst (tabs1.map vT))) p2 (.lst (tabs2.map vT))) p3 (.lst [.ref p1, .ref p2])) p2 = some (.lst (tabs2.map vT)) := same_upd n3 _ _ upd_same
    have n12 : p3 ≠ p1 ∧ p3 ≠ p2 := ⟨fun z => (by rw [z, upd_ne (fun y => by rw [← y, upd_same] at n2; cases n2), upd_same] at n3; cases n3), fun z => (by rw [z, upd_same] at n3; cases n3)⟩
    revert n4 e1 sA e2 e3
    generalize upd (upd (upd H p1 (.lst (tabs1.map vT))) p2 (.lst (tabs2.map vT))) p3 (.lst [.ref p1, .ref p2]) = H2
    intro n4 e1 sA e2 e3
    have f1 := same_upd (o := HO.lst (tabs3.map vT)) n4 _ _ e1
    have f2 := same_upd (o := HO.lst (tabs3.map vT)) n4 _ _ e2
    have f3 := same_upd (o := HO.lst (tabs3.map vT)) n4 _ _ e3
    have f4 : (upd H2 p4 (HO.lst (tabs3.map vT))) p4 = some (.lst (tabs3.map vT)) := upd_same
    have sB : Same H (upd H2 p4 (HO.lst (tabs3.map vT))) := sA.trans (same_upd n4)
    have n34 : p3 ≠ p4 := ne_of_none e1 n4
    refine ⟨p3, _, _, rfl, rfl, f1, (show 2 < sizeLine by decide), ?_⟩
    have g1 : (upd (upd H2 p4 (HO.lst (tabs3.map vT))) p3 (.lst ([.ref p1, .ref p2] ++ [.ref p4]))) p3 = some (.lst [.ref p1, .ref p2, .ref p4]) := upd_same
    have g2 : (upd (upd H2 p4 (HO.lst (tabs3.map vT))) p3 (.lst ([.ref p1, .ref p2] ++ [.ref p4]))) p1 = some (.lst (tabs1.map vT)) := by rw [upd_ne n12.1.symm]; exact f2
    have g3 : (upd (upd H2 p4 (HO.lst (tabs3.map vT))) p3 (.lst ([.ref p1, .ref p2] ++ [.ref p4]))) p2 = some (.lst (tabs2.map vT)) := by rw [upd_ne n12.2.symm]; exact f3
    have g4 : (upd (upd H2 p4 (HO.lst (tabs3.map vT))) p3 (.lst ([.ref p1, .ref p2] ++ [.ref p4]))) p4 = some (.lst (tabs3.map vT)) := by rw [upd_ne n34.symm]; exact f4
    have n3' : H p3 = none := by
      cases z : H p3 with
      | none => rfl
      | some o => rw [same_upd n2 _ _ (same_upd n1 _ _ z)] at n3; cases n3
    have n1' := n1
    have n2' : H p2 = none := by
      cases z : H p2 with
      | none => rfl
      | some o => rw [same_upd n1 _ _ z] at n2; cases n2
    have n4' : H p4 = none := by
      cases z : H p4 with
      | none => rfl
      | some o => rw [sA _ _ z] at n4; cases n4
    have sC : Same H (upd (upd H2 p4 (HO.lst (tabs3.map vT))) p3 (.lst ([.ref p1, .ref p2] ++ [.ref p4]))) := fun b o e => by
      rw [upd_ne (ne_of_none e n3')]
      exact sB _ _ e
    show tSeq _ _ _ _ (upd (upd H2 p4 (HO.lst (tabs3.map vT))) p3 (.lst ([.ref p1, .ref p2] ++ [.ref p4])))
    revert g1 g2 g3 g4 sC
    generalize upd (upd H2 p4 (HO.lst (tabs3.map vT))) p3 (.lst ([.ref p1, .ref p2] ++ [.ref p4])) = H3
    intro g1 g2 g3 g4 sC
    have D3 := D1.same sC
    have sel : ∃ (pk : Addr) (bss : List (List Bool)), atI [V.ref p1, V.ref p2, V.ref p4] ((k : Int) - 1) = some (.ref pk) ∧ H3 pk = some (.lst (bss.map vT)) ∧ H pk = none ∧ TabsIn k bss := by
      have : k = 1 ∨ k = 2 ∨ k = 3 := by omega
      rcases this with rfl | rfl | rfl
      · exact ⟨p1, tabs1, rfl, g2, n1', tabsIn1⟩
      · exact ⟨p2, tabs2, rfl, g3, n2', tabsIn2⟩
      · exact ⟨p4, tabs3, rfl, g4, n4', tabsIn3⟩
    obtain ⟨pk, bss, a1, hk, npk, tin⟩ := sel
    have bpos : 0 < bss.length := List.length_pos_iff.mpr tin.1
    have b8 := tin.2.1
    have opk := D1.off npk
    have op3 := D1.off n3'
    refine ⟨.ref d, rfl, d, l, 2, n, rfl, D3, by omega, by decide, by decide, fun H4 way D4 fr4 w0 w1 => ⟨rfl, _, rfl, ite2 (fun _ => ?_) (fun _ => ?_)⟩⟩
    · have g14 := fr4 _ _ op3.1 op3.2 g1
      have hk4 := fr4 _ _ opk.1 opk.2 hk
      refine ⟨.ref p3, rfl, .int k, rfl, _, _, rfl, rfl, p3, _, (k : Int) - 1, .ref pk, rfl, rfl, SqL.of g14, a1, .ref pk, rfl, .ref d, rfl, .ref pk, rfl, pk, _, rfl, .inl (SqL.of hk4), ?_⟩
      rw [List.length_map]
      refine ⟨d, l, _, n + 1, rfl, D4, by omega, by omega, by omega, fun H5 v D5 fr5 v0 v1 => ?_⟩
      obtain ⟨bs, hbs, lbs⟩ := tab_pick tin v0 v1
      exact ⟨pk, _, v, _, rfl, rfl, SqL.of (fr5 _ _ opk.1 opk.2 hk4), hbs, q H5 bs (D5.mono (by omega)) (((Fr.of sC).trans fr4).trans fr5) lbs⟩
    · have fr3 : Fr d l H H4 := (Fr.of sC).trans fr4
      refine ⟨⟨_, rfl⟩, sl3, fun p5 n5 => ?_⟩
      obtain ⟨N, hN, a2, k8⟩ : ∃ N : Nat, 2 ^ k = N ∧ atI [V.int 2, V.int 4, V.int 8] ((k : Int) - 1) = some (.int (N : Int)) ∧ N ≤ 8 := by
        have : k = 1 ∨ k = 2 ∨ k = 3 := by omega
        rcases this with rfl | rfl | rfl
        · exact ⟨2, rfl, rfl, by decide⟩
        · exact ⟨4, rfl, rfl, by decide⟩
        · exact ⟨8, rfl, rfl, by decide⟩
      refine ⟨.int k, rfl, _, _, rfl, rfl, p5, _, (k : Int) - 1, _, rfl, rfl, SqL.of upd_same, a2, _, rfl, by omega, by omega, fun L nL => ?_⟩
      have D5 := D4.same (same_upd (o := HO.lst [V.int 2, V.int 4, V.int 8]) n5)
      have fr5 : Fr d l H (upd H4 p5 (.lst [.int 2, .int 4, .int 8])) := fr3.trans (Fr.new n5)
      revert nL D5 fr5
      generalize upd H4 p5 (.lst [.int 2, .int 4, .int 8]) = H5
      intro nL D5 fr5
      have oL := D5.off nL
      have nL0 := none_of_frE fr5 D5 nL
      refine lc_range (lo := 0) (n := ((N : Nat) : Int).toNat) (fun i H' => DeckE H' d l (n + 1 + i) ∧ Fr d l H H' ∧ ∃ bs : List Bool, bs.length = i ∧ H' L = some (.lst (bs.map fun b => V.str (sg b)))) ⟨(D5.same (same_upd nL)).mono (by omega), fr5.trans (Fr.new nL), [], rfl, upd_same⟩ ?_ ?_
      · rintro i H6 hi ⟨D6, fr6, bs, lbs, hL⟩
        have hi' : i < N := by simpa using hi
        refine ⟨rfl, .ref d, rfl, d, l, 2, _, rfl, D6, by omega, by decide, by decide, fun H7 x D7 fr7 x0 x1 => ?_⟩
        have hL7 := fr7 _ _ oL.1 oL.2 hL
        refine ⟨Str.ofString "01", x, (if x = 1 then 49 else 48), rfl, rfl, x0, by omega, ?_, ?_, _, hL7, ?_, (D7.upd oL.1 oL.2).mono (by push_cast; omega), Fr.upd (fr6.trans fr7) nL0, bs ++ [decide (x = 1)], by rw [List.length_append, lbs]; rfl, ?_⟩
        · rw [zo_S, SX.S_len]
          exact x1
        · rw [zo_S]
          have : x = 0 ∨ x = 1 := by omega
          rcases this with rfl | rfl <;> rfl
        · rw [List.length_map, lbs]
          exact Nat.lt_of_lt_of_le (show i < 64 by omega) (by decide)
        · rw [upd_same, List.map_append]
          have : x = 0 ∨ x = 1 := by omega
          rcases this with rfl | rfl <;> rfl
      · rintro H6 ⟨D6, fr6, bs, lbs, hL⟩
        have lb : bs.length = 2 ^ k := by rw [lbs, hN]; simp
        refine ⟨Str.ofString "", L, bs.map sg, rfl, rfl, .inl (SqL.of (by rw [hL, List.map_map]; rfl)), ?_, ?_⟩
        · rw [List.map_map, List.length_map]
          have : (bs.map ((fun x => x.length) ∘ sg)).sum = bs.length := by
            clear hL lbs lb
            induction bs with
            | nil => rfl
            | cons b r ih =>
              rw [List.map_cons, List.sum_cons, ih, List.length_cons]
              cases b <;> (show 1 + _ = _; omega)
          rw [this]
          show bs.length + bs.length * 0 ≤ _
          have : bs.length ≤ 8 := by rw [lb, hN]; exact k8
          omega
        · rw [join_sg]
          refine q _ bs (D6.mono ?_) fr6 lb
          have : (((N : Nat) : Int).toNat : Int) ≤ 8 := by omega
          omega

end
end Gk

set_option Elab.async false
set_option linter.all false
set_option maxRecDepth 100000
set_option maxHeartbeats 1000000
set_option pp.maxSteps 1500
set_option pp.deepTerms false
namespace Gk
open PySem PySem.Spec PyProof.Rows L2
section
variable {P : Program} {w : World} {K : PySem.W.Frag} {mg : Str → Option Value} {base : Heap}
theorem ok_worth (T : Tx K mg) : FnOk P w K mg base CX0 1 T.f_worth T.fd_worth ["_law_table_here", "_law_worths_here"] (spGate K) := by
  refine T.F_worth.ok sc_worth (fun vs H Q E h => ?_) (fun cdv A outer s H vs Q E hr h => ?_)
  · obtain ⟨bs, la, ws, rfl, _⟩ := h
    rfl
  · obtain ⟨bs, la, ws, rfl, hS, hw, hb, h3, q⟩ := h
    obtain ⟨b, p0, p1, p2, p3, p4⟩ := gate_read hw hb h3
    refine ⟨_, (pss_cons (ps_set (i := 2) sc_worth.nd rfl (by first | exact .inl rfl | exact .inr rfl) pe_int) (pss_cons (ps_for PassesOwn.never rfl (pi_list (pv 1)) (pg_name (i := 3) sc_worth.nd rfl (by first | exact .inl rfl | exact .inr rfl)) (pss_one (ps_set (i := 2) sc_worth.nd rfl (by first | exact .inl rfl | exact .inr rfl) (pe_op op_add (pe_op op_mul pe_int (pv 2)) (pv 3))))) (pss_one (ps_ret (pe_callTy call_int_str (by rfl) T.m_int (by decide +kernel) (pa_cons (pe_item_str (pv 0) (pv 2) (fun _ _ => rfl)) pa_nil)))))), ?_⟩
    refine ⟨.ref la, rfl, la, rfl, ⟨_, hS⟩, for_list (K := K) (a := la) (xs := ws.map V.int) (fun i σ H' => ∃ y, σ = [some (.str (tabOf bs)), some (.ref la), some (.int (plc (ws.take i))), y] ∧ H' = H) ⟨none, rfl, rfl⟩ (fun i σ H' _ ⟨_, _, e⟩ => by rw [e]; exact hS) ?_ ?_⟩
    · rintro i x σ H' hx ⟨y, rfl, rfl⟩
      obtain ⟨u, hu, rfl⟩ : ∃ u, ws[i]? = some u ∧ x = V.int u := by
        rw [List.getElem?_map] at hx
        cases hz : ws[i]? with
        | none => rw [hz] at hx; cases hx
        | some u => rw [hz] at hx; exact ⟨u, rfl, (Option.some.inj hx).symm⟩
      refine ⟨.int (plc (ws.take i)), rfl, 2, _, rfl, rfl, .inl ⟨by decide, by decide⟩, .int u, rfl, _, _, rfl, rfl, some (.int u), ?_, rfl⟩
      rw [plc_take hu]
      rfl
    · rintro σ H' ⟨y, rfl, rfl⟩
      rw [List.length_map, List.take_length]
      refine ⟨.str (tabOf bs), rfl, .int (plc ws), rfl, _, _, _, rfl, rfl, p0, p1, p2, p3, _, _, rfl, int_sign b, (show 1 ≤ 640 by decide), ?_⟩
      rw [← p4]
      exact q
theorem noL_intsN : ∀ ns : List Int, noLs (ns.map PyData.int) = true
  | [] => rfl
  | n :: r => by show (true && noLs (r.map PyData.int)) = true; rw [noL_intsN r]; rfl
theorem noL_cDs : ∀ l : List (List Nat), noLs (l.map cD) = true
  | [] => rfl
  | c :: r => by
    show (noLs (c.map kI) && noLs (r.map cD)) = true
    rw [kI_map, noL_intsN, noL_cDs r]
    rfl
theorem Few.takeN {ns : List Nat} (h : Few ns) (i : Nat) : Few (ns.take i) := h.take i
theorem stepC_take {α : Type} {cs : List (List α)} {j : Nat} {c : List α} {os : List α} (h : cs[j]? = some c) : stepC (cs.take (j + 1)) os = stepC (cs.take j) os ++ os.map fun o => c ++ [o] := by
  rw [List.take_add_one, h]
  exact stepC_snoc _ _ _
def sp_counts (K : PySem.W.Frag) : Sp := fun vs H Q _ => ∃ (na : Addr) (ns : List Nat), vs = [.ref na] ∧ H na = some (.tup (natV ns)) ∧ Few ns ∧ ∀ r H', Same H H' → Tk H' (.ref r) (.list ((every ns).map cD)) → Q (.ref r) H'
theorem ok_counts (T : Tx K mg) : FnOk P w K mg base CX0 1 T.f_counts T.fd_counts ["_law_numbers"] (sp_counts K) := by
  refine T.F_counts.ok sc_counts (fun vs H Q E h => ?_) (fun cdv A outer s H vs Q E hr h => ?_)
  · obtain ⟨na, ns, rfl, _⟩ := h
    rfl
  · obtain ⟨na, ns, rfl, hna, few, q⟩ := h
    refine ⟨_, (pss_cons (ps_set (i := 1) sc_counts.nd rfl (by first | exact .inl rfl | exact .inr rfl) (pe_lst (pa_cons (pe_tup pa_nil) pa_nil))) (pss_cons (ps_for PassesOwn.never rfl (pi_tup (pv 0)) (pg_name (i := 2) sc_counts.nd rfl (by first | exact .inl rfl | exact .inr rfl)) (pss_cons (ps_set (i := 3) sc_counts.nd rfl (by first | exact .inl rfl | exact .inr rfl) (pe_lst pa_nil)) (pss_cons (ps_for PassesOwn.never rfl (pi_list (pv 1)) (pg_name (i := 4) sc_counts.nd rfl (by first | exact .inl rfl | exact .inr rfl)) (pss_one (ps_expr (pe_bm PySem.F.plainAttrs_list PySem.F.slot_list_extend PySem.F.type_list_extend mt_extend (pv 3) (pa_cons (pe_lc (own := [("_law_k", 5)]) (by rfl) sc_counts.nd (pi_range1 (by rfl) T.m_range (pa_cons (pe_op op_add (pv 2) pe_int) pa_nil)) (blkOk_by (own := [("_law_k", 5)]) (N := ["_law_numbers", "_law_rows", "_law_number", "_law_longer", "_law_row", "_law_k"]) (sc := defScope s_counts) (by decide +kernel)) (fun _ _ _ _ _ => (pg_name (i := 5) sc_counts.nd rfl (by first | exact .inl rfl | exact .inr rfl))) (fun _ _ _ _ _ => pts_nil) (fun _ _ _ _ _ => (pe_op (show OpR _ _ (rCatA K) from op_catA) (pv 4) (pe_tup (pa_cons (pv 5) pa_nil))))) pa_nil))))) (pss_one (ps_set (i := 1) sc_counts.nd rfl (by first | exact .inl rfl | exact .inr rfl) (pv 3)))))) (pss_one (ps_ret (pv 1))))), ?_⟩
    have n3 := few.1
    have sl : (16777216 : Nat) = sizeLine := by decide
    refine ⟨Nat.zero_le _, fun t0 n0 => ⟨sl1, fun c0 nc0 => ?_⟩⟩
    refine ⟨.ref na, rfl, na, rfl, ⟨_, SqT.of (same_upd nc0 _ _ (same_upd n0 _ _ hna))⟩, for_tup (K := K) (a := na) (xs := natV ns) (fun i σ H' => ∃ ra y2 y3 y4, σ = [some (.ref na), some (.ref ra), y2, y3, y4, none] ∧ Same H H' ∧ Tk H' (.ref ra) (.list ((every (ns.take i)).map cD)))
      ⟨c0, _, _, _, rfl, (same_upd n0).trans (same_upd nc0), .lst upd_same (.cons (.tup (same_upd nc0 _ _ upd_same) .nil) .nil)⟩ (fun i σ H' _ ⟨_, _, _, _, _, z, _⟩ => SqT.of (z _ _ hna)) ?_ ?_⟩
    · rintro i v σ H1 hv ⟨ra, y2, y3, y4, rfl, s1, tr⟩
      obtain ⟨n, hn, rfl⟩ := natV_inv hv
      have n12 := few.2.1 n (List.mem_of_getElem? hn)
      obtain ⟨ra', rs, e, hra, trs⟩ := tr.lst_inv
      cases e
      have c2 := cnt_few (few.take i)
      have rl : rs.length = cnt (ns.take i) := by rw [trs.length, List.length_map, every_len]
      have etk : every (ns.take (i + 1)) = stepC (every (ns.take i)) (List.range (n + 1)) := by rw [List.take_add_one, hn]; exact every_snoc _ _
      refine ⟨Nat.zero_le _, fun L nL => ?_⟩
      have sL := same_upd (o := HO.lst []) nL
      have hL := upd_same (H := H1) (a := L) (o := .lst [])
      have raL : ra ≠ L := ne_of_none hra nL
      have s1L : Same H1 (hd1 L (upd H1 L (.lst []))) := hd1_of sL nL
      show tSeq _ _ _ _ (upd H1 L (.lst []))
      generalize upd H1 L (.lst []) = H2 at hL s1L ⊢
      refine ⟨.ref ra, rfl, ra, rfl, ⟨_, SqL.of (hd1_le _ _ (s1L _ _ hra))⟩, for_list (K := K) (a := ra) (xs := rs) (fun j σ H' => ∃ y4, σ = [some (.ref na), some (.ref ra), some (.int (Int.ofNat n)), some (.ref L), y4, none] ∧ Same H1 (hd1 L H') ∧ ∃ zs, H' L = some (.lst zs) ∧ TkAll (hd1 L H') zs ((stepC ((every (ns.take i)).take j) (List.range (n + 1))).map cD))
        ⟨_, rfl, s1L, [], hL, .nil⟩ (fun j σ H' _ ⟨_, _, z, _⟩ => SqL.of (hd1_le _ _ (z _ _ hra))) ?_ ?_⟩
      · rintro j x σ H3 hx ⟨y4, rfl, s3, zs, hL3, tz⟩
        obtain ⟨c, hc, tc⟩ := trs.at hx
        obtain ⟨ca, rfl, hca⟩ := tc.c_inv
        have hca3 := hd1_le _ _ (s3 _ _ hca)
        have le := (every_idx _ _ _ hc).1
        have cl : c.length ≤ 3 := by rw [le.1, List.length_take]; omega
        have hjl := (List.getElem?_eq_some_iff.mp hc).1
        rw [every_len] at hjl
        have zl := tz.length
        rw [List.length_map, stepC_len, List.length_take, every_len, List.length_range] at zl
        have zl2 : min j (cnt (ns.take i)) * (n + 1) ≤ 4000 * 4001 := Nat.mul_le_mul (by omega) (by omega)
        refine ⟨.ref L, rfl, .inl ⟨rfl, _, SqL.of hL3⟩, .int (Int.ofNat n), rfl, _, _, rfl, rfl, _, rfl, by show _ ≤ (n : Int) + 1; omega, by show (n : Int) + 1 < _; omega, fun D nD => ?_⟩
        have DL : D ≠ L := (ne_of_none hL3 nD).symm
        have en : (Int.ofNat n + 1 : Int).toNat = n + 1 := by show ((n : Int) + 1).toNat = _; omega
        refine lc_range (lo := 0) (n := (Int.ofNat n + 1 : Int).toNat) (fun k H' => Same H3 (hd1 D H') ∧ ∃ acc, H' D = some (.lst acc) ∧ TkAll (hd1 D H') acc (((List.range k).map fun x => c ++ [x]).map cD)) ⟨hd1_of (same_upd nD) nD, [], upd_same, .nil⟩ ?_ ?_
        · rintro k H4 hk ⟨s4, acc, hD, ta⟩
          rw [en] at hk
          have ek : (0 : Int) + (k : Int) = (k : Int) := Int.zero_add _
          rw [ek]
          have al := ta.length
          rw [List.length_map, List.length_map, List.length_range] at al
          refine ⟨rfl, .ref ca, rfl, .int (k : Nat), rfl, sl1, fun t nt => ?_⟩
          have st := same_upd (o := HO.tup [V.int (k : Nat)]) nt
          have hca4 := hd1_le _ _ (s4 _ _ hca3)
          refine catA (st _ _ hca4) upd_same ?_ fun p H5 s5 h5 => ?_
          · rw [natV_len]
            show _ + 1 ≤ sizeLine
            omega
          have s45 := st.trans s5
          have hD5 := s45 _ _ hD
          have pD : p ≠ D := ne_of h5 hD5 (by intro z; cases z)
          refine ⟨acc, hD5, by omega, (s4.trans (hd1_same s45)).trans hd1_upd, acc ++ [.ref p], upd_same, ?_⟩
          rw [List.range_succ, List.map_append, List.map_append]
          refine ((ta.same (hd1_same s45)).same hd1_upd).append (.cons (.tup (a := p) (xs := natV (c ++ [k])) ?_ (by rw [kI_map]; exact TkAll.ints _)) .nil)
          rw [hd1_at pD, upd_ne pD, h5]
          unfold natV
          rw [List.map_append, List.map_append]
          rfl
        · rintro H4 ⟨s4, acc, hD, ta⟩
          rw [en] at ta
          have s34 : Same H3 H4 := fun b o e => hd1_le _ _ (s4 _ _ e)
          have hL4 := s34 _ _ hL3
          have al := ta.length
          rw [List.length_map, List.length_map, List.length_range] at al
          refine ⟨L, D, zs, acc, rfl, rfl, hL4, hD, by omega, _, rfl, (s3.trans (hd1_same s34)).trans hd1_upd, zs ++ acc, upd_same, ?_⟩
          rw [stepC_take hc, List.map_append]
          refine ((tz.same (hd1_same s34)).same hd1_upd).append (ta.ts (fun b xs e => ?_) (noL_cDs _))
          have e4 := hd1_le _ _ e
          have bL : b ≠ L := ne_of e4 hL4 (by intro z; cases z)
          rw [hd1_at bL, upd_ne bL]
          exact e4
      · rintro σ H3 ⟨y4, rfl, s3, zs, hL3, tz⟩
        rw [rl, List.take_of_length_le (by rw [every_len]; exact Nat.le_refl _), ← etk] at tz
        exact ⟨.ref L, rfl, L, _, _, _, rfl, fun b o e => hd1_le _ _ (s3 _ _ (s1 _ _ e)), .lst hL3 (tz.same hd1_le)⟩
    · rintro σ H1 ⟨ra, y2, y3, y4, rfl, s1, tr⟩
      rw [natV_len, List.take_length] at tr
      exact ⟨.ref ra, rfl, q ra H1 s1 tr⟩
theorem mod_tw {f : Int} {c : Nat} (h : f = 0 ∨ f = 1) : (f + Int.ofNat c) % 2 = tw f c := by
  show (f + (c : Int)) % 2 = _
  unfold tw
  split <;> omega
def sp_worths (K : PySem.W.Frag) : Sp := fun vs H Q _ => ∃ (bs : List Bool) (fa ra : Addr) (fs : List Int) (rows : List (List Nat)), vs = [.str (tabOf bs), .ref fa, .ref ra] ∧ H fa = some (.tup (fs.map V.int)) ∧ Tk H (.ref ra) (.list (rows.map cD)) ∧ Row01 fs ∧ fs.length ≤ 3 ∧ (∀ c ∈ rows, c.length = fs.length) ∧ bs.length = 2 ^ fs.length ∧ rows.length ≤ 4000 ∧ ∀ r H', Same H H' → H' r = some (.lst ((rows.map (Wc bs fs)).map V.int)) → Q (.ref r) H'
theorem ok_worths (T : Tx K mg) : FnOk P w K mg base CX0 2 T.f_worths T.fd_worths ["_law_table_here", "_law_firsts", "_law_rows"] (sp_worths K) := by
  refine T.F_worths.ok sc_worths (fun vs H Q E h => ?_) (fun cdv A outer s H vs Q E hr h => ?_)
  · obtain ⟨bs, fa, ra, fs, rows, rfl, _⟩ := h
    rfl
  · obtain ⟨bs, fa, ra, fs, rows, rfl, hfa, tr, f01, f3, rc, lb, r2, q⟩ := h
    refine ⟨_, (pss_cons (ps_set (i := 3) sc_worths.nd rfl (by first | exact .inl rfl | exact .inr rfl) (pe_lst pa_nil)) (pss_cons (ps_for PassesOwn.never rfl (pi_list (pv 2)) (pg_name (i := 4) sc_worths.nd rfl (by first | exact .inl rfl | exact .inr rfl)) (pss_one (ps_expr (pe_bm PySem.F.plainAttrs_list PySem.F.slot_list_append PySem.F.type_list_append mt_append (pv 3) (pa_cons (pe_call (ok_worth T) (hr.mono (by decide)) (by rfl) T.g_worth T.F_worth.kp T.b_worth .nil pass0 (pa_cons (pv 0) (pa_cons (pe_lc (own := [("_law_first", 5), ("_law_count", 6)]) (by rfl) sc_worths.nd (ZpG.pi_zip2 (by rfl) T.m_zip (pa_cons (pv 1) (pa_cons (pv 4) pa_nil))) (blkOk_by (own := [("_law_first", 5), ("_law_count", 6)]) (N := ["_law_table_here", "_law_firsts", "_law_rows", "_law_found", "_law_row", "_law_first", "_law_count"]) (sc := defScope s_worths) (by decide +kernel)) (fun _ _ _ _ _ => (show PG _ _ (gTup K 2 _) from pg_tup rfl (pgs_cons (pg_name (i := 5) sc_worths.nd rfl (by first | exact .inl rfl | exact .inr rfl)) (pgs_cons (pg_name (i := 6) sc_worths.nd rfl (by first | exact .inl rfl | exact .inr rfl)) pgs_nil)))) (fun _ _ _ _ _ => pts_nil) (fun _ _ _ _ _ => (pe_op op_mod (pe_op op_add (pv 5) (pv 6)) pe_int))) pa_nil))) pa_nil))))) (pss_one (ps_ret (pv 3))))), ?_⟩
    have sl : (16777216 : Nat) = sizeLine := by decide
    obtain ⟨ra', rs, e, hra, trs⟩ := tr.lst_inv
    cases e
    have rl : rs.length = rows.length := by rw [trs.length, List.length_map]
    refine ⟨Nat.zero_le _, fun L nL => ?_⟩
    have sL := same_upd (o := HO.lst []) nL
    have hL := upd_same (H := H) (a := L) (o := .lst [])
    have s1L : Same H (hd1 L (upd H L (.lst []))) := hd1_of sL nL
    show tSeq _ _ _ _ (upd H L (.lst []))
    generalize upd H L (.lst []) = H2 at hL s1L ⊢
    refine ⟨.ref ra, rfl, ra, rfl, ⟨_, SqL.of (hd1_le _ _ (s1L _ _ hra))⟩, for_list (K := K) (a := ra) (xs := rs) (fun j σ H' => ∃ y4, σ = [some (.str (tabOf bs)), some (.ref fa), some (.ref ra), some (.ref L), y4, none, none] ∧ Same H (hd1 L H') ∧ H' L = some (.lst (((rows.take j).map (Wc bs fs)).map V.int)))
      ⟨_, rfl, s1L, hL⟩ (fun j σ H' _ ⟨_, _, z, _⟩ => SqL.of (hd1_le _ _ (z _ _ hra))) ?_ ?_⟩
    · rintro j x σ H3 hx ⟨y4, rfl, s3, hL3⟩
      obtain ⟨c, hc, tc⟩ := trs.at hx
      obtain ⟨ca, rfl, hca⟩ := tc.c_inv
      have hca3 := hd1_le _ _ (s3 _ _ hca)
      have hfa3 := hd1_le _ _ (s3 _ _ hfa)
      have lc := rc c (List.mem_of_getElem? hc)
      have wl := wsOf_len lc
      have hjl := (List.getElem?_eq_some_iff.mp hc).1
      refine ⟨.ref L, rfl, .inl ⟨rfl, _, SqL.of hL3⟩, .str (tabOf bs), rfl, .ref fa, rfl, .ref ca, rfl, .tu fa, .tu ca, _, _, rfl, SqT.of hfa3, SqT.of hca3, fun D nD => ?_⟩
      have DL : D ≠ L := (ne_of_none hL3 nD).symm
      refine ZpG.lc_zip2 (K := K) (z1 := .tu fa) (z2 := .tu ca) (xs1 := fs.map V.int) (xs2 := natV c) (n := fs.length) (by rw [List.length_map]) (by rw [natV_len]; exact lc)
        (fun i H' => Same H3 (hd1 D H') ∧ H' D = some (.lst (((wsOf fs c).take i).map V.int))) ⟨hd1_of (same_upd nD) nD, upd_same⟩ (fun i H' _ hP => ⟨SqT.of (hd1_le _ _ (hP.1 _ _ hfa3)), SqT.of (hd1_le _ _ (hP.1 _ _ hca3))⟩) ?_ ?_
      · rintro i x y Tq H1 hx hy nT ⟨s1, hD⟩
        obtain ⟨n, hn, rfl⟩ := natV_inv hy
        rw [List.getElem?_map] at hx
        cases hf : fs[i]? with
        | none => rw [hf] at hx; cases hx
        | some f =>
          rw [hf] at hx
          cases Option.some.inj hx
          have hw : (wsOf fs c)[i]? = some (tw f n) := by
            unfold wsOf
            rw [List.getElem?_zipWith, hf, hn]
          refine ⟨Tq, _, rfl, SqT.of upd_same, rfl, _, _, rfl, _, _, rfl, rfl, rfl, ?_⟩
          refine ⟨.int f, rfl, .int (Int.ofNat n), rfl, _, _, rfl, rfl, _, _, rfl, rfl, (show (0 : Int) < 2 by decide), _, same_upd nT _ _ hD, ?_, (s1.trans (hd1_same (same_upd nT))).trans hd1_upd, ?_⟩
          · rw [List.length_map, List.length_take]
            omega
          · dsimp only
            rw [upd_same, List.take_add_one, hw, mod_tw (f01 f (List.mem_of_getElem? hf))]
            show some (HO.lst (_ ++ [_])) = some (HO.lst ((_ ++ [_]).map V.int))
            rw [List.map_append]
            rfl
      · rintro H1 ⟨s1, hD⟩
        rw [List.take_of_length_le (by omega)] at hD
        have s31 : Same H3 H1 := fun b o e => hd1_le _ _ (s1 _ _ e)
        refine ⟨bs, D, wsOf fs c, rfl, SqL.of hD, ws01 f01, by rw [wl]; exact lb, by omega, L, _, _, rfl, rfl, s31 _ _ hL3, ?_, _, rfl, (s3.trans (hd1_same s31)).trans hd1_upd, ?_⟩
        · rw [List.length_map, List.length_map, List.length_take]
          omega
        · rw [upd_same, List.take_add_one, hc]
          show some (HO.lst (_ ++ [_])) = some (HO.lst (((_ ++ [_]).map (Wc bs fs)).map V.int))
          rw [List.map_append, List.map_append]
          rfl
    · rintro σ H3 ⟨y4, rfl, s3, hL3⟩
      rw [rl, List.take_length] at hL3
      exact ⟨.ref L, rfl, q L H3 (fun b o e => hd1_le _ _ (s3 _ _ e)) hL3⟩
def farsTo (ns : List Nat) (i : Nat) : List Nat := (List.range i).map fun q => cnt (ns.drop (ns.length - i + q + 1))
theorem farsTo_succ {ns : List Nat} {i : Nat} (h : i < ns.length) : farsTo ns (i + 1) = cnt (ns.drop (ns.length - i)) :: farsTo ns i := by
  unfold farsTo
  rw [List.range_succ_eq_map, List.map_cons, List.map_map]
  congr 1
  · congr 2
    omega
  · refine List.map_congr_left fun q _ => ?_
    show cnt (ns.drop (ns.length - (i + 1) + (q + 1) + 1)) = _
    congr 2
    omega
theorem farsTo_all (ns : List Nat) : farsTo ns ns.length = strides ns ns.length := by
  unfold farsTo strides
  refine List.map_congr_left fun q _ => ?_
  congr 2
  omega
def sp_fars (K : PySem.W.Frag) : Sp := fun vs H Q _ => ∃ (na : Addr) (ns : List Nat), vs = [.ref na] ∧ H na = some (.tup (natV ns)) ∧ Few ns ∧ ∀ r H', Same H H' → H' r = some (.lst (natV (strides ns ns.length))) → Q (.ref r) H'
theorem ok_fars (T : Tx K mg) : FnOk P w K mg base CX0 1 T.f_fars T.fd_fars ["_law_numbers"] (sp_fars K) := by
  refine T.F_fars.ok sc_fars (fun vs H Q E h => ?_) (fun cdv A outer s H vs Q E hr h => ?_)
  · obtain ⟨na, ns, rfl, _⟩ := h
    rfl
  · obtain ⟨na, ns, rfl, hna, few, q⟩ := h
    refine ⟨_, (pss_cons (ps_set (i := 1) sc_fars.nd rfl (by first | exact .inl rfl | exact .inr rfl) (pe_lst pa_nil)) (pss_cons (ps_set (i := 2) sc_fars.nd rfl (by first | exact .inl rfl | exact .inr rfl) pe_int) (pss_cons (ps_for PassesOwn.never rfl (pi_tup (TupRev.pe_revT (pv 0))) (pg_name (i := 3) sc_fars.nd rfl (by first | exact .inl rfl | exact .inr rfl)) (pss_cons (ps_set (i := 1) sc_fars.nd rfl (by first | exact .inl rfl | exact .inr rfl) (pe_op op_cat (pe_lst (pa_cons (pv 2) pa_nil)) (pv 1))) (pss_one (ps_set (i := 2) sc_fars.nd rfl (by first | exact .inl rfl | exact .inr rfl) (pe_op op_mul (pv 2) (pe_op op_add (pv 3) pe_int)))))) (pss_one (ps_ret (pv 1)))))), ?_⟩
    have n3 := few.1
    have sl : (16777216 : Nat) = sizeLine := by decide
    refine ⟨Nat.zero_le _, fun L nL => ?_⟩
    have sL := same_upd (o := HO.lst []) nL
    refine ⟨.ref na, rfl, na, _, rfl, SqT.of (sL _ _ hna), fun rv nrv => ?_⟩
    have srv := same_upd (o := HO.tup (natV ns).reverse) nrv
    have hrv := upd_same (H := upd H L (.lst [])) (a := rv) (o := .tup (natV ns).reverse)
    refine ⟨rv, rfl, ⟨_, SqT.of hrv⟩, for_tup (K := K) (a := rv) (xs := (natV ns).reverse) (fun i σ H' => ∃ fa y3, σ = [some (.ref na), some (.ref fa), some (.int (cnt (ns.drop (ns.length - i)) : Nat)), y3] ∧ Same (upd (upd H L (.lst [])) rv (.tup (natV ns).reverse)) H' ∧ H' fa = some (.lst (natV (farsTo ns i))))
      ⟨L, _, by rw [Nat.sub_zero, List.drop_length]; rfl, Same.refl _, srv _ _ upd_same⟩ (fun i σ H' _ ⟨_, _, _, z, _⟩ => SqT.of (z _ _ hrv)) ?_ ?_⟩
    · rintro i v σ H3 hv ⟨fa, y3, rfl, s3, hf⟩
      have hi : i < ns.length := by
        have := (List.getElem?_eq_some_iff.mp hv).1
        rw [List.length_reverse, natV_len] at this
        exact this
      rw [List.getElem?_reverse (by rw [natV_len]; exact hi), natV_len] at hv
      obtain ⟨n, hn, rfl⟩ := natV_inv hv
      have n12 := few.2.1 n (List.mem_of_getElem? hn)
      have c2 := cnt_few (few.drop (ns.length - i))
      have ed : ns.drop (ns.length - (i + 1)) = n :: ns.drop (ns.length - i) := by
        have hl : ns.length - 1 - i < ns.length := by omega
        rw [show ns.length - (i + 1) = ns.length - 1 - i by omega, List.drop_eq_getElem_cons hl]
        have : ns[ns.length - 1 - i] = n := Option.some.inj ((List.getElem?_eq_getElem hl).symm.trans hn)
        rw [this, show ns.length - 1 - i + 1 = ns.length - i by omega]
      refine ⟨.int (cnt (ns.drop (ns.length - i)) : Nat), rfl, sl1, fun one no => ?_⟩
      have so := same_upd (o := HO.lst [V.int (cnt (ns.drop (ns.length - i)) : Nat)]) no
      refine ⟨.ref fa, rfl, one, fa, _, _, rfl, rfl, upd_same, so _ _ hf, ?_, fun p np => ?_⟩
      · rw [natV_len]
        unfold farsTo
        rw [List.length_map, List.length_range]
        show 1 + _ ≤ sizeLine
        omega
      have sp := same_upd (o := HO.lst ([V.int (cnt (ns.drop (ns.length - i)) : Nat)] ++ natV (farsTo ns i))) np
      refine ⟨.int (cnt (ns.drop (ns.length - i)) : Nat), rfl, .int (Int.ofNat n), rfl, _, _, rfl, rfl, _, _, rfl, rfl, .inl ⟨by omega, by omega⟩, p, some (.int (Int.ofNat n)), ?_, (s3.trans so).trans sp, ?_⟩
      · rw [ed, cnt_cons]
        push_cast
        rfl
      · rw [upd_same, farsTo_succ hi]
        rfl
    · rintro σ H3 ⟨fa, y3, rfl, s3, hf⟩
      rw [List.length_reverse, natV_len, farsTo_all] at hf
      exact ⟨.ref fa, rfl, q fa H3 ((sL.trans srv).trans s3) hf⟩

end
end Gk

set_option Elab.async false
set_option linter.all false
set_option maxRecDepth 100000
set_option maxHeartbeats 1000000
set_option pp.maxSteps 1500
set_option pp.deepTerms false
namespace Gk
open PySem PySem.Spec PyProof.Rows L2
section
variable {P : Program} {w : World} {K : PySem.W.Frag} {mg : Str → Option Value} {base : Heap}
theorem nextsTo_all (ns c : List Nat) : nextsTo ns c ns.length = nexts ns c := rfl
theorem xr_if (x y : Int) : (if (!decide (V.int x = V.int y)) = true then (1 : Int) else 0) = xr x y := by
  unfold xr
  by_cases e : x = y
  · rw [if_pos e, if_neg]
    rw [e]
    simp
  · rw [if_neg e, if_pos]
    have : V.int x ≠ V.int y := fun z => e (by injection z)
    rw [decide_eq_false this]
    rfl
theorem pm_same {bs : List Bool} {fs : List Int} {ns : List Nat} {k : Nat} (h : k < cnt ns) : (pm bs fs ns k).set (cnt ns - 1 - k) 0 = pm bs fs ns k := by
  refine List.ext_getElem? fun j => ?_
  by_cases hj : j < cnt ns
  · rw [List.getElem?_set]
    by_cases e : cnt ns - 1 - k = j
    · rw [if_pos e, if_pos (by rw [pm_len]; omega), pm_get hj, if_neg (by omega)]
    · rw [if_neg e]
  · rw [List.getElem?_eq_none (by rw [List.length_set, pm_len]; omega), List.getElem?_eq_none (by rw [pm_len]; omega)]
def sp_still (K : PySem.W.Frag) : Sp := fun vs H Q _ => ∃ (bs : List Bool) (fa na : Addr) (fs : List Int) (ns : List Nat), vs = [.str (tabOf bs), .ref fa, .ref na] ∧ H fa = some (.tup (fs.map V.int)) ∧ H na = some (.tup (natV ns)) ∧ Row01 fs ∧ Few ns ∧ ns.length = fs.length ∧ bs.length = 2 ^ fs.length ∧ ∀ r H', Same H H' → H' r = some (.tup (((every ns).map (gr bs fs ns)).map V.int)) → Q (.ref r) H'
theorem ok_still (T : Tx K mg) : FnOk P w K mg base CX0 3 T.f_still T.fd_still ["_law_table_here", "_law_firsts", "_law_numbers"] (sp_still K) := by
  refine T.F_still.ok sc_still (fun vs H Q E h => ?_) (fun cdv A outer s H vs Q E hr h => ?_)
  · obtain ⟨bs, fa, na, fs, ns, rfl, _⟩ := h
    rfl
  · obtain ⟨bs, fa, na, fs, ns, rfl, hfa, hna, f01, few, lc, lb, q⟩ := h
    refine ⟨_, (pss_cons (ps_set (i := 3) sc_still.nd rfl (by first | exact .inl rfl | exact .inr rfl) (pe_call (ok_counts T) (hr.mono (by decide)) (by rfl) T.g_counts T.F_counts.kp T.b_counts .nil pass0 (pa_cons (pv 2) pa_nil))) (pss_cons (ps_set (i := 4) sc_still.nd rfl (by first | exact .inl rfl | exact .inr rfl) (pe_call (ok_worths T) (hr.mono (by decide)) (by rfl) T.g_worths T.F_worths.kp T.b_worths .nil pass0 (pa_cons (pv 0) (pa_cons (pv 1) (pa_cons (pv 3) pa_nil))))) (pss_cons (ps_set (i := 5) sc_still.nd rfl (by first | exact .inl rfl | exact .inr rfl) (pe_call (ok_fars T) (hr.mono (by decide)) (by rfl) T.g_fars T.F_fars.kp T.b_fars .nil pass0 (pa_cons (pv 2) pa_nil))) (pss_cons (ps_set (i := 6) sc_still.nd rfl (by first | exact .inl rfl | exact .inr rfl) (pe_op op_rep (pe_lst (pa_cons pe_int pa_nil)) (pe_callB call_len_seq (by rfl) T.m_len PySem.boot_len (pa_cons (pv 3) pa_nil)))) (pss_cons (ps_for PassesOwn.never rfl (pi_range3 (by rfl) T.m_range (pa_cons (pe_op op_sub (pe_callB call_len_seq (by rfl) T.m_len PySem.boot_len (pa_cons (pv 3) pa_nil)) pe_int) (pa_cons (pe_un un_neg pe_int) (pa_cons (pe_un un_neg pe_int) pa_nil)))) (pg_name (i := 7) sc_still.nd rfl (by first | exact .inl rfl | exact .inr rfl)) (pss_one (ps_for PassesOwn.never rfl (ZpG.pi_zip3 (by rfl) T.m_zip (pa_cons (pe_ix ix_list (pv 3) (pv 7) (fun _ _ => rfl)) (pa_cons (pv 2) (pa_cons (pv 5) pa_nil)))) (pg_tup rfl (pgs_cons (pg_name (i := 8) sc_still.nd rfl (by first | exact .inl rfl | exact .inr rfl)) (pgs_cons (pg_name (i := 9) sc_still.nd rfl (by first | exact .inl rfl | exact .inr rfl)) (pgs_cons (pg_name (i := 10) sc_still.nd rfl (by first | exact .inl rfl | exact .inr rfl)) pgs_nil)))) (pss_one (ps_if (pt_cmpR op_lt (pv 8) (pv 9) (nomark _)) (pss_cons (ps_set (i := 11) sc_still.nd rfl (by first | exact .inl rfl | exact .inr rfl) (pe_op op_add (pe_ix ix_list (pv 6) (pe_op op_add (pv 7) (pv 10)) (fun _ _ => rfl)) (pe_callTy call_int1 (by rfl) T.m_int (by decide +kernel) (pa_cons (pe_cmpR op_ne (pe_ix ix_list (pv 4) (pv 7) (fun _ _ => rfl)) (pe_ix ix_list (pv 4) (pe_op op_add (pv 7) (pv 10)) (fun _ _ => rfl)) (nomark _)) pa_nil)))) (pss_one (ps_asg (pe_callB (call_max2 rfl) (by rfl) T.m_max (by decide +kernel) (pa_cons (pe_ix ix_list (pv 6) (pv 7) (fun _ _ => rfl)) (pa_cons (pv 11) pa_nil))) (pg_sub (pv 6) (pv 7) set_list)))) pss_nil))))) (pss_one (ps_ret (pe_callTy call_tuple_of (by rfl) T.m_tuple (by decide +kernel) (pa_cons (pv 6) pa_nil))))))))), ?_⟩
    have n3 := few.1
    have c2197 := cnt_few few
    have cp := cnt_pos ns
    have sl : (16777216 : Nat) = sizeLine := by decide
    refine ⟨.ref na, rfl, na, ns, rfl, hna, few, fun r H1 s1 t1 => ?_⟩
    refine ⟨.str (tabOf bs), rfl, .ref fa, rfl, .ref r, rfl, bs, fa, r, fs, every ns, rfl, s1 _ _ hfa, t1, f01, by omega, fun c hc => ?_, lb, by rw [every_len]; exact c2197, fun wr H2 s2 hw => ?_⟩
    · obtain ⟨j, hj⟩ := List.getElem?_of_mem hc
      rw [(every_idx ns j c hj).1.1, lc]
    refine ⟨.ref na, rfl, na, ns, rfl, s2 _ _ (s1 _ _ hna), few, fun sr H3 s3 hs => ?_⟩
    have t3 := (t1.same s2).same s3
    have hw3 := s3 _ _ hw
    have s03 := (s1.trans s2).trans s3
    have hna3 := s03 _ _ hna
    obtain ⟨r', es, e, hr3, tes⟩ := t3.lst_inv
    cases e
    clear t3 t1 s1 s2 s3 hw
    have el : es.length = cnt ns := by rw [tes.length, List.length_map, every_len]
    refine ⟨sl1, fun z nz => ?_⟩
    have sz := same_upd (o := HO.lst [V.int 0]) nz
    refine ⟨.ref r, rfl, r, es, rfl, .inl (SqL.of (sz _ _ hr3)), z, _, _, rfl, rfl, upd_same, by omega, by omega, by show 1 * ((es.length : Nat) : Int).toNat ≤ sizeLine; omega, fun ba nba => ?_⟩
    have ez : ((es.length : Nat) : Int).toNat = cnt ns := by omega
    rw [ez, rep_zero, ← pm_zero bs fs ns]
    have sp := same_upd (o := HO.lst ((pm bs fs ns 0).map V.int)) nba
    have sA := sz.trans sp
    have hba := upd_same (H := upd H3 z (.lst [V.int 0])) (a := ba) (o := .lst ((pm bs fs ns 0).map V.int))
    have nba3 : H3 ba = none := by
      cases hz : H3 ba with
      | none => rfl
      | some o => rw [sz _ _ hz] at nba; cases nba
    have s3A := hd1_of (p := ba) sA nba3
    show tSeq _ _ _ _ (upd (upd H3 z (.lst [V.int 0])) ba (.lst ((pm bs fs ns 0).map V.int)))
    generalize upd (upd H3 z (.lst [V.int 0])) ba (.lst ((pm bs fs ns 0).map V.int)) = H4 at hba s3A ⊢
    clear sA sp sz nba nz
    have keep : ∀ {H' : Hp} {b : Addr} {o : HO}, Same H3 (hd1 ba H') → H3 b = some o → H' b = some o := fun sk e => hd1_le _ _ (sk _ _ e)
    refine ⟨.ref r, rfl, r, es, rfl, .inl (SqL.of (keep s3A hr3)), _, _, rfl, rfl, _, rfl, _, rfl, _, _, _, _, rfl, RgC.neg (i := (es.length : Int) - 1) (j := -1) (by omega) (by omega) (by decide) (by decide), ?_⟩
    have en : ((es.length : Int) - 1 - -1).toNat = cnt ns := by omega
    rw [en]
    refine for_rangeC (lo := (es.length : Int) - 1) (c := -1) (n := cnt ns) (fun k σ H' => ∃ y7 y8 y9 y10 y11, σ = [some (.str (tabOf bs)), some (.ref fa), some (.ref na), some (.ref r), some (.ref wr), some (.ref sr), some (.ref ba), y7, y8, y9, y10, y11] ∧ Same H3 (hd1 ba H') ∧ H' ba = some (.lst ((pm bs fs ns k).map V.int))) ⟨_, _, _, _, _, rfl, s3A, hba⟩ ?_ ?_
    · rintro k σ H5 hk ⟨y7, y8, y9, y10, y11, rfl, s5, hb5⟩
      have ea : (es.length : Int) - 1 + (k : Nat) * (-1) = ((cnt ns - 1 - k : Nat) : Int) := by omega
      rw [ea]
      obtain ⟨i, hi⟩ : ∃ i, i = cnt ns - 1 - k := ⟨_, rfl⟩
      rw [← hi]
      have hil : i < cnt ns := by omega
      obtain ⟨c, hc⟩ : ∃ c, (every ns)[i]? = some c := ⟨_, List.getElem?_eq_getElem (by rw [every_len]; exact hil)⟩
      obtain ⟨le, eidx⟩ := every_idx ns i c hc
      obtain ⟨v, hv, tv⟩ := tes.at' hc
      obtain ⟨ca, rfl, hca⟩ := tv.c_inv
      refine ⟨.ref r, rfl, .int (i : Nat), rfl, r, _, _, _, rfl, rfl, SqL.of (keep s5 hr3), atI_nat hv, .ref na, rfl, .ref sr, rfl, .tu ca, .tu na, .li sr, _, _, _, rfl, SqT.of (keep s5 hca), SqT.of (keep s5 hna3), SqL.of (keep s5 hs), ?_⟩
      refine ZpG.for_zip3 (K := K) (z1 := .tu ca) (z2 := .tu na) (z3 := .li sr) (xs1 := natV c) (xs2 := natV ns) (xs3 := natV (strides ns ns.length)) (n := ns.length) (by rw [natV_len, le.1]) (by rw [natV_len]) (by rw [natV_len]; unfold strides; rw [List.length_map, List.length_range])
        (fun j σ H' => ∃ y8 y9 y10 y11, σ = [some (.str (tabOf bs)), some (.ref fa), some (.ref na), some (.ref r), some (.ref wr), some (.ref sr), some (.ref ba), some (.int (i : Nat)), y8, y9, y10, y11] ∧ Same H3 (hd1 ba H') ∧ H' ba = some (.lst (((pm bs fs ns k).set i (mx0 ((nextsTo ns c j).map fun p => gr bs fs ns (inc c p) + xr (Wc bs fs c) (Wc bs fs (inc c p))))).map V.int)))
        ⟨_, _, _, _, rfl, s5, by rw [show mx0 ((nextsTo ns c 0).map fun p => gr bs fs ns (inc c p) + xr (Wc bs fs c) (Wc bs fs (inc c p))) = 0 from rfl, hi, pm_same hk]; exact hb5⟩ (fun j σ H' _ ⟨_, _, _, _, _, sk, _⟩ => ⟨SqT.of (keep sk hca), SqT.of (keep sk hna3), SqL.of (keep sk hs)⟩) ?_ ?_
      · rintro j x1 x2 x3 Tq σ H6 hx1 hx2 hx3 nT ⟨y8, y9, y10, y11, rfl, s6, hb6⟩
        obtain ⟨x, hx, rfl⟩ := natV_inv hx1
        obtain ⟨n, hn, rfl⟩ := natV_inv hx2
        obtain ⟨st, hst, rfl⟩ := natV_inv hx3
        have hjl := (List.getElem?_eq_some_iff.mp hx).1
        have hjn : j < ns.length := by rw [← le.1]; exact hjl
        have est : st = cnt (ns.drop (j + 1)) := by
          unfold strides at hst
          rw [List.getElem?_map, List.getElem?_range hjn] at hst
          exact (Option.some.inj hst).symm
        have eg : c.getD j 0 = x := by rw [List.getD_eq_getElem?_getD, hx]; rfl
        have eg2 : ns.getD j 0 = n := by rw [List.getD_eq_getElem?_getD, hn]; rfl
        have sT := same_upd (o := HO.tup [V.int (Int.ofNat x), V.int (Int.ofNat n), V.int (Int.ofNat st)]) nT
        have hb7 := sT _ _ hb6
        have s7 := s6.trans (hd1_same (p := ba) sT)
        refine ⟨Tq, _, rfl, SqT.of upd_same, rfl, _, _, rfl, _, _, rfl, _, _, rfl, rfl, ?_⟩
        refine ⟨.int (Int.ofNat x), rfl, .int (Int.ofNat n), rfl, _, _, rfl, rfl, _, rfl, ite2 (fun hlt => ?_) (fun hge => ?_)⟩
        · have hlt : x < n := Int.ofNat_lt.mp (of_decide_eq_true hlt)
          have hp : j ∈ nexts ns c := next_iff.mpr ⟨hjn, by rw [eg, eg2]; exact hlt⟩
          have lei := le.inc hp
          have ie := idx_inc ns c j le.1 hjn
          rw [eidx] at ie
          have ea := every_at ns (inc c j) lei
          obtain ⟨ah, hah⟩ : ∃ ah, ah = idx ns (inc c j) := ⟨_, rfl⟩
          rw [← hah] at ea ie
          have hahl : ah < cnt ns := by
            have := (List.getElem?_eq_some_iff.mp ea).1
            rwa [every_len] at this
          have cpp := cnt_pos (ns.drop (j + 1))
          have eah : (i : Int) + Int.ofNat st = (ah : Int) := by
            show (i : Int) + (st : Int) = _
            omega
          have wi : (((every ns).map (Wc bs fs)).map V.int)[i]? = some (.int (Wc bs fs c)) := by rw [List.getElem?_map, List.getElem?_map, hc]; rfl
          have wj : (((every ns).map (Wc bs fs)).map V.int)[ah]? = some (.int (Wc bs fs (inc c j))) := by rw [List.getElem?_map, List.getElem?_map, ea]; rfl
          obtain ⟨cur, hcur⟩ : ∃ cur, cur = mx0 ((nextsTo ns c j).map fun p => gr bs fs ns (inc c p) + xr (Wc bs fs c) (Wc bs fs (inc c p))) := ⟨_, rfl⟩
          rw [← hcur] at hb7
          have bi : (((pm bs fs ns k).set i cur).map V.int)[i]? = some (.int cur) := by rw [List.getElem?_map, List.getElem?_set_self (by rw [pm_len]; exact hil)]; rfl
          have ba' : (((pm bs fs ns k).set i cur).map V.int)[ah]? = some (.int (gr bs fs ns (inc c j))) := by
            rw [List.getElem?_map, List.getElem?_set_ne (by omega), pm_get hahl, if_pos (by omega), grAt_eq ea]
            rfl
          have hw7 := keep s7 hw3
          have eV : (fun i j : Int => V.int (i + j)) (i : Int) (Int.ofNat st) = V.int (ah : Int) := by
            show V.int ((i : Int) + Int.ofNat st) = _
            rw [eah]
          refine ⟨.ref ba, rfl, .int (i : Nat), rfl, .int (Int.ofNat st), rfl, _, _, rfl, rfl, ?_⟩
          rw [eV]
          refine ⟨ba, _, (ah : Int), _, rfl, rfl, SqL.of hb7, atI_nat ba', .ref wr, rfl, .int (i : Nat), rfl, wr, _, _, _, rfl, rfl, SqL.of hw7, atI_nat wi, .ref wr, rfl, .int (i : Nat), rfl, .int (Int.ofNat st), rfl, _, _, rfl, rfl, ?_⟩
          rw [eV]
          refine ⟨wr, _, (ah : Int), _, rfl, rfl, SqL.of hw7, atI_nat wj, rfl, .inr ⟨_, rfl, _, _, rfl, rfl, ?_⟩⟩
          dsimp only
          rw [xr_if]
          refine ⟨.ref ba, rfl, .int (i : Nat), rfl, ba, _, _, _, rfl, rfl, SqL.of hb7, atI_nat bi, .int (gr bs fs ns (inc c j) + xr (Wc bs fs c) (Wc bs fs (inc c j))), rfl, _, _, rfl, ?_⟩
          refine ⟨.ref ba, rfl, .int (i : Nat), rfl, ba, _, _, i, rfl, rfl, hb7, ?_, _, _, _, _, rfl, s7.trans hd1_upd, ?_⟩
          · unfold ixN
            rw [if_pos (by omega), if_pos (by rw [List.length_map, List.length_set, pm_len]; omega)]
            rfl
          · have en : nextsTo ns c (j + 1) = nextsTo ns c j ++ [j] := by rw [nextsTo_succ, if_pos (show c.getD j 0 < ns.getD j 0 by rw [eg, eg2]; exact hlt)]
            rw [upd_same, en, List.map_append, List.map_cons, List.map_nil, mx0_snoc, ← hcur, ← List.map_set, List.set_set]
        · have hge : ¬ x < n := by intro h; exact hge (decide_eq_true (show Int.ofNat x < Int.ofNat n from Int.ofNat_lt.mpr h))
          refine ⟨_, _, _, _, rfl, s7, ?_⟩
          have en : nextsTo ns c (j + 1) = nextsTo ns c j := by rw [nextsTo_succ, if_neg (show ¬ c.getD j 0 < ns.getD j 0 by rw [eg, eg2]; exact hge), List.append_nil]
          rw [en]
          exact hb7
      · rintro σ H6 ⟨y8, y9, y10, y11, rfl, s6, hb6⟩
        refine ⟨_, _, _, _, _, rfl, s6, ?_⟩
        rw [← pm_succ hk, ← hi, grAt_eq hc, gr_eq le.1]
        exact hb6
    · rintro σ H5 ⟨y7, y8, y9, y10, y11, rfl, s5, hb5⟩
      rw [pm_all] at hb5
      refine ⟨.ref ba, rfl, ba, _, rfl, .inl ⟨SqL.of hb5, fun t nt => ?_⟩⟩
      exact q t _ (Same.trans (fun b o e => hd1_le _ _ (s5 _ _ (s03 _ _ e))) (same_upd nt)) upd_same

end
end Gk

set_option Elab.async false
set_option linter.all false
set_option maxRecDepth 100000
set_option maxHeartbeats 1000000
set_option pp.maxSteps 1500
set_option pp.deepTerms false
namespace Gk
open PySem PySem.Spec PyProof.Rows L2
section
variable {P : Program} {w : World} {K : PySem.W.Frag} {mg : Str → Option Value} {base : Heap}
/-! ### drawn nets -/
theorem natV_app (a b : List Nat) : natV (a ++ b) = natV a ++ natV b := by unfold natV; rw [List.map_append, List.map_append]
theorem natV_erase : ∀ (l : List Nat) (k : Nat), (natV l).eraseIdx k = natV (l.eraseIdx k)
  | [], _ => rfl
  | _ :: _, 0 => rfl
  | x :: r, k + 1 => by
    show V.int (Int.ofNat x) :: (natV r).eraseIdx k = V.int (Int.ofNat x) :: natV (r.eraseIdx k)
    rw [natV_erase r k]
theorem nat_of {x : Int} (h : 0 ≤ x) : V.int x = V.int (Int.ofNat x.toNat) := by
  congr 1
  show x = ((x.toNat : Nat) : Int)
  omega
def FreeAt (H : Hp) (d l : Addr) (fv : V) (k : Nat) : Prop := fv = .non ∨ ∃ fl free, fv = .ref fl ∧ fl ≠ d ∧ fl ≠ l ∧ H fl = some (.lst (natV free)) ∧ free.length ≤ k ∧ ∀ x ∈ free, x < k
def FrV (d l : Addr) (fv : V) (H H' : Hp) : Prop := ∀ b o, b ≠ d → b ≠ l → fv ≠ .ref b → H b = some o → H' b = some o
theorem FrV.of {d l : Addr} {fv : V} {H H' : Hp} (f : Fr d l H H') : FrV d l fv H H' := fun b o h1 h2 _ e => f b o h1 h2 e
theorem FrV.refl {d l : Addr} {fv : V} {H : Hp} : FrV d l fv H H := fun _ _ _ _ _ e => e
theorem FrV.trans {d l : Addr} {fv : V} {H H1 H2 : Hp} (a : FrV d l fv H H1) (b : FrV d l fv H1 H2) : FrV d l fv H H2 := fun c o h1 h2 h3 e => b c o h1 h2 h3 (a c o h1 h2 h3 e)
theorem FrV.put {d l : Addr} {p : Addr} {fv : V} {H H' : Hp} {o : HO} (f : FrV d l fv H H') (n : H p = none) : FrV d l fv H (upd H' p o) := fun b x h1 h2 h3 e => by
  rw [upd_ne (ne_of_none e n)]
  exact f b x h1 h2 h3 e
theorem FreeAt.same {H H' : Hp} {d l : Addr} {fv : V} {k : Nat} (f : FreeAt H d l fv k) (s : Same H H') : FreeAt H' d l fv k := by
  rcases f with h | ⟨fl, free, h1, h2, h3, h4, h5⟩
  · exact .inl h
  · exact .inr ⟨fl, free, h1, h2, h3, s _ _ h4, h5⟩
theorem FreeAt.fr {H H' : Hp} {d l : Addr} {fv : V} {k : Nat} (f : FreeAt H d l fv k) (s : Fr d l H H') : FreeAt H' d l fv k := by
  rcases f with h | ⟨fl, free, h1, h2, h3, h4, h5⟩
  · exact .inl h
  · exact .inr ⟨fl, free, h1, h2, h3, s _ _ h2 h3 h4, h5⟩
theorem FreeAt.put {H : Hp} {d l p : Addr} {fv : V} {k : Nat} {o : HO} (f : FreeAt H d l fv k) (n : fv ≠ .ref p) : FreeAt (upd H p o) d l fv k := by
  rcases f with h | ⟨fl, free, h1, h2, h3, h4, h5⟩
  · exact .inl h
  · exact .inr ⟨fl, free, h1, h2, h3, by rw [upd_ne (fun z => n (by rw [h1, z]))]; exact h4, h5⟩
theorem FreeAt.mono {H : Hp} {d l : Addr} {fv : V} {k k' : Nat} (f : FreeAt H d l fv k) (le : k ≤ k') : FreeAt H d l fv k' := by
  rcases f with h | ⟨fl, free, h1, h2, h3, h4, h5, h6⟩
  · exact .inl h
  · exact .inr ⟨fl, free, h1, h2, h3, h4, Nat.le_trans h5 le, fun x hx => Nat.lt_of_lt_of_le (h6 x hx) le⟩
theorem FreeAt.ne {H : Hp} {d l p : Addr} {fv : V} {k : Nat} (f : FreeAt H d l fv k) (n : H p = none) : fv ≠ .ref p := by
  rcases f with h | ⟨fl, free, h1, h2, h3, h4, h5⟩
  · rw [h]; exact fun z => by cases z
  · rw [h1]; exact fun z => by injection z with z; exact ne_of_none h4 n z
def sp_ins (K : PySem.W.Frag) : Sp := fun vs H Q _ => ∃ (d l : Addr) (n : Int) (wires many : Nat) (fv : V), vs = [.ref d, .int wires, .int many, fv] ∧ DeckE H d l n ∧ n < 1000000 ∧ 1 ≤ many ∧ many ≤ wires ∧ wires ≤ 100 ∧ FreeAt H d l fv wires ∧
  ∀ r H' ws, DeckE H' d l (n + 13) → FrV d l fv H H' → FreeAt H' d l fv wires → H' r = some (.tup (natV ws)) → 1 ≤ ws.length → ws.length ≤ 3 → (∀ x ∈ ws, x < wires) → Q (.ref r) H'
theorem ok_ins (T : Tx K mg) : FnOk P w K mg base CX0 2 T.f_ins T.fd_ins ["_law_deck_here", "_law_wires", "_law_many", "_law_free"] (sp_ins K) := by
  refine T.F_ins.ok sc_ins (fun vs H Q E h => ?_) (fun cdv A outer s H vs Q E hr h => ?_)
  · obtain ⟨d, l, n, wires, many, fv, rfl, _⟩ := h
    rfl
  · obtain ⟨d, l, n, wires, many, fv, rfl, D, hn, m1, mw, w100, free, q⟩ := h
    refine ⟨_, (pss_cons (ps_set (i := 4) sc_ins.nd rfl (by first | exact .inl rfl | exact .inr rfl) (pe_lst pa_nil)) (pss_cons (ps_for PassesOwn.never rfl (pi_range1 (by rfl) T.m_range (pa_cons (pe_op op_add pe_int (pe_call (ok_draw T) (hr.mono (by decide)) (by rfl) T.g_draw T.F_draw.kp T.b_draw .nil pass0 (pa_cons (pv 0) (pa_cons pe_int pa_nil)))) pa_nil)) (pg_name (i := 5) sc_ins.nd rfl (by first | exact .inl rfl | exact .inr rfl)) (pss_one (ps_if (pt_cmpR op_isN (pv 3) pe_non (nomark _)) (pss_one (ps_expr (pe_bm PySem.F.plainAttrs_list PySem.F.slot_list_append PySem.F.type_list_append mt_append (pv 4) (pa_cons (pe_ix ix_list (pe_lst (pa_cons (pe_call (ok_draw T) (hr.mono (by decide)) (by rfl) T.g_draw T.F_draw.kp T.b_draw .nil pass0 (pa_cons (pv 0) (pa_cons (pv 1) pa_nil))) (pa_cons (pe_op op_sub (pv 1) pe_int) pa_nil))) (pe_callTy call_int1 (by rfl) T.m_int (by decide +kernel) (pa_cons (pe_cmpR op_eq (pe_call (ok_draw T) (hr.mono (by decide)) (by rfl) T.g_draw T.F_draw.kp T.b_draw .nil pass0 (pa_cons (pv 0) (pa_cons pe_int pa_nil))) pe_int (nomark _)) pa_nil)) (fun _ _ => rfl)) pa_nil)))) (pss_one (ps_if (pw_and (pt_cmpR (op_neD hr.units) (pv 3) (pe_lst pa_nil) (nomark _)) (pw_and1 (pt_cmpR op_eq (pe_call (ok_draw T) (hr.mono (by decide)) (by rfl) T.g_draw T.F_draw.kp T.b_draw .nil pass0 (pa_cons (pv 0) (pa_cons pe_int pa_nil))) pe_int (nomark _)))).pt (pss_one (ps_expr (pe_bm PySem.F.plainAttrs_list PySem.F.slot_list_append PySem.F.type_list_append mt_append (pv 4) (pa_cons (pe_bm PySem.F.plainAttrs_list PySem.F.slot_list_pop PySem.F.type_list_pop mt_popAt (pv 3) (pa_cons (pe_call (ok_draw T) (hr.mono (by decide)) (by rfl) T.g_draw T.F_draw.kp T.b_draw .nil pass0 (pa_cons (pv 0) (pa_cons (pe_callB call_len_seq (by rfl) T.m_len PySem.boot_len (pa_cons (pv 3) pa_nil)) pa_nil))) pa_nil)) pa_nil)))) (pss_one (ps_expr (pe_bm PySem.F.plainAttrs_list PySem.F.slot_list_append PySem.F.type_list_append mt_append (pv 4) (pa_cons (pe_call (ok_draw T) (hr.mono (by decide)) (by rfl) T.g_draw T.F_draw.kp T.b_draw .nil pass0 (pa_cons (pv 0) (pa_cons (pv 2) pa_nil))) pa_nil))))))))) (pss_one (ps_ret (pe_callTy call_tuple_of (by rfl) T.m_tuple (by decide +kernel) (pa_cons (pv 4) pa_nil)))))), ?_⟩
    have sl : (16777216 : Nat) = sizeLine := by decide
    refine ⟨Nat.zero_le _, fun L nL => ?_⟩
    have oL := D.off nL
    have fvL := free.ne nL
    have s1 := same_upd (o := HO.lst []) nL
    refine ⟨.ref d, rfl, d, l, 3, n, rfl, D.same s1, by omega, by decide, by decide, fun H1 v D1 fr1 v0 v1 => ⟨_, _, rfl, rfl, _, rfl, by omega, by omega, ?_⟩⟩
    have hL1 := fr1 _ _ oL.1 oL.2 (show (upd H L (.lst [])) L = _ from upd_same)
    refine for_range (lo := 0) (n := (1 + v : Int).toNat) (fun j σ H' => ∃ y5 ws, σ = [some (.ref d), some (.int wires), some (.int many), some fv, some (.ref L), y5] ∧ DeckE H' d l (n + 1 + 4 * j) ∧ FrV d l fv H H' ∧ FreeAt H' d l fv wires ∧ H' L = some (.lst (natV ws)) ∧ ws.length = j ∧ ∀ x ∈ ws, x < wires)
      ⟨_, [], rfl, D1.mono (by omega), (FrV.of (Fr.of s1)).trans (FrV.of fr1), (free.same s1).fr fr1, hL1, rfl, fun x hx => by cases hx⟩ ?_ ?_
    · rintro j σ H2 hj ⟨y5, ws, rfl, D2, fr2, free2, hL2, lw, wlt⟩
      have done : ∀ {G : Hp} {x : Nat} {y : Option V}, DeckE G d l (n + 5 + 4 * j) → FrV d l fv H G → FreeAt G d l fv wires → G L = some (.lst (natV ws)) → x < wires → ∃ y5 ws', [some (V.ref d), some (.int wires), some (.int many), some fv, some (.ref L), y] = [some (.ref d), some (.int wires), some (.int many), some fv, some (.ref L), y5] ∧ DeckE (upd G L (.lst (natV ws ++ [V.int (Int.ofNat x)]))) d l (n + 1 + 4 * (j + 1 : Nat)) ∧ FrV d l fv H (upd G L (.lst (natV ws ++ [V.int (Int.ofNat x)]))) ∧ FreeAt (upd G L (.lst (natV ws ++ [V.int (Int.ofNat x)]))) d l fv wires ∧ (upd G L (.lst (natV ws ++ [V.int (Int.ofNat x)]))) L = some (.lst (natV ws')) ∧ ws'.length = j + 1 ∧ ∀ x ∈ ws', x < wires := by
        intro G x y DG frG freeG hLG hx
        refine ⟨y, ws ++ [x], rfl, (DG.upd oL.1 oL.2).mono (by push_cast; omega), frG.put nL, freeG.put fvL, by rw [upd_same, natV_app]; rfl, by rw [List.length_append, lw]; rfl, fun z hz => ?_⟩
        rcases List.mem_append.mp hz with z' | z'
        · exact wlt z z'
        · rw [List.mem_singleton.mp z']; exact hx
      have plain : ∀ {G : Hp} {y : Option V}, DeckE G d l (n + 3 + 4 * j) → FrV d l fv H G → FreeAt G d l fv wires → G L = some (.lst (natV ws)) → ∀ (G' : Hp) (x : Int), DeckE G' d l (n + 3 + 4 * j + 1) → Fr d l G G' → 0 ≤ x → x < many → ∃ y5 ws', [some (V.ref d), some (.int wires), some (.int many), some fv, some (.ref L), y] = [some (.ref d), some (.int wires), some (.int many), some fv, some (.ref L), y5] ∧ DeckE (upd G' L (.lst (natV ws ++ [V.int x]))) d l (n + 1 + 4 * (j + 1 : Nat)) ∧ FrV d l fv H (upd G' L (.lst (natV ws ++ [V.int x]))) ∧ FreeAt (upd G' L (.lst (natV ws ++ [V.int x]))) d l fv wires ∧ (upd G' L (.lst (natV ws ++ [V.int x]))) L = some (.lst (natV ws')) ∧ ws'.length = j + 1 ∧ ∀ x ∈ ws', x < wires := by
        intro G y DG frG freeG hLG G' x DG' fr' x0 x1
        rw [nat_of x0]
        exact done (DG'.mono (by omega)) (frG.trans (FrV.of fr')) (freeG.fr fr') (fr' _ _ oL.1 oL.2 hLG) (by omega)
      rcases id free2 with rfl | ⟨fl, fr, rfl, f1, f2, f3, f4, f5⟩
      · refine ⟨.non, rfl, rfl, _, rfl, iteT ?_⟩
        refine ⟨.ref L, rfl, .inl ⟨rfl, _, SqL.of hL2⟩, .ref d, rfl, .int wires, rfl, d, l, _, _, rfl, D2, by omega, by omega, by omega, fun H3 x D3 fr3 x0 x1 => ?_⟩
        refine ⟨.int wires, rfl, _, _, rfl, rfl, sl2, fun p np => ?_⟩
        have op := D3.off np
        have sp := same_upd (o := HO.lst [V.int x, V.int ((wires : Int) - 1)]) np
        refine ⟨.ref d, rfl, d, l, 4, _, rfl, D3.same sp, by omega, by decide, by decide, fun H4 y D4 fr4 y0 y1 => ⟨rfl, .inr ⟨_, rfl, ?_⟩⟩⟩
        obtain ⟨k, hk, ek⟩ : ∃ k : Nat, k < wires ∧ atI [V.int x, V.int ((wires : Int) - 1)] (if decide (V.int y = V.int 3) = true then 1 else 0) = some (.int (Int.ofNat k)) := by
          by_cases e : decide (V.int y = V.int 3) = true
          · rw [if_pos e]
            refine ⟨wires - 1, by omega, ?_⟩
            show some (V.int ((wires : Int) - 1)) = some (V.int ((wires - 1 : Nat) : Int))
            congr 2
            omega
          · rw [if_neg e]
            exact ⟨x.toNat, by omega, by rw [← nat_of x0]; rfl⟩
        have hL4 := fr4 _ _ oL.1 oL.2 (sp _ _ (fr3 _ _ oL.1 oL.2 hL2))
        refine ⟨p, _, _, _, rfl, rfl, SqL.of (fr4 _ _ op.1 op.2 upd_same), ek, L, _, _, rfl, rfl, hL4, by rw [natV_len]; omega, ?_⟩
        exact done (D4.mono (by omega)) (((fr2.trans (FrV.of fr3)).trans (FrV.of (Fr.of sp))).trans (FrV.of fr4)) (.inl rfl) hL4 hk
      · refine ⟨.ref fl, rfl, rfl, _, rfl, iteF ?_⟩
        refine ⟨.ref fl, rfl, Nat.zero_le _, fun e0 ne0 => ?_⟩
        have se := same_upd (o := HO.lst []) ne0
        have f3e := se _ _ f3
        refine ⟨.list ((fr.map Int.ofNat).map .int), .list [], .lst (SqL.of f3e) (dpInts _), .lst (SqL.of upd_same) .nil, shInts _, rfl, _, rfl, ?_⟩
        have D3 := D2.same se
        have frv3 := fr2.trans (FrV.of (Fr.of se))
        have free3 := free2.same se
        have hL3 := se _ _ hL2
        generalize upd H2 e0 (.lst []) = H3 at f3e D3 frv3 free3 hL3 ⊢
        cases fr with
        | nil =>
          refine iteF ?_
          refine ⟨.ref L, rfl, .inl ⟨rfl, _, SqL.of hL3⟩, .ref d, rfl, .int many, rfl, d, l, _, _, rfl, D3.mono (m := n + 3 + 4 * j) (by omega), by omega, by omega, by omega, fun H4 x D4 fr4 x0 x1 => ?_⟩
          refine ⟨L, _, _, rfl, rfl, fr4 _ _ oL.1 oL.2 hL3, by rw [natV_len]; omega, ?_⟩
          exact plain (D3.mono (by omega)) frv3 free3 hL3 H4 x D4 fr4 x0 x1
        | cons c r =>
          have en : PyData.eqv (.list (((c :: r).map Int.ofNat).map PyData.int)) (.list []) = false := rfl
          rw [en]
          refine iteT ?_
          refine ⟨.ref d, rfl, d, l, 2, _, rfl, D3, by omega, by decide, by decide, fun H4 z D4 fr4 z0 z1 => ⟨rfl, _, rfl, ite2 (fun _ => ?_) (fun _ => ?_)⟩⟩
          · have hL4 := fr4 _ _ oL.1 oL.2 hL3
            have f34 := fr4 _ _ f1 f2 f3e
            have cl : (c :: r).length = r.length + 1 := rfl
            refine ⟨.ref L, rfl, .inl ⟨rfl, _, SqL.of hL4⟩, .ref fl, rfl, .inl ⟨rfl, _, SqL.of f34⟩, .ref d, rfl, .ref fl, rfl, fl, _, rfl, .inl (SqL.of f34), d, l, _, _, rfl, D4, by omega, by rw [natV_len]; omega, by rw [natV_len]; omega, fun H5 x D5 fr5 x0 x1 => ?_⟩
            rw [natV_len] at x1
            have f35 := fr5 _ _ f1 f2 f34
            obtain ⟨xn, rfl⟩ : ∃ xn : Nat, x = (xn : Int) := ⟨x.toNat, (Int.toNat_of_nonneg x0).symm⟩
            obtain ⟨y, hy⟩ : ∃ y, (c :: r)[xn]? = some y := ⟨_, List.getElem?_eq_getElem (by omega)⟩
            have ix : seqIndex? (xn : Int) (natV (c :: r)).length = some xn := by
              refine (ixN_seq (n := (natV (c :: r)).length) (i := (xn : Int)) (j := xn) ?_).1
              unfold ixN
              rw [if_pos (by omega), if_pos (by rw [natV_len]; omega)]
              rfl
            refine ⟨fl, _, _, xn, _, rfl, rfl, f35, by omega, by omega, ix, natV_at hy, ?_⟩
            rw [natV_erase]
            have flL : fl ≠ L := fun z => fvL (by rw [z])
            have hL6 : (upd H5 fl (.lst (natV ((c :: r).eraseIdx xn)))) L = some (.lst (natV ws)) := by rw [upd_ne flL.symm]; exact fr5 _ _ oL.1 oL.2 hL4
            refine ⟨L, _, _, rfl, rfl, hL6, by rw [natV_len]; omega, ?_⟩
            refine done ((D5.upd f1 f2).mono (by omega)) (fun b o h1 h2 h3 e => ?_) (.inr ⟨fl, _, rfl, f1, f2, upd_same, ?_, fun x hx => f5 x (List.mem_of_mem_eraseIdx hx)⟩) hL6 (f5 y (List.mem_of_getElem? hy))
            · rw [upd_ne (fun z => h3 (by rw [z]))]
              exact fr5 _ _ h1 h2 (fr4 _ _ h1 h2 (frv3 b o h1 h2 h3 e))
            · rw [List.length_eraseIdx]
              split <;> omega
          · have hL4 := fr4 _ _ oL.1 oL.2 hL3
            refine ⟨.ref L, rfl, .inl ⟨rfl, _, SqL.of hL4⟩, .ref d, rfl, .int many, rfl, d, l, _, _, rfl, D4.mono (m := n + 3 + 4 * j) (by omega), by omega, by omega, by omega, fun H5 x D5 fr5 x0 x1 => ?_⟩
            refine ⟨L, _, _, rfl, rfl, fr5 _ _ oL.1 oL.2 hL4, by rw [natV_len]; omega, ?_⟩
            exact plain (D4.mono (by omega)) (frv3.trans (FrV.of fr4)) (free3.fr fr4) hL4 H5 x D5 fr5 x0 x1
    · rintro σ H2 ⟨y5, ws, rfl, D2, fr2, free2, hL2, lw, wlt⟩
      refine ⟨.ref L, rfl, L, _, rfl, .inl ⟨SqL.of hL2, fun t nt => ?_⟩⟩
      have st := same_upd (o := HO.tup (natV ws)) nt
      exact q t _ ws ((D2.same st).mono (by omega)) (fr2.trans (FrV.of (Fr.of st))) (free2.same st) upd_same (by omega) (by omega) wlt

end
end Gk

set_option Elab.async false
set_option linter.all false
set_option maxRecDepth 100000
set_option maxHeartbeats 1000000
set_option pp.maxSteps 1500
set_option pp.deepTerms false
namespace Gk
open PySem PySem.Spec PyProof.Rows L2
section
variable {P : Program} {w : World} {K : PySem.W.Frag} {mg : Str → Option Value} {base : Heap}
theorem NetOk.snoc {n : Nat} {gs : List Gt} {g : Gt} (h : NetOk n gs) (hg : GtOk (n + gs.length) g) : NetOk n (gs ++ [g]) := fun k g' e => by
  by_cases hk : k < gs.length
  · rw [List.getElem?_append_left hk] at e
    exact h k g' e
  · rw [List.getElem?_append_right (by omega)] at e
    cases hz : k - gs.length with
    | zero =>
      rw [hz] at e
      cases Option.some.inj e
      rw [show k = gs.length by omega]
      exact hg
    | succ j => rw [hz] at e; cases e
theorem noL_gDs : ∀ gs : List Gt, noLs (gs.map gD) = true
  | [] => rfl
  | g :: r => by
    show ((true && (noLs ((g.2.map Int.ofNat).map PyData.int) && true)) && noLs (r.map gD)) = true
    rw [noL_intsN, noL_gDs r]
    rfl
theorem TkAll.frV {H H' : Hp} {d l : Addr} {fv : V} {n : Int} {k : Nat} {vs : List V} {gs : List Gt} (t : TkAll H vs (gs.map gD)) (D : DeckE H d l n) (F : FreeAt H d l fv k) (f : FrV d l fv H H') : TkAll H' vs (gs.map gD) := t.ts (fun b xs e => by
  obtain ⟨ne, cs, z, y, hd, hl, r⟩ := D
  refine f b _ (ne_of e hd (by intro z; cases z)) (ne_of e hl (by intro z; cases z)) (fun z => ?_) e
  rcases F with h | ⟨fl, free, h1, h2, h3, h4, h5⟩
  · rw [h] at z; cases z
  · rw [h1] at z
    injection z with z
    rw [← z, h4] at e
    cases e) (noL_gDs _)
theorem TkAll.putL {H : Hp} {a : Addr} {xs ys vs : List V} {gs : List Gt} (t : TkAll H vs (gs.map gD)) (h : H a = some (.lst xs)) : TkAll (upd H a (.lst ys)) vs (gs.map gD) := t.ts (fun b zs e => by rw [upd_ne (ne_of e h (by intro z; cases z))]; exact e) (noL_gDs _)
def sp_net (K : PySem.W.Frag) : Sp := fun vs H Q _ => ∃ (d l : Addr) (n : Int) (fo lo : Bool), vs = [.ref d, .bl fo, .bl lo] ∧ DeckE H d l n ∧ n < 100000 ∧
  ∀ r H' (m : Nat) gs, DeckE H' d l (n + 2000) → Fr d l H H' → Tk H' (.ref r) (netD m gs) → 1 ≤ m → m ≤ 6 → gs.length ≤ 40 → NetOk m gs → 1 ≤ gs.length → Q (.ref r) H'
set_option maxHeartbeats 4000000 in
theorem ok_net (T : Tx K mg) : FnOk P w K mg base CX0 3 T.f_net T.fd_net ["_law_deck_here", "_law_formula", "_law_long"] (sp_net K) := by
  refine T.F_net.ok sc_net (fun vs H Q E h => ?_) (fun cdv A outer s H vs Q E hr h => ?_)
  · obtain ⟨d, l, n, fo, lo, rfl, _⟩ := h
    rfl
  · obtain ⟨d, l, n, fo, lo, rfl, D, hn, q⟩ := h
    refine ⟨_, (pss_cons (ps_set (i := 3) sc_net.nd rfl (by first | exact .inl rfl | exact .inr rfl) (pe_ix ix_list (pe_lst (pa_cons (pe_op op_add pe_int (pe_call (ok_draw T) (hr.mono (by decide)) (by rfl) T.g_draw T.F_draw.kp T.b_draw .nil pass0 (pa_cons (pv 0) (pa_cons pe_int pa_nil)))) (pa_cons pe_int pa_nil))) (pe_callTy call_int1 (by rfl) T.m_int (by decide +kernel) (pa_cons (pe_cmpR op_eq (pe_call (ok_draw T) (hr.mono (by decide)) (by rfl) T.g_draw T.F_draw.kp T.b_draw .nil pass0 (pa_cons (pv 0) (pa_cons pe_int pa_nil))) pe_int (nomark _)) pa_nil)) (fun _ _ => rfl))) (pss_cons (ps_set (i := 4) sc_net.nd rfl (by first | exact .inl rfl | exact .inr rfl) (pe_ix ix_list (pe_lst (pa_cons pe_non (pa_cons (pe_lst pa_nil) pa_nil))) (pe_callTy call_int1 (by rfl) T.m_int (by decide +kernel) (pa_cons (pv 1) pa_nil)) (fun _ _ => rfl))) (pss_cons (ps_set (i := 5) sc_net.nd rfl (by first | exact .inl rfl | exact .inr rfl) (pe_lst pa_nil)) (pss_cons (ps_for PassesOwn.never rfl (pi_range1 (by rfl) T.m_range (pa_cons (pe_ix ix_list (pe_lst (pa_cons (pe_op op_add pe_int (pe_call (ok_draw T) (hr.mono (by decide)) (by rfl) T.g_draw T.F_draw.kp T.b_draw .nil pass0 (pa_cons (pv 0) (pa_cons pe_int pa_nil)))) (pa_cons pe_int pa_nil))) (pe_callTy call_int1 (by rfl) T.m_int (by decide +kernel) (pa_cons (pv 2) pa_nil)) (fun _ _ => rfl)) pa_nil)) (pg_name (i := 6) sc_net.nd rfl (by first | exact .inl rfl | exact .inr rfl)) (pss_cons (ps_set (i := 7) sc_net.nd rfl (by first | exact .inl rfl | exact .inr rfl) (pe_call (ok_ins T) (hr.mono (by decide)) (by rfl) T.g_ins T.F_ins.kp T.b_ins .nil pass0 (pa_cons (pv 0) (pa_cons (pe_op op_add (pv 3) (pv 6)) (pa_cons (pv 3) (pa_cons (pv 4) pa_nil)))))) (C8.pss_cut (ps_if (pw_and (pt_val (pv 2)) (pw_and1 (pt_cmpR op_gt (pv 6) pe_int (nomark _)))).pt (pss_cons (ps_set (i := 7) sc_net.nd rfl (by first | exact .inl rfl | exact .inr rfl) (pe_op op_catA (pe_tup (pa_cons (pe_op op_sub (pe_op op_add (pv 3) (pv 6)) pe_int) pa_nil)) (pe_slice sl_tupA (pe_callTy call_tuple_of (by rfl) T.m_tuple (by decide +kernel) (pa_cons (pe_lc (own := [("_law_wire", 8)]) (by rfl) sc_net.nd (pi_tup (pv 7)) (blkOk_by (own := [("_law_wire", 8)]) (N := ["_law_deck_here", "_law_formula", "_law_long", "_law_many", "_law_free", "_law_gates", "_law_k", "_law_ins_here", "_law_wire"]) (sc := defScope s_net) (by decide +kernel)) (fun _ _ _ _ _ => (pg_name (i := 8) sc_net.nd rfl (by first | exact .inl rfl | exact .inr rfl))) (fun _ _ _ _ _ => (pts_one (pt_cmpR op_lt (pv 8) (pv 3) (nomark _)))) (fun _ _ _ _ _ => (pv 8))) pa_nil)) po_none (po_some pe_int)))) (pss_one (ps_set (i := 4) sc_net.nd rfl (by first | exact .inl rfl | exact .inr rfl) (pe_ix ix_list (pe_lst (pa_cons pe_non (pa_cons (pe_lst pa_nil) pa_nil))) (pe_callTy call_int1 (by rfl) T.m_int (by decide +kernel) (pa_cons (pv 1) pa_nil)) (fun _ _ => rfl))))) pss_nil) (pss_cons (ps_expr (pe_bm PySem.F.plainAttrs_list PySem.F.slot_list_append PySem.F.type_list_append mt_append (pv 5) (pa_cons (pe_tup (pa_cons (pe_call (ok_table T) (hr.mono (by decide)) (by rfl) T.g_table T.F_table.kp T.b_table .nil pass0 (pa_cons (pv 0) (pa_cons (pe_callB call_len_seq (by rfl) T.m_len PySem.boot_len (pa_cons (pv 7) pa_nil)) pa_nil))) (pa_cons (pv 7) pa_nil))) pa_nil))) (pss_one (ps_if (pw_and (pt_val (pv 1)) (pw_and1 (pt_not (pt_val (pv 2))))).pt (pss_one (ps_expr (pe_bm PySem.F.plainAttrs_list PySem.F.slot_list_append PySem.F.type_list_append mt_append (pv 4) (pa_cons (pe_op op_add (pv 3) (pv 6)) pa_nil)))) pss_nil)))))) (pss_one (ps_ret (pe_tup (pa_cons (pv 3) (pa_cons (pe_callTy call_tuple_of (by rfl) T.m_tuple (by decide +kernel) (pa_cons (pv 5) pa_nil)) pa_nil))))))))), ?_⟩
    have sl : (16777216 : Nat) = sizeLine := by decide
    refine ⟨.ref d, rfl, d, l, 4, n, rfl, D, by omega, by decide, by decide, fun H1 v D1 fr1 v0 v1 => ⟨_, _, rfl, rfl, sl2, fun p0 np0 => ?_⟩⟩
    have o0 := D1.off np0
    have s0 := same_upd (o := HO.lst [V.int (1 + v), V.int 6]) np0
    refine ⟨.ref d, rfl, d, l, 8, _, rfl, D1.same s0, by omega, by decide, by decide, fun H2 y D2 fr2 y0 y1 => ⟨rfl, .inr ⟨_, rfl, ?_⟩⟩⟩
    obtain ⟨m, m1, m6, em⟩ : ∃ m : Nat, 1 ≤ m ∧ m ≤ 6 ∧ atI [V.int (1 + v), V.int 6] (if decide (V.int y = V.int 5) = true then 1 else 0) = some (.int (m : Nat)) := by
      by_cases e : decide (V.int y = V.int 5) = true
      · rw [if_pos e]
        exact ⟨6, by decide, by decide, rfl⟩
      · rw [if_neg e]
        refine ⟨(1 + v).toNat, by omega, by omega, ?_⟩
        show some (V.int (1 + v)) = _
        congr 2
        omega
    refine ⟨p0, _, _, _, rfl, rfl, SqL.of (fr2 _ _ o0.1 o0.2 upd_same), em, ?_⟩
    have frA : Fr d l H H2 := (fr1.trans (Fr.of s0)).trans fr2
    -- free
    have mkfree : ∀ {G : Hp} {k : Nat} {N : Int}, DeckE G d l N → Fr d l H G → ∀ (Q' : VK), (∀ (fv : V) (G' : Hp), Same G G' → FreeAt G' d l fv k → (∀ fl, fv = .ref fl → H fl = none ∧ G fl = none) → (fo = true → ∃ fl, fv = .ref fl) → Q' fv G') → ∀ e, G e = none → ∀ p, (upd G e (.lst [])) p = none → ∃ (pp : Addr) (xs : List V) (i : Int) (x : V), V.ref p = .ref pp ∧ V.int (if fo = true then 1 else 0) = .int i ∧ SqL K (upd (upd G e (.lst [])) p (.lst [.non, .ref e])) pp xs ∧ atI xs i = some x ∧ Q' x (upd (upd G e (.lst [])) p (.lst [.non, .ref e])) := by
      intro G k N DG frG Q' q' e ne p np
      have se := same_upd (o := HO.lst []) ne
      have sp := same_upd (o := HO.lst [V.non, V.ref e]) np
      have oe := DG.off ne
      refine ⟨p, _, _, (if fo = true then .ref e else .non), rfl, rfl, SqL.of upd_same, by cases fo <;> rfl, q' _ _ (se.trans sp) ?_ ?_ ?_⟩
      · cases fo
        · exact .inl rfl
        · exact .inr ⟨e, [], rfl, oe.1, oe.2, sp _ _ upd_same, Nat.zero_le _, fun x hx => by cases hx⟩
      · intro fl hfl
        cases fo
        · cases hfl
        · cases hfl
          exact ⟨none_of_frE frG DG ne, ne⟩
      · intro z
        rw [z]
        exact ⟨e, rfl⟩
    refine ⟨Nat.zero_le _, fun e0 ne0 => ⟨sl2, fun p1 np1 => ⟨.bl fo, rfl, .inr ⟨_, rfl, ?_⟩⟩⟩⟩
    refine mkfree (k := m) D2 frA _ (fun fv H3 s3 free3 fresh3 isf => ?_) e0 ne0 p1 np1
    have D3 := D2.same s3
    have frB := frA.trans (Fr.of (d := d) (l := l) s3)
    -- gates
    refine ⟨Nat.zero_le _, fun GL nGL => ?_⟩
    have oG := D3.off nGL
    have sG := same_upd (o := HO.lst []) nGL
    have nG0 := none_of_frE frB D3 nGL
    have fvG := free3.ne nGL
    have hG := upd_same (H := H3) (a := GL) (o := .lst [])
    refine ⟨.ref d, rfl, d, l, 6, _, rfl, D3.same sG, by omega, by decide, by decide, fun H4 u D4 fr4 u0 u1 => ⟨_, _, rfl, rfl, sl2, fun p2 np2 => ?_⟩⟩
    have s5 := same_upd (o := HO.lst [V.int (1 + u), V.int 40]) np2
    obtain ⟨C, C1, C40, eC⟩ : ∃ C : Nat, 1 ≤ C ∧ C ≤ 40 ∧ atI [V.int (1 + u), V.int 40] (if lo = true then 1 else 0) = some (.int (C : Nat)) := by
      cases lo
      · refine ⟨(1 + u).toNat, by omega, by omega, ?_⟩
        show some (V.int (1 + u)) = _
        congr 2
        omega
      · exact ⟨40, by decide, by decide, rfl⟩
    refine ⟨.bl lo, rfl, .inr ⟨_, rfl, p2, _, _, _, rfl, rfl, SqL.of upd_same, eC, C, rfl, by omega, by omega, ?_⟩⟩
    have eCn : ((C : Nat) : Int).toNat = C := by omega
    rw [eCn]
    have D5 := D4.same s5
    have frC := ((frB.trans (Fr.of (d := d) (l := l) sG)).trans fr4).trans (Fr.of (d := d) (l := l) s5)
    have hG5 := s5 _ _ (fr4 _ _ oG.1 oG.2 hG)
    have free5 := ((free3.same sG).fr fr4).same s5
    refine for_range (lo := 0) (n := C) (fun i σ H' => ∃ (fv : V) (y6 y7 : Option V) (zs : List V) (gs : List Gt), σ = [some (.ref d), some (.bl fo), some (.bl lo), some (.int (m : Nat)), some fv, some (.ref GL), y6, y7, none] ∧ DeckE H' d l (n + 3 + 40 * i) ∧ Fr d l H H' ∧ FreeAt H' d l fv (m + i) ∧ (∀ fl, fv = .ref fl → H fl = none ∧ fl ≠ GL) ∧ (fo = true → ∃ fl, fv = .ref fl) ∧ H' GL = some (.lst zs) ∧ TkAll H' zs (gs.map gD) ∧ gs.length = i ∧ NetOk m gs)
      ⟨fv, _, _, [], [], rfl, D5.mono (by omega), frC, free5, fun fl e => ⟨(fresh3 fl e).1, fun z => fvG (by rw [e, z])⟩, isf, hG5, .nil, rfl, fun k g e => by simp at e⟩ ?_ ?_
    · rintro i σ H6 hi ⟨fv, y6, y7, zs, gs, rfl, D6, fr6, free6, fresh, isf, hG6, tz, lg, ok⟩
      have ei : (0 : Int) + (i : Int) = (i : Int) := Int.zero_add _
      rw [ei]
      have fvG : fv ≠ .ref GL := fun z => (fresh GL z).2 rfl
      refine ⟨.ref d, rfl, .int (m : Nat), rfl, .int (i : Nat), rfl, _, _, rfl, rfl, .int (m : Nat), rfl, fv, rfl, d, l, _, m + i, m, fv, rfl, D6, by omega, m1, by omega, by omega, free6, fun r H7 ws D7 fr7 free7 hr7 w1 w3 wlt => ?_⟩
      have frD : Fr d l H H7 := fun b o h1 h2 e => fr7 b o h1 h2 (fun z => by have := (fresh b z).1; rw [e] at this; cases this) (fr6 b o h1 h2 e)
      have hG7 := fr7 _ _ oG.1 oG.2 fvG hG6
      have tz7 := tz.frV D6 free6 fr7
      -- long ones
      refine ⟨fun σ H' => ∃ (fv : V) (ti : Addr) (ws : List Nat), σ = [some (.ref d), some (.bl fo), some (.bl lo), some (.int (m : Nat)), some fv, some (.ref GL), some (.int (i : Nat)), some (.ref ti), none] ∧ DeckE H' d l (n + 16 + 40 * i) ∧ Fr d l H H' ∧ FreeAt H' d l fv (m + i) ∧ (∀ fl, fv = .ref fl → H fl = none ∧ fl ≠ GL) ∧ (fo = true → ∃ fl, fv = .ref fl) ∧ H' GL = some (.lst zs) ∧ TkAll H' zs (gs.map gD) ∧ H' ti = some (.tup (natV ws)) ∧ 1 ≤ ws.length ∧ ws.length ≤ 3 ∧ ∀ x ∈ ws, x < m + i, ?_, ?_⟩
      · have keep : ∃ (fv' : V) (ti : Addr) (ws' : List Nat), [some (V.ref d), some (.bl fo), some (.bl lo), some (.int (m : Nat)), some fv, some (.ref GL), some (.int (i : Nat)), some (.ref r), none] = [some (V.ref d), some (.bl fo), some (.bl lo), some (.int (m : Nat)), some fv', some (.ref GL), some (.int (i : Nat)), some (.ref ti), none] ∧ DeckE H7 d l (n + 16 + 40 * i) ∧ Fr d l H H7 ∧ FreeAt H7 d l fv' (m + i) ∧ (∀ fl, fv' = .ref fl → H fl = none ∧ fl ≠ GL) ∧ (fo = true → ∃ fl, fv' = .ref fl) ∧ H7 GL = some (.lst zs) ∧ TkAll H7 zs (gs.map gD) ∧ H7 ti = some (.tup (natV ws')) ∧ 1 ≤ ws'.length ∧ ws'.length ≤ 3 ∧ ∀ x ∈ ws', x < m + i :=
          ⟨fv, r, ws, rfl, D7.mono (by omega), frD, free7, fresh, isf, hG7, tz7, hr7, w1, w3, wlt⟩
        refine ⟨.bl lo, rfl, lo, rfl, ite2 (fun _ => ?_) (fun _ => keep)⟩
        refine ⟨.int (i : Nat), rfl, _, _, rfl, rfl, _, rfl, ite2 (fun hpos => ?_) (fun _ => keep)⟩
        have hpos : 0 < i := by have h := of_decide_eq_true hpos; omega
        refine ⟨.int (m : Nat), rfl, .int (i : Nat), rfl, _, _, rfl, rfl, _, _, rfl, rfl, sl1, fun t1 n1 => ?_⟩
        have st1 := same_upd (o := HO.tup [V.int ((m : Int) + (i : Int) - 1)]) n1
        have hr8 := st1 _ _ hr7
        have ht1 := upd_same (H := H7) (a := t1) (o := .tup [V.int ((m : Int) + (i : Int) - 1)])
        dsimp only
        generalize upd H7 t1 (.tup [V.int ((m : Int) + (i : Int) - 1)]) = H8 at st1 hr8 ht1 ⊢
        refine ⟨.ref r, rfl, r, rfl, ⟨_, SqT.of hr8⟩, fun M nM => ?_⟩
        refine lc_tup (K := K) (a := r) (xs := natV ws) (fun j H' => Same H8 (hd1 M H') ∧ ∃ acc : List Nat, H' M = some (.lst (natV acc)) ∧ acc.length ≤ j ∧ ∀ x ∈ acc, x < m) ⟨hd1_of (same_upd nM) nM, [], upd_same, Nat.le_refl _, fun x hx => by cases hx⟩ (fun j H' _ hP => SqT.of (hd1_le _ _ (hP.1 _ _ hr8))) ?_ ?_
        · rintro j x H9 hx ⟨s9, acc, hM, la, lt⟩
          obtain ⟨xn, hxn, rfl⟩ := natV_inv hx
          have hjl := (List.getElem?_eq_some_iff.mp hxn).1
          refine ⟨rfl, .int (Int.ofNat xn), rfl, .int (m : Nat), rfl, _, _, rfl, rfl, _, rfl, ite2 (fun hlt => ?_) (fun _ => ⟨s9, acc, hM, by omega, lt⟩)⟩
          have hlt : xn < m := by have h := of_decide_eq_true hlt; exact Int.ofNat_lt.mp h
          refine ⟨.int (Int.ofNat xn), rfl, _, hM, by rw [natV_len]; omega, s9.trans hd1_upd, acc ++ [xn], by rw [upd_same, natV_app]; rfl, by rw [List.length_append]; show acc.length + 1 ≤ j + 1; omega, fun z hz => ?_⟩
          rcases List.mem_append.mp hz with z' | z'
          · exact lt z z'
          · rw [List.mem_singleton.mp z']; exact hlt
        · rintro H9 ⟨s9, acc, hM, la, lt⟩
          have s89 : Same H8 H9 := fun b o e => hd1_le _ _ (s9 _ _ e)
          refine ⟨M, _, rfl, .inl ⟨SqL.of hM, fun t2 n2 => ?_⟩⟩
          have st2 := same_upd (o := HO.tup (natV acc)) n2
          refine ⟨2, rfl, slA upd_same fun t3 H10 s10 h10 => ?_⟩
          have cu : cutV (natV acc) none (some 2) = natV (acc.take 2) := by
            have := cut_to (xs := natV acc) (k := 2)
            rw [show ((2 : Nat) : Int) = 2 from rfl] at this
            rw [this]
            unfold natV
            rw [List.map_take, List.map_take]
          rw [cu] at h10
          have s810 := (s89.trans st2).trans s10
          refine catA (s810 _ _ ht1) h10 ?_ fun t4 H11 s11 h11 => ?_
          · rw [natV_len, List.length_take]
            show 1 + _ ≤ sizeLine
            omega
          have s711 := (st1.trans s810).trans s11
          have D11 := D7.same s711
          have frE := frD.trans (Fr.of (d := d) (l := l) s711)
          refine ⟨Nat.zero_le _, fun e1 ne1 => ⟨sl2, fun p3 np3 => ⟨.bl fo, rfl, .inr ⟨_, rfl, ?_⟩⟩⟩⟩
          refine mkfree (k := m + i) D11 frE _ (fun fv' H12 s12 free12 fresh12 isf12 => ?_) e1 ne1 p3 np3
          have s712 := s711.trans s12
          refine ⟨fv', t4, (m + i - 1) :: acc.take 2, rfl, (D7.same s712).mono (by omega), frD.trans (Fr.of s712), free12, fun fl e => ⟨(fresh12 fl e).1, fun z => by have := (fresh12 fl e).2; rw [z, s711 _ _ hG7] at this; cases this⟩, isf12, s712 _ _ hG7, tz7.same s712, ?_, by show 1 ≤ _ + 1; omega, by rw [List.length_cons, List.length_take]; omega, fun z hz => ?_⟩
          · rw [s12 _ _ h11]
            congr 2
            show V.int ((m : Int) + (i : Int) - 1) :: natV (acc.take 2) = V.int ((m + i - 1 : Nat) : Int) :: natV (acc.take 2)
            congr 2
            omega
          · rcases List.mem_cons.mp hz with rfl | hz
            · omega
            · have := lt z (List.mem_of_mem_take hz)
              omega
      rintro σ H8 ⟨fv, ti, ws, rfl, D8, fr8, free8, fresh, isf, hG8, tz8, hti, w1, w3, wlt⟩
      have fvG : fv ≠ .ref GL := fun z => (fresh GL z).2 rfl
      have otd : ti ≠ d ∧ ti ≠ l := by
        obtain ⟨ne, cs, z, y', hd, hl', r⟩ := id D8
        exact ⟨ne_of hti hd (by intro z; cases z), ne_of hti hl' (by intro z; cases z)⟩
      have nwl := natV_len ws
      refine ⟨.ref GL, rfl, .inl ⟨rfl, _, SqL.of hG8⟩, .ref d, rfl, .ref ti, rfl, ti, _, rfl, .inr (SqT.of hti), d, l, _, (natV ws).length, rfl, D8, by omega, by omega, by omega, fun H9 bs D9 fr9 lb => ?_⟩
      rw [nwl] at lb
      have hti9 := fr9 _ _ otd.1 otd.2 hti
      have hG9 := fr9 _ _ oG.1 oG.2 hG8
      have tz9 := tz8.frV D8 free8 (FrV.of fr9)
      have zl := tz9.length
      rw [List.length_map] at zl
      refine ⟨.ref ti, rfl, sl2, fun t nt => ?_⟩
      have st := same_upd (o := HO.tup [V.str (tabOf bs), V.ref ti]) nt
      have hG10 := st _ _ hG9
      refine ⟨GL, _, _, rfl, rfl, hG10, by omega, ?_⟩
      have tiG : ti ≠ GL := ne_of hti9 hG9 (by intro z; cases z)
      have tG : t ≠ GL := (ne_of_none hG9 nt).symm
      have tz11 : TkAll (upd (upd H9 t (.tup [V.str (tabOf bs), V.ref ti])) GL (.lst (zs ++ [.ref t]))) (zs ++ [.ref t]) ((gs ++ [(bs, ws)]).map gD) := by
        rw [List.map_append]
        refine ((tz9.same st).putL hG10).append (.cons (.tup (a := t) (xs := [V.str (tabOf bs), V.ref ti]) ?_ (.cons (.str _) (.cons (.tup (xs := natV ws) ?_ (TkAll.ints _)) .nil))) .nil)
        · rw [upd_ne tG]; exact upd_same
        · rw [upd_ne tiG]; exact st _ _ hti9
      have D11 : DeckE (upd (upd H9 t (.tup [V.str (tabOf bs), V.ref ti])) GL (.lst (zs ++ [.ref t]))) d l (n + 26 + 40 * i) := ((D9.same st).upd oG.1 oG.2).mono (by omega)
      have fr11 : Fr d l H (upd (upd H9 t (.tup [V.str (tabOf bs), V.ref ti])) GL (.lst (zs ++ [.ref t]))) := Fr.upd ((fr8.trans fr9).trans (Fr.of st)) nG0
      have free11 : FreeAt (upd (upd H9 t (.tup [V.str (tabOf bs), V.ref ti])) GL (.lst (zs ++ [.ref t]))) d l fv (m + i) := ((free8.fr fr9).same st).put fvG
      have hG11 := upd_same (H := upd H9 t (.tup [V.str (tabOf bs), V.ref ti])) (a := GL) (o := .lst (zs ++ [.ref t]))
      generalize upd (upd H9 t (.tup [V.str (tabOf bs), V.ref ti])) GL (.lst (zs ++ [.ref t])) = H11 at tz11 D11 fr11 free11 hG11 ⊢
      have ok' : NetOk m (gs ++ [(bs, ws)]) := ok.snoc ⟨lb, w1, w3, fun x hx => by rw [lg]; exact wlt x hx⟩
      have lg' : (gs ++ [(bs, ws)]).length = i + 1 := by rw [List.length_append, lg]; rfl
      have stay : ∃ (fv' : V) (y6 y7 : Option V) (zs' : List V) (gs' : List Gt), [some (V.ref d), some (.bl fo), some (.bl lo), some (.int (m : Nat)), some fv, some (.ref GL), some (.int (i : Nat)), some (.ref ti), none] = [some (V.ref d), some (.bl fo), some (.bl lo), some (.int (m : Nat)), some fv', some (.ref GL), y6, y7, none] ∧ DeckE H11 d l (n + 3 + 40 * (i + 1 : Nat)) ∧ Fr d l H H11 ∧ FreeAt H11 d l fv' (m + (i + 1)) ∧ (∀ fl, fv' = .ref fl → H fl = none ∧ fl ≠ GL) ∧ (fo = true → ∃ fl, fv' = .ref fl) ∧ H11 GL = some (.lst zs') ∧ TkAll H11 zs' (gs'.map gD) ∧ gs'.length = i + 1 ∧ NetOk m gs' :=
        ⟨fv, _, _, _, _, rfl, D11.mono (by push_cast; omega), fr11, free11.mono (by omega), fresh, isf, hG11, tz11, lg', ok'⟩
      refine ⟨.bl fo, rfl, fo, rfl, ite2 (fun hf => ?_) (fun _ => stay)⟩
      refine ⟨.bl lo, rfl, lo, rfl, ?_⟩
      cases lo
      · refine iteT ?_
        obtain ⟨fl, efl⟩ := isf hf
        subst efl
        rcases free11 with z | ⟨fl', free, e1, f1, f2, f3, f4, f5⟩
        · cases z
        · cases e1
          have flG := (fresh fl rfl).2
          refine ⟨.ref fl, rfl, .inl ⟨rfl, _, SqL.of f3⟩, .int (m : Nat), rfl, .int (i : Nat), rfl, _, _, rfl, rfl, fl, _, _, rfl, rfl, f3, by rw [natV_len]; omega, ?_⟩
          refine ⟨.ref fl, _, _, _, _, rfl, (D11.upd f1 f2).mono (by push_cast; omega), Fr.upd fr11 (fresh fl rfl).1, .inr ⟨fl, free ++ [m + i], rfl, f1, f2, ?_, by rw [List.length_append]; show free.length + 1 ≤ m + (i + 1); omega, fun x hx => ?_⟩, fresh, isf, by rw [upd_ne flG.symm]; exact hG11, tz11.putL f3, lg', ok'⟩
          · rw [upd_same, natV_app]
            rfl
          · rcases List.mem_append.mp hx with z | z
            · have := f5 x z; omega
            · rw [List.mem_singleton.mp z]; omega
      · exact iteF stay
    · rintro σ H6 ⟨fv, y6, y7, zs, gs, rfl, D6, fr6, free6, fresh, isf, hG6, tz, lg, ok⟩
      refine ⟨.int (m : Nat), rfl, .ref GL, rfl, GL, _, rfl, .inl ⟨SqL.of hG6, fun tg ntg => ⟨sl2, fun r nr => ?_⟩⟩⟩
      have s1 := same_upd (o := HO.tup zs) ntg
      have s2 := same_upd (o := HO.tup [V.int (m : Nat), V.ref tg]) nr
      have s12 := s1.trans s2
      exact q r _ m gs ((D6.same s12).mono (by omega)) (fr6.trans (Fr.of s12)) (.tup upd_same (.cons (.int _) (.cons (.tup (s2 _ _ upd_same) (tz.same s12)) .nil))) m1 m6 (by omega) ok (by omega)

end
end Gk

set_option Elab.async false
set_option linter.all false
set_option maxRecDepth 100000
set_option maxHeartbeats 1000000
set_option pp.maxSteps 1500
set_option pp.deepTerms false
namespace Gk
open PySem PySem.Spec PyProof.Rows L2
section
variable {P : Program} {w : World} {K : PySem.W.Frag} {mg : Str → Option Value} {base : Heap}
def sp_l_settled (K : PySem.W.Frag) : Sp := fun vs H Q _ => ∃ (nv rv : V) (m : Int) (gs : List Gt) (a : List Int), vs = [nv, rv] ∧ Tk H nv (netD m gs) ∧ Tk H rv (rowD a) ∧ Row01 a ∧ a.length ≤ 16 ∧ gs.length ≤ 1000 ∧ NetOk a.length gs ∧ ∀ r H', H r = none → Same H H' → H' r = some (.lst ((settledM gs a).map V.int)) → Q (.ref r) H'
theorem ok_l_settled (T : Tx K mg) : FnOk P w K mg base CX0 2 T.f_l_settled T.fd_l_settled ["_law_net_here", "_law_row"] (sp_l_settled K) := by
  refine T.F_l_settled.ok sc_l_settled (fun vs H Q E h => ?_) (fun cdv A outer s H vs Q E hr h => ?_)
  · obtain ⟨nv, rv, m, gs, a, rfl, _⟩ := h
    rfl
  · obtain ⟨nv, rv, m, gs, a, rfl, tn, tr, ha, h16, h64, ok, q⟩ := h
    refine ⟨_, (pss_cons (ps_set (i := 2) sc_l_settled.nd rfl (by first | exact .inl rfl | exact .inr rfl) (pe_callTy call_list_of (by rfl) T.m_list (by decide +kernel) (pa_cons (pv 1) pa_nil))) (pss_cons (ps_for PassesOwn.never rfl (pi_tup (pe_ix ix_tup (pv 0) pe_int (fun _ _ => rfl))) (pg_tup rfl (pgs_cons (pg_name (i := 3) sc_l_settled.nd rfl (by first | exact .inl rfl | exact .inr rfl)) (pgs_cons (pg_name (i := 4) sc_l_settled.nd rfl (by first | exact .inl rfl | exact .inr rfl)) pgs_nil))) (pss_one (ps_expr (pe_bm PySem.F.plainAttrs_list PySem.F.slot_list_append PySem.F.type_list_append mt_append (pv 2) (pa_cons (pe_call (ok_worth T) (hr.mono (by decide)) (by rfl) T.g_worth T.F_worth.kp T.b_worth .nil pass0 (pa_cons (pv 3) (pa_cons (pe_lc (own := [("_law_wire", 5)]) (by rfl) sc_l_settled.nd (pi_tup (pv 4)) (blkOk_by (own := [("_law_wire", 5)]) (N := ["_law_net_here", "_law_row", "_law_worths_here", "_law_table_here", "_law_ins_here", "_law_wire"]) (sc := defScope s_l_settled) (by decide +kernel)) (fun _ _ _ _ _ => (pg_name (i := 5) sc_l_settled.nd rfl (by first | exact .inl rfl | exact .inr rfl))) (fun _ _ _ _ _ => pts_nil) (fun _ _ _ _ _ => (pe_ix (show IxR _ (rIxL K) from ix_list) (pv 2) (pv 5) (fun _ _ => rfl)))) pa_nil))) pa_nil))))) (pss_one (ps_ret (pv 2))))), ?_⟩
    obtain ⟨n, g, xs, rfl, hn, hg, tg⟩ := tn.net_inv
    obtain ⟨ra, rfl, hra⟩ := tr.row_inv
    have xl : xs.length = gs.length := by rw [tg.length, List.length_map]
    refine ⟨.ref ra, rfl, ra, _, rfl, .inr (SqT.of hra), fun L nL => ?_⟩
    have s1 := same_upd (o := HO.lst (a.map V.int)) nL
    refine ⟨.ref n, rfl, n, _, 1, .ref g, rfl, rfl, SqT.of (s1 _ _ hn), rfl, g, rfl, ⟨_, SqT.of (s1 _ _ hg)⟩, ?_⟩
    refine for_tup (K := K) (a := g) (xs := xs) (fun i σ H' => ∃ y3 y4, σ = [some (.ref n), some (.ref ra), some (.ref L), y3, y4, none] ∧ Same H (hd1 L H') ∧ H' L = some (.lst ((settledM (gs.take i) a).map V.int)))
      ⟨_, _, rfl, hd1_of s1 nL, upd_same⟩ (fun i σ H' _ ⟨_, _, _, hP, _⟩ => SqT.of (hd1_le _ _ (hP _ _ hg))) ?_ ?_
    · rintro i v σ H2 hv ⟨y3, y4, rfl, s2, hL⟩
      have s02 : Same H H2 := fun b o e => hd1_le _ _ (s2 _ _ e)
      obtain ⟨gt, hgt, tgt⟩ := tg.at hv
      obtain ⟨ga, ii, rfl, hga, hii⟩ := (tgt.same s02).gt_inv
      obtain ⟨ok1, ok2, ok3, ok4⟩ := ok i gt hgt
      have hil := (List.getElem?_eq_some_iff.mp hgt).1
      have sl : (settledM (gs.take i) a).length = a.length + i := by
        rw [settledM_len, List.length_take]
        omega
      have s01 := settledM_01 (gs.take i) a ha
      refine ⟨ga, _, rfl, SqT.of hga, rfl, _, _, rfl, _, _, rfl, rfl, ?_⟩
      refine ⟨.ref L, rfl, .inl ⟨rfl, _, SqL.of hL⟩, .str (tabOf gt.1), rfl, .ref ii, rfl, ii, rfl, ⟨_, SqT.of hii⟩, fun M nM => ?_⟩
      refine lc_tup (K := K) (a := ii) (xs := (gt.2.map Int.ofNat).map V.int) (fun j H' => Same H2 (hd1 M H') ∧ H' M = some (.lst ((pickI (settledM (gs.take i) a) (gt.2.take j)).map V.int))) ⟨hd1_of (same_upd nM) nM, upd_same⟩ (fun j H' _ hP => SqT.of (hd1_le _ _ (hP.1 _ _ hii))) ?_ ?_
      · rintro j x H3 hx ⟨s3, hM⟩
        rw [List.getElem?_map, List.getElem?_map] at hx
        cases hj : gt.2[j]? with
        | none => rw [hj] at hx; cases hx
        | some k =>
          rw [hj] at hx
          cases Option.some.inj hx
          have hk := ok4 k (List.mem_of_getElem? hj)
          have hjl := (List.getElem?_eq_some_iff.mp hj).1
          have hat : ((settledM (gs.take i) a).map V.int)[k]? = some (.int ((settledM (gs.take i) a).getD k 0)) := by
            rw [List.getElem?_map, List.getD_eq_getElem?_getD, List.getElem?_eq_getElem (by omega)]
            rfl
          refine ⟨rfl, .ref L, rfl, .int (Int.ofNat k), rfl, L, _, Int.ofNat k, _, rfl, rfl, SqL.of (hd1_le _ _ (s3 _ _ hL)), atI_nat hat, _, hM, ?_, s3.trans hd1_upd, ?_⟩
          · unfold pickI
            rw [List.length_map, List.length_map, List.length_take]
            exact Nat.lt_of_lt_of_le (show _ < 8 by omega) (by decide)
          · rw [upd_same, List.take_add_one, hj]
            unfold pickI
            rw [List.map_append, List.map_append]
            rfl
      · rintro H3 ⟨s3, hM⟩
        rw [List.length_map, List.length_map, List.take_length] at hM
        have s23 : Same H2 H3 := fun b o e => hd1_le _ _ (s3 _ _ e)
        have pl : (pickI (settledM (gs.take i) a) gt.2).length = gt.2.length := by unfold pickI; rw [List.length_map]
        refine ⟨gt.1, M, _, rfl, SqL.of hM, pick_01 s01 _, by rw [pl]; exact ok1, by rw [pl]; exact ok3, ?_⟩
        refine ⟨L, _, _, rfl, rfl, s23 _ _ hL, ?_, ?_⟩
        · rw [List.length_map, sl]
          exact Nat.lt_of_lt_of_le (show _ < 2000 by omega) (by decide)
        · refine ⟨_, _, rfl, s2.trans ((hd1_same s23).trans hd1_upd), ?_⟩
          rw [upd_same, settledM_take hgt]
          unfold stepS
          rw [List.map_append]
          rfl
    · rintro σ H2 ⟨y3, y4, rfl, s2, hL⟩
      rw [xl, List.take_length] at hL
      exact ⟨.ref L, rfl, q L _ nL (fun b o e => hd1_le _ _ (s2 _ _ e)) hL⟩

theorem row01_snoc {r : List Int} {x : Int} (h : Row01 r) (hx : x = 0 ∨ x = 1) : Row01 (r ++ [x]) := fun y hy => by
  rcases List.mem_append.mp hy with z | z
  · exact h y z
  · rw [List.mem_singleton.mp z]; exact hx
def sp_change (K : PySem.W.Frag) : Sp := fun vs H Q _ => ∃ (d l : Addr) (n : Int) (m : Nat), vs = [.ref d, .int m] ∧ DeckE H d l n ∧ n < 1000000 ∧ 1 ≤ m ∧ m ≤ 6 ∧ ∀ r H' a b, DeckE H' d l (n + 13) → Fr d l H H' → Tk H' (.ref r) (chD a b) → a.length = m → b.length = m → Row01 a → Row01 b → Q (.ref r) H'
theorem ok_change (T : Tx K mg) : FnOk P w K mg base CX0 2 T.f_change T.fd_change ["_law_deck_here", "_law_many"] (sp_change K) := by
  refine T.F_change.ok sc_change (fun vs H Q E h => ?_) (fun cdv A outer s H vs Q E hr h => ?_)
  · obtain ⟨d, l, n, m, rfl, _⟩ := h
    rfl
  · obtain ⟨d, l, n, m, rfl, D, hn, m1, m6, q⟩ := h
    refine ⟨_, (pss_cons (ps_set (i := 2) sc_change.nd rfl (by first | exact .inl rfl | exact .inr rfl) (pe_call (ok_draw T) (hr.mono (by decide)) (by rfl) T.g_draw T.F_draw.kp T.b_draw .nil pass0 (pa_cons (pv 0) (pa_cons pe_int pa_nil)))) (pss_cons (ps_setLc (i := 3) (own := [("_law_k", 5)]) (by rfl) sc_change.nd rfl rfl (sw_true rfl rfl rfl (by decide +kernel)) (pi_range1 (by rfl) T.m_range (pa_cons (pv 1) pa_nil)) (blkOk_by (own := [("_law_k", 5)]) (N := ["_law_deck_here", "_law_many", "_law_way", "_law_one", "_law_other", "_law_k", "_law_worth_here"]) (sc := defScope s_change) (by decide +kernel)) (fun _ _ _ _ _ => (pg_name (i := 5) sc_change.nd rfl (by first | exact .inl rfl | exact .inr rfl))) (fun _ _ _ _ _ => pts_nil) (fun _ _ _ _ _ => (pe_call (ok_draw T) (hr.mono (by decide)) (by rfl) T.g_draw T.F_draw.kp T.b_draw .nil pass0 (pa_cons (pv 0) (pa_cons pe_int pa_nil))))) (pss_cons (ps_setLc (i := 4) (own := [("_law_worth_here", 6)]) (by rfl) sc_change.nd rfl rfl (sw_true rfl rfl rfl (by decide +kernel)) (pi_list (pv 3)) (blkOk_by (own := [("_law_worth_here", 6)]) (N := ["_law_deck_here", "_law_many", "_law_way", "_law_one", "_law_other", "_law_k", "_law_worth_here"]) (sc := defScope s_change) (by decide +kernel)) (fun _ _ _ _ _ => (pg_name (i := 6) sc_change.nd rfl (by first | exact .inl rfl | exact .inr rfl))) (fun _ _ _ _ _ => pts_nil) (fun _ _ _ _ _ => (pe_op op_sub pe_int (pv 6)))) (C8.pss_cut (ps_if (pt_cmpR op_gt (pv 2) pe_int (nomark _)) (pss_one (ps_setLc (i := 4) (own := [("_law_k", 5)]) (by rfl) sc_change.nd rfl rfl (sw_true rfl rfl rfl (by decide +kernel)) (pi_range1 (by rfl) T.m_range (pa_cons (pv 1) pa_nil)) (blkOk_by (own := [("_law_k", 5)]) (N := ["_law_deck_here", "_law_many", "_law_way", "_law_one", "_law_other", "_law_k", "_law_worth_here"]) (sc := defScope s_change) (by decide +kernel)) (fun _ _ _ _ _ => (pg_name (i := 5) sc_change.nd rfl (by first | exact .inl rfl | exact .inr rfl))) (fun _ _ _ _ _ => pts_nil) (fun _ _ _ _ _ => (pe_call (ok_draw T) (hr.mono (by decide)) (by rfl) T.g_draw T.F_draw.kp T.b_draw .nil pass0 (pa_cons (pv 0) (pa_cons pe_int pa_nil)))))) pss_nil) (pss_one (ps_ret (pe_tup (pa_cons (pe_callTy call_tuple_of (by rfl) T.m_tuple (by decide +kernel) (pa_cons (pv 3) pa_nil)) (pa_cons (pe_callTy call_tuple_of (by rfl) T.m_tuple (by decide +kernel) (pa_cons (pv 4) pa_nil)) pa_nil))))))))), ?_⟩
    have sl : (16777216 : Nat) = sizeLine := by decide
    have em : ((m : Nat) : Int).toNat = m := by omega
    refine ⟨.ref d, rfl, d, l, 4, n, rfl, D, by omega, by decide, by decide, fun H3 wy D3 frB w0 w1 => ?_⟩
    refine ⟨.int m, rfl, m, rfl, by omega, by omega, fun OA nOA => ?_⟩
    have oA := D3.off nOA
    have nOA0 := none_of_frE frB D3 nOA
    refine lc_range (lo := 0) (n := (m : Int).toNat) (fun j H' => DeckE H' d l (n + 1 + j) ∧ Fr d l H H' ∧ ∃ a : List Int, H' OA = some (.lst (a.map V.int)) ∧ a.length = j ∧ Row01 a)
      ⟨(D3.same (same_upd nOA)).mono (by omega), frB.trans (Fr.new nOA), [], upd_same, rfl, fun x hx => by cases hx⟩ ?_ ?_
    · rintro j H4 hj ⟨D4, fr4, a, hA, la, a01⟩
      refine ⟨rfl, .ref d, rfl, d, l, 2, _, rfl, D4, by omega, by decide, by decide, fun H5 z D5 fr5 z0 z1 => ?_⟩
      refine ⟨_, fr5 _ _ oA.1 oA.2 hA, by rw [List.length_map]; omega, (D5.upd oA.1 oA.2).mono (by push_cast; omega), Fr.upd (fr4.trans fr5) nOA0, a ++ [z], by rw [upd_same, List.map_append]; rfl, by rw [List.length_append, la]; rfl, row01_snoc a01 (by omega)⟩
    rintro H4 ⟨D4, fr4, a, hA, la, a01⟩
    rw [em] at la
    have D4 : DeckE H4 d l (n + 7) := D4.mono (by omega)
    refine ⟨.ref OA, rfl, OA, rfl, ⟨_, SqL.of hA⟩, fun OB nOB => ?_⟩
    have oB := D4.off nOB
    have nOB0 := none_of_frE fr4 D4 nOB
    have AB : OA ≠ OB := ne_of_none hA nOB
    refine lc_list (K := K) (a := OA) (xs := a.map V.int) (fun j H' => DeckE H' d l (n + 7) ∧ Fr d l H H' ∧ H' OA = some (.lst (a.map V.int)) ∧ ∃ b : List Int, H' OB = some (.lst (b.map V.int)) ∧ b.length = j ∧ Row01 b)
      ⟨D4.same (same_upd nOB), fr4.trans (Fr.new nOB), same_upd nOB _ _ hA, [], upd_same, rfl, fun x hx => by cases hx⟩ (fun i H' _ hP => SqL.of hP.2.2.1) ?_ ?_
    · rintro j x H5 hx ⟨D5, fr5, hA5, b, hB, lb, b01⟩
      obtain ⟨u', hu', rfl⟩ := vints_at hx
      have := a01 u' (List.mem_of_getElem? hu')
      have hjl := (List.getElem?_eq_some_iff.mp hu').1
      refine ⟨rfl, .int u', rfl, _, _, rfl, rfl, _, hB, by rw [List.length_map]; omega, D5.upd oB.1 oB.2, Fr.upd fr5 nOB0, by rw [upd_ne AB]; exact hA5, b ++ [1 - u'], by rw [upd_same, List.map_append]; rfl, by rw [List.length_append, lb]; rfl, row01_snoc b01 (by omega)⟩
    rintro H5 ⟨D5, fr5, hA5, b, hB, lb, b01⟩
    rw [List.length_map] at lb
    refine ⟨fun σ H' => ∃ (OB : Addr) (b : List Int), σ = [some (.ref d), some (.int m), some (.int wy), some (.ref OA), some (.ref OB), none, none] ∧ DeckE H' d l (n + 13) ∧ Fr d l H H' ∧ H' OA = some (.lst (a.map V.int)) ∧ H' OB = some (.lst (b.map V.int)) ∧ b.length = m ∧ Row01 b, ?_, ?_⟩
    · refine ⟨.int wy, rfl, _, _, rfl, rfl, _, rfl, ite2 (fun _ => ?_) (fun _ => ?_)⟩
      · refine ⟨.int m, rfl, m, rfl, by omega, by omega, fun OC nOC => ?_⟩
        have oC := D5.off nOC
        have nOC0 := none_of_frE fr5 D5 nOC
        have AC : OA ≠ OC := ne_of_none hA5 nOC
        refine lc_range (lo := 0) (n := (m : Int).toNat) (fun j H' => DeckE H' d l (n + 7 + j) ∧ Fr d l H H' ∧ H' OA = some (.lst (a.map V.int)) ∧ ∃ b : List Int, H' OC = some (.lst (b.map V.int)) ∧ b.length = j ∧ Row01 b)
          ⟨(D5.same (same_upd nOC)).mono (by omega), fr5.trans (Fr.new nOC), same_upd nOC _ _ hA5, [], upd_same, rfl, fun x hx => by cases hx⟩ ?_ ?_
        · rintro j H7 hj ⟨D7, fr7, hA7, b, hC, lb', b01'⟩
          refine ⟨rfl, .ref d, rfl, d, l, 2, _, rfl, D7, by omega, by decide, by decide, fun H8 w' D8 fr8 w0 w1 => ?_⟩
          refine ⟨_, fr8 _ _ oC.1 oC.2 hC, by rw [List.length_map]; omega, (D8.upd oC.1 oC.2).mono (by push_cast; omega), Fr.upd (fr7.trans fr8) nOC0, by rw [upd_ne AC]; exact fr8 _ _ oA.1 oA.2 hA7, b ++ [w'], by rw [upd_same, List.map_append]; rfl, by rw [List.length_append, lb']; rfl, row01_snoc b01' (by omega)⟩
        · rintro H7 ⟨D7, fr7, hA7, b, hC, lb', b01'⟩
          rw [em] at lb'
          exact ⟨OC, b, rfl, D7.mono (by omega), fr7, hA7, hC, lb', b01'⟩
      · exact ⟨OB, b, rfl, D5.mono (by omega), fr5, hA5, hB, by omega, b01⟩
    · rintro σ H6 ⟨OB, b, rfl, D6, fr6, hA6, hB6, lb, b01⟩
      refine ⟨.ref OA, rfl, OA, _, rfl, .inl ⟨SqL.of hA6, fun ta nta => ?_⟩⟩
      have s3 := same_upd (o := HO.tup (a.map V.int)) nta
      refine ⟨.ref OB, rfl, OB, _, rfl, .inl ⟨SqL.of (s3 _ _ hB6), fun tb ntb => ?_⟩⟩
      have s4 := same_upd (o := HO.tup (b.map V.int)) ntb
      refine ⟨sl2, fun cr ncr => ?_⟩
      have s5 := same_upd (o := HO.tup [V.ref ta, V.ref tb]) ncr
      have sA := (s3.trans s4).trans s5
      exact q cr _ a b (D6.same sA) (fr6.trans (Fr.of sA)) (.tup upd_same (.cons (.tup ((s4.trans s5) _ _ upd_same) (TkAll.ints _)) (.cons (.tup (s5 _ _ upd_same) (TkAll.ints _)) .nil))) la lb a01 b01
def sp_of (K : PySem.W.Frag) : Sp := fun vs H Q _ => ∃ (ra ia : Addr) (ws : List Int) (ins : List Nat), vs = [.ref ra, .ref ia] ∧ H ra = some (.lst (ws.map V.int)) ∧ H ia = some (.tup (natV ins)) ∧ (∀ i ∈ ins, i < ws.length) ∧ ins.length ≤ 3 ∧ ∀ r H', Same H H' → H' r = some (.tup ((pickI ws ins).map V.int)) → Q (.ref r) H'
theorem ok_of (T : Tx K mg) : FnOk P w K mg base CX0 1 T.f_of T.fd_of ["_law_worths_here", "_law_ins_here"] (sp_of K) := by
  refine T.F_of.ok sc_of (fun vs H Q E h => ?_) (fun cdv A outer s H vs Q E hr h => ?_)
  · obtain ⟨ra, ia, ws, ins, rfl, _⟩ := h
    rfl
  · obtain ⟨ra, ia, ws, ins, rfl, hra, hia, lt, l3, q⟩ := h
    refine ⟨_, (pss_one (ps_ret (pe_callTy call_tuple_of (by rfl) T.m_tuple (by decide +kernel) (pa_cons (pe_lc (own := [("_law_wire", 2)]) (by rfl) sc_of.nd (pi_tup (pv 1)) (blkOk_by (own := [("_law_wire", 2)]) (N := ["_law_worths_here", "_law_ins_here", "_law_wire"]) (sc := defScope s_of) (by decide +kernel)) (fun _ _ _ _ _ => (pg_name (i := 2) sc_of.nd rfl (by first | exact .inl rfl | exact .inr rfl))) (fun _ _ _ _ _ => pts_nil) (fun _ _ _ _ _ => (pe_ix (show IxR _ (rIxL K) from ix_list) (pv 0) (pv 2) (fun _ _ => rfl)))) pa_nil)))), ?_⟩
    have sl : (16777216 : Nat) = sizeLine := by decide
    refine ⟨.ref ia, rfl, ia, rfl, ⟨_, SqT.of hia⟩, fun M nM => ?_⟩
    refine lc_tup (K := K) (a := ia) (xs := natV ins) (fun j H' => Same H (hd1 M H') ∧ H' M = some (.lst ((pickI ws (ins.take j)).map V.int))) ⟨hd1_of (same_upd nM) nM, upd_same⟩ (fun j H' _ hP => SqT.of (hd1_le _ _ (hP.1 _ _ hia))) ?_ ?_
    · rintro j x H3 hx ⟨s3, hM⟩
      obtain ⟨n, hn, rfl⟩ := natV_inv hx
      have hl := lt n (List.mem_of_getElem? hn)
      have hil := (List.getElem?_eq_some_iff.mp hn).1
      have hw : (ws.map V.int)[n]? = some (.int (ws.getD n 0)) := by rw [List.getElem?_map, List.getD_eq_getElem?_getD, List.getElem?_eq_getElem hl]; rfl
      refine ⟨rfl, .ref ra, rfl, .int (Int.ofNat n), rfl, ra, _, (n : Int), _, rfl, rfl, SqL.of (hd1_le _ _ (s3 _ _ hra)), atI_nat hw, _, hM, by rw [List.length_map, pickI_len, List.length_take]; omega, s3.trans hd1_upd, ?_⟩
      rw [upd_same, List.take_add_one, hn]
      unfold pickI
      show some (HO.lst (_ ++ [_])) = some (HO.lst (((_ ++ [n]).map _).map V.int))
      rw [List.map_append, List.map_append]
      rfl
    · rintro H3 ⟨s3, hM⟩
      rw [natV_len, List.take_length] at hM
      refine ⟨M, _, rfl, .inl ⟨SqL.of hM, fun t nt => ?_⟩⟩
      exact q t _ (Same.trans (fun b o e => hd1_le _ _ (s3 _ _ e)) (same_upd nt)) upd_same
theorem pickI_nat (ns ins : List Nat) : (pickI (ns.map Int.ofNat) ins).map V.int = natV (pickN ns ins) := by
  unfold pickI pickN natV
  rw [List.map_map, List.map_map, List.map_map]
  refine List.map_congr_left fun i _ => ?_
  show V.int ((ns.map Int.ofNat).getD i 0) = V.int (Int.ofNat (ns.getD i 0))
  rw [List.getD_eq_getElem?_getD, List.getElem?_map, List.getD_eq_getElem?_getD]
  cases ns[i]? <;> rfl
theorem int_xr {x y : Int} : (if (!decide (V.int x = V.int y)) = true then (1 : Int) else 0) = Int.ofNat (xrN x y) := by
  unfold xrN
  by_cases e : x = y
  · rw [if_pos e, if_neg]
    · rfl
    · rw [e]; simp
  · rw [if_neg e, if_pos]
    · rfl
    · have : V.int x ≠ V.int y := fun z => e (by injection z)
      rw [decide_eq_false this]
      rfl

end
end Gk

set_option Elab.async false
set_option linter.all false
set_option maxRecDepth 100000
set_option maxHeartbeats 1000000
set_option pp.maxSteps 1500
set_option pp.deepTerms false
namespace Gk
open PySem PySem.Spec PyProof.Rows L2
section
variable {P : Program} {w : World} {K : PySem.W.Frag} {mg : Str → Option Value} {base : Heap}
/-! ### sizes of what is shown -/
def fineB (n m : Nat) (d : PyData) : Bool := d.showable && (d.leavesShort 200 && (decide (d.weight ≤ n) && decide (d.depth ≤ m)))
theorem fine_iff {n m : Nat} {d : PyData} : fineB n m d = true ↔ d.showable = true ∧ d.leavesShort 200 = true ∧ d.weight ≤ n ∧ d.depth ≤ m := by
  unfold fineB
  rw [Bool.and_eq_true, Bool.and_eq_true, Bool.and_eq_true, decide_eq_true_eq, decide_eq_true_eq]
theorem fine_mono {n m n' m' : Nat} {d : PyData} (h : fineB n m d = true) (a : n ≤ n') (b : m ≤ m') : fineB n' m' d = true := by
  obtain ⟨h1, h2, h3, h4⟩ := fine_iff.mp h
  exact fine_iff.mpr ⟨h1, h2, Nat.le_trans h3 a, Nat.le_trans h4 b⟩
theorem fine_fits {n m : Nat} {d : PyData} (h : fineB n m d = true) (hn : n ≤ 50000) : d.shown.length ≤ sizeLine := by
  obtain ⟨_, h2, h3, _⟩ := fine_iff.mp h
  have := PyData.shown_le 200 (by decide) d h2
  have e : sizeLine = 16777216 := by decide
  rw [e]
  omega
theorem fine_all {n m : Nat} : ∀ {ds : List PyData}, (∀ d ∈ ds, fineB n m d = true) → PyData.showableAll ds = true ∧ PyData.leavesShortAll 200 ds = true ∧ PyData.weightAll ds ≤ ds.length * (n + 1) ∧ PyData.depthAll ds ≤ m
  | [], _ => ⟨rfl, rfl, Nat.zero_le _, Nat.zero_le _⟩
  | d :: r, h => by
    obtain ⟨a1, a2, a3, a4⟩ := fine_iff.mp (h d (List.mem_cons_self ..))
    obtain ⟨b1, b2, b3, b4⟩ := fine_all (ds := r) fun x hx => h x (List.mem_cons_of_mem _ hx)
    refine ⟨?_, ?_, ?_, ?_⟩
    · unfold PyData.showableAll
      rw [a1, b1]
      rfl
    · unfold PyData.leavesShortAll
      rw [a2, b2]
      rfl
    · unfold PyData.weightAll
      rw [List.length_cons, Nat.succ_mul]
      omega
    · unfold PyData.depthAll
      omega
theorem fine_tup {n m k : Nat} {ds : List PyData} (h : ∀ d ∈ ds, fineB n m d = true) (hk : ds.length ≤ k) : fineB (k * (n + 1)) (m + 1) (.tuple ds) = true := by
  obtain ⟨b1, b2, b3, b4⟩ := fine_all h
  refine fine_iff.mpr ⟨b1, b2, ?_, ?_⟩
  · show PyData.weightAll ds ≤ _
    exact Nat.le_trans b3 (Nat.mul_le_mul_right _ hk)
  · show PyData.depthAll ds + 1 ≤ _
    omega
theorem fine_lst {n m k : Nat} {ds : List PyData} (h : ∀ d ∈ ds, fineB n m d = true) (hk : ds.length ≤ k) : fineB (k * (n + 1)) (m + 1) (.list ds) = true := by
  obtain ⟨b1, b2, b3, b4⟩ := fine_all h
  refine fine_iff.mpr ⟨b1, b2, ?_, ?_⟩
  · show PyData.weightAll ds ≤ _
    exact Nat.le_trans b3 (Nat.mul_le_mul_right _ hk)
  · show PyData.depthAll ds + 1 ≤ _
    omega

mutual
theorem Sh.gr {H H' : Hp} (s : Gr H H') : ∀ {v : V} {d : PyData}, Sh H v d → Sh H' v d
  | _, _, .non => .non
  | _, _, .bl b => .bl b
  | _, _, .int i => .int i
  | _, _, .str x => .str x
  | _, _, .lst h n t => .lst (s.lst h) n (t.gr s)
  | _, _, .tup h t => .tup (s.tup h) (t.gr s)
  | _, _, .dic h t => .dic (s.1 _ _ (fun _ z => by cases z) h) (t.gr s)
theorem ShAll.gr {H H' : Hp} (s : Gr H H') : ∀ {vs : List V} {ds : List PyData}, ShAll H vs ds → ShAll H' vs ds
  | _, _, .nil => .nil
  | _, _, .cons h t => .cons (h.gr s) (t.gr s)
end
theorem ShAll.get {H : Hp} : ∀ {xs : List V} {ds : List PyData} {j : Nat} {x : V}, ShAll H xs ds → xs[j]? = some x → ∃ d, ds[j]? = some d ∧ Sh H x d
  | _, _, _, _, .nil, h => by simp at h
  | _, _, 0, _, .cons (d := d) a _, h => by
    cases (Option.some.inj h)
    exact ⟨d, rfl, a⟩
  | _, _, j + 1, _, .cons _ t, h => t.get h
theorem ShAll.append {H : Hp} : ∀ {xs ys : List V} {ds es : List PyData}, ShAll H xs ds → ShAll H ys es → ShAll H (xs ++ ys) (ds ++ es)
  | _, _, _, _, .nil, t => t
  | _, _, _, _, .cons a r, t => .cons a (r.append t)
theorem ShAll.take {H : Hp} : ∀ {xs : List V} {ds : List PyData} (n : Nat), ShAll H xs ds → ShAll H (xs.take n) (ds.take n)
  | _, _, 0, _ => by rw [List.take_zero, List.take_zero]; exact .nil
  | _, _, n + 1, .nil => .nil
  | _, _, n + 1, .cons a r => .cons a (r.take n)
theorem ShAll.drop {H : Hp} : ∀ {xs : List V} {ds : List PyData} (n : Nat), ShAll H xs ds → ShAll H (xs.drop n) (ds.drop n)
  | _, _, 0, h => h
  | _, _, n + 1, .nil => .nil
  | _, _, n + 1, .cons _ r => r.drop n
theorem notT {b : Bool} (h : (!b) = true) : ¬ b = true := by cases b <;> simp_all
theorem notF {b : Bool} (h : ¬ (!b) = true) : b = true := by cases b <;> simp_all

/-! ### kinds of data -/
def isIntD : PyData → Bool
  | .int _ => true
  | .bool _ => true
  | _ => false
def isBoolD : PyData → Bool
  | .bool _ => true
  | _ => false
def isTupD : PyData → Bool
  | .tuple _ => true
  | _ => false
def isStrD : PyData → Bool
  | .str _ => true
  | _ => false
theorem kitInt : ∀ d : PyData, kitB (tyD d) "int" = some (isIntD d)
  | .none => (by decide +kernel : kitB "NoneType" "int" = some false)
  | .bool _ => (by decide +kernel : kitB "bool" "int" = some true)
  | .int _ => (by decide +kernel : kitB "int" "int" = some true)
  | .str _ => (by decide +kernel : kitB "str" "int" = some false)
  | .list _ => (by decide +kernel : kitB "list" "int" = some false)
  | .tuple _ => (by decide +kernel : kitB "tuple" "int" = some false)
  | .dict _ => (by decide +kernel : kitB "dict" "int" = some false)
theorem kitBool : ∀ d : PyData, kitB (tyD d) "bool" = some (isBoolD d)
  | .none => (by decide +kernel : kitB "NoneType" "bool" = some false)
  | .bool _ => (by decide +kernel : kitB "bool" "bool" = some true)
  | .int _ => (by decide +kernel : kitB "int" "bool" = some false)
  | .str _ => (by decide +kernel : kitB "str" "bool" = some false)
  | .list _ => (by decide +kernel : kitB "list" "bool" = some false)
  | .tuple _ => (by decide +kernel : kitB "tuple" "bool" = some false)
  | .dict _ => (by decide +kernel : kitB "dict" "bool" = some false)
theorem kitTup : ∀ d : PyData, kitB (tyD d) "tuple" = some (isTupD d)
  | .none => (by decide +kernel : kitB "NoneType" "tuple" = some false)
  | .bool _ => (by decide +kernel : kitB "bool" "tuple" = some false)
  | .int _ => (by decide +kernel : kitB "int" "tuple" = some false)
  | .str _ => (by decide +kernel : kitB "str" "tuple" = some false)
  | .list _ => (by decide +kernel : kitB "list" "tuple" = some false)
  | .tuple _ => (by decide +kernel : kitB "tuple" "tuple" = some true)
  | .dict _ => (by decide +kernel : kitB "dict" "tuple" = some false)
theorem kitStr : ∀ d : PyData, kitB (tyD d) "str" = some (isStrD d)
  | .none => (by decide +kernel : kitB "NoneType" "str" = some false)
  | .bool _ => (by decide +kernel : kitB "bool" "str" = some false)
  | .int _ => (by decide +kernel : kitB "int" "str" = some false)
  | .str _ => (by decide +kernel : kitB "str" "str" = some true)
  | .list _ => (by decide +kernel : kitB "list" "str" = some false)
  | .tuple _ => (by decide +kernel : kitB "tuple" "str" = some false)
  | .dict _ => (by decide +kernel : kitB "dict" "str" = some false)
def wholeD : PyData → Bool
  | .int _ => true
  | _ => false
def worthD : PyData → Bool
  | .int i => decide (0 ≤ i) && decide (i ≤ 1)
  | _ => false
theorem whole_of : ∀ {d : PyData}, isIntD d = true → wholeD d = !isBoolD d
  | .int _, _ => rfl
  | .bool _, _ => rfl
  | .none, h => by cases h
  | .str _, h => by cases h
  | .list _, h => by cases h
  | .tuple _, h => by cases h
  | .dict _, h => by cases h
theorem whole_not : ∀ {d : PyData}, ¬ isIntD d = true → wholeD d = false
  | .int _, h => absurd rfl h
  | .bool _, h => absurd rfl h
  | .none, _ => rfl
  | .str _, _ => rfl
  | .list _, _ => rfl
  | .tuple _, _ => rfl
  | .dict _, _ => rfl
theorem whole_int : ∀ {d : PyData}, wholeD d = true → ∃ i, d = .int i
  | .int i, _ => ⟨i, rfl⟩
  | .bool _, h => by cases h
  | .none, h => by cases h
  | .str _, h => by cases h
  | .list _, h => by cases h
  | .tuple _, h => by cases h
  | .dict _, h => by cases h
theorem worth_not : ∀ {d : PyData}, ¬ wholeD d = true → worthD d = false
  | .int _, h => absurd rfl h
  | .bool _, _ => rfl
  | .none, _ => rfl
  | .str _, _ => rfl
  | .list _, _ => rfl
  | .tuple _, _ => rfl
  | .dict _, _ => rfl
theorem tup_of : ∀ {d : PyData}, isTupD d = true → ∃ ds, d = .tuple ds
  | .tuple ds, _ => ⟨ds, rfl⟩
  | .bool _, h => by cases h
  | .none, h => by cases h
  | .str _, h => by cases h
  | .list _, h => by cases h
  | .int _, h => by cases h
  | .dict _, h => by cases h
def sp_is_whole (K : PySem.W.Frag) : Sp := fun vs H Q _ => ∃ (v : V) (d : PyData), vs = [v] ∧ Sh H v d ∧ Q (.bl (wholeD d)) H
theorem ok_is_whole (T : Tx K mg) : FnOk P w K mg base CX0 1 T.f_is_whole T.fd_is_whole ["thing"] (sp_is_whole K) := by
  refine T.F_is_whole.ok sc_is_whole (fun vs H Q E h => ?_) (fun cdv A outer s H vs Q E hr h => ?_)
  · obtain ⟨v, d, rfl, _⟩ := h
    rfl
  · obtain ⟨v, d, rfl, sh, q⟩ := h
    refine ⟨_, (pss_one (ps_ret (pe_and (pe_callB call_isi (by rfl) T.m_isinstance (by decide +kernel) (pa_cons (pv 0) (pa_cons (pe_bltn (v := .ty "int") (u := .type "int") (by rfl) T.m_int (by decide +kernel) rfl) pa_nil))) (pe_one (pe_not (pe_callB call_isi (by rfl) T.m_isinstance (by decide +kernel) (pa_cons (pv 0) (pa_cons (pe_bltn (v := .ty "bool") (u := .type "bool") (by rfl) T.m_bool (by decide +kernel) rfl) pa_nil)))))))), ?_⟩
    refine ⟨v, rfl, _, _, _, _, _, rfl, .ty _, sh.ty, kit_ty (kitInt d), _, rfl, ite2 (fun e => ?_) (fun e => ?_)⟩
    · refine ⟨v, rfl, _, _, _, _, _, rfl, .ty _, sh.ty, kit_ty (kitBool d), _, rfl, ?_⟩
      rw [← whole_of e]
      exact q
    · rw [whole_not e] at q
      exact q

/-! ### a generator expression over a list -/
theorem gx_list {α : Type} {K : PySem.W.Frag} {a : Addr} {xs : List V} {g : TG} {tt : TT} {te : TE} {vs : List Nat} {σ0 : L2.St} {End : α → Hp → Prop} {Yd : α → V → Hp → (α → Hp → Prop) → Prop} {a0 : α} {H0 : Hp} (Pv : Nat → α → Hp → Prop) (h0 : Pv 0 a0 H0)
    (hl : ∀ i c H, i ≤ xs.length → Pv i c H → SqL K H a xs)
    (hs : ∀ i x c H, xs[i]? = some x → Pv i c H → g x σ0 H fun σ2 H2 => wipe σ2 vs = σ0 ∧ tt σ2 H2 fun b H3 => if b = true then te σ2 H3 fun y H4 => Yd c y H4 (Pv (i + 1)) else Pv (i + 1) c H3) (hd : ∀ c H, Pv xs.length c H → End c H) :
    ∃ W : Nat → Nat → α → Hp → Prop, (∃ m, W 0 m a0 H0) ∧ tGx (Itl K a) g tt te σ0 vs End Yd W := by
  refine ⟨fun i m c H => m = xs.length - i ∧ i ≤ xs.length ∧ Pv i c H, ⟨xs.length, rfl, Nat.zero_le _, h0⟩, ?_⟩
  rintro i m c H ⟨rfl, hi, p⟩
  by_cases hlt : i < xs.length
  · have hx : xs[i]? = some xs[i] := List.getElem?_eq_getElem hlt
    refine .inr ⟨⟨xs, xs[i], hl i c H hi p, hx⟩, Pv (i + 1), fun c' H' p' => ⟨xs.length - (i + 1), by omega, rfl, hlt, p'⟩, fun x H' y => ?_⟩
    obtain ⟨rfl, y⟩ := y
    exact hs i x c _ (y xs (hl i c _ hi p)) p
  · have e : i = xs.length := by omega
    subst e
    exact .inl ⟨⟨xs, hl _ c H hi p, Nat.le_refl _⟩, hd c H p⟩

/-! ### ledgers that hold: of anything -/
theorem pt_ph (T : Tx K mg) : T.P_part_holds ∈ T.pt := by unfold Tx.pt; simp
def stepOk (bs : List Bool) (fs : List Int) (ns : List Nat) (xs : List Int) (c : List Nat) (x : Int) (p : Nat) : Bool := decide (xs.getD (idx ns (inc c p)) 0 + xr (Wc bs fs c) (Wc bs fs (inc c p)) ≤ x)
def placeOk (bs : List Bool) (fs : List Int) (ns : List Nat) (xs : List Int) (i : Nat) : Bool := (nexts ns ((every ns).getD i [])).all (stepOk bs fs ns xs ((every ns).getD i []) (xs.getD i 0))
def holdsP (bs : List Bool) (fs : List Int) (ns : List Nat) (xs : List Int) : Bool := decide (xs.length = cnt ns) && (xs.all (fun x => decide (0 ≤ x)) && (List.range (cnt ns)).all (placeOk bs fs ns xs))
theorem allStop {α : Type} {f : α → Bool} {l : List α} {j : Nat} {x : α} (h : l[j]? = some x) (n : f x = false) : l.all f = false := by
  cases e : l.all f with
  | false => rfl
  | true => rw [List.all_eq_true.mp e x (List.mem_of_getElem? h)] at n; cases n
theorem allTake {α : Type} {f : α → Bool} {l : List α} {j : Nat} {x : α} (h : l[j]? = some x) (p : (l.take j).all f = true) (hx : f x = true) : (l.take (j + 1)).all f = true := by
  rw [List.take_add_one, h, List.all_append, p, Bool.true_and]
  show (f x && true) = true
  rw [hx]
  rfl
theorem vInj {r : List Int} {i : Nat} {v : V} (h : (r.map V.int)[i]? = some v) : ∃ b, r[i]? = some b ∧ v = .int b := by
  rw [List.getElem?_map] at h
  cases hz : r[i]? with
  | none => rw [hz] at h; cases h
  | some b => rw [hz] at h; exact ⟨b, rfl, (Option.some.inj h).symm⟩
theorem rangeAll {f : Nat → Bool} {n : Nat} (h : ∀ k, k < n → f k = true) : (List.range n).all f = true := List.all_eq_true.mpr fun k hk => h k (List.mem_range.mp hk)
theorem rangeStop {f : Nat → Bool} {n k : Nat} (h : k < n) (e : f k = false) : (List.range n).all f = false := allStop (j := k) (by rw [List.getElem?_range h]) e
/-- the ints of data that are ints -/
def intsOf : List PyData → Option (List Int)
  | [] => some []
  | .int i :: r => (intsOf r).map (i :: ·)
  | _ :: _ => none
theorem intsOf_map : ∀ xs : List Int, intsOf (xs.map PyData.int) = some xs
  | [] => rfl
  | x :: r => by
    show (intsOf (r.map PyData.int)).map (x :: ·) = _
    rw [intsOf_map r]
    rfl
theorem intsOf_inv : ∀ {ds : List PyData} {xs : List Int}, intsOf ds = some xs → ds = xs.map PyData.int
  | [], xs, h => by cases h; rfl
  | .int i :: r, xs, h => by
    have h : (intsOf r).map (i :: ·) = some xs := h
    obtain ⟨ys, hy, rfl⟩ := Option.map_eq_some_iff.mp h
    rw [intsOf_inv hy]
    rfl
  | .none :: _, _, h => by cases h
  | .bool _ :: _, _, h => by cases h
  | .str _ :: _, _, h => by cases h
  | .list _ :: _, _, h => by cases h
  | .tuple _ :: _, _, h => by cases h
  | .dict _ :: _, _, h => by cases h
def natD : PyData → Bool
  | .int i => decide (0 ≤ i)
  | _ => false
theorem nat_whole {d : PyData} (h : natD d = true) : ∃ i, d = .int i ∧ 0 ≤ i := by
  cases d with
  | int i => exact ⟨i, rfl, of_decide_eq_true h⟩
  | _ => cases h
theorem nats_all : ∀ {ds : List PyData}, ds.all natD = true → ∃ xs : List Int, ds = xs.map PyData.int ∧ xs.all (fun x => decide (0 ≤ x)) = true
  | [], _ => ⟨[], rfl, rfl⟩
  | d :: r, h => by
    have h : (natD d && r.all natD) = true := h
    rw [Bool.and_eq_true] at h
    obtain ⟨i, rfl, hi⟩ := nat_whole h.1
    obtain ⟨xs, rfl, hx⟩ := nats_all h.2
    refine ⟨i :: xs, rfl, ?_⟩
    show (decide (0 ≤ i) && _) = true
    rw [decide_eq_true hi, hx]
    rfl
def partM (bs : List Bool) (fs : List Int) (ns : List Nat) : PyData → Bool
  | .tuple ds => (match intsOf ds with
    | some xs => holdsP bs fs ns xs
    | none => false)
  | _ => false
theorem part_not {bs : List Bool} {fs : List Int} {ns : List Nat} {d : PyData} (h : isTupD d = false) : partM bs fs ns d = false := by
  cases d <;> first | rfl | cases h
theorem part_ints {bs : List Bool} {fs : List Int} {ns : List Nat} (xs : List Int) : partM bs fs ns (.tuple (xs.map PyData.int)) = holdsP bs fs ns xs := by
  show (match intsOf (xs.map PyData.int) with
    | some xs => holdsP bs fs ns xs
    | none => false) = _
  rw [intsOf_map]
theorem part_len {bs : List Bool} {fs : List Int} {ns : List Nat} {ds : List PyData} (h : ¬ ds.length = cnt ns) : partM bs fs ns (.tuple ds) = false := by
  cases e : intsOf ds with
  | none =>
    show (match intsOf ds with
    | some xs => holdsP bs fs ns xs
    | none => false) = _
    rw [e]
  | some xs =>
    have k := intsOf_inv e
    subst k
    rw [part_ints]
    unfold holdsP
    rw [decide_eq_false (by rw [List.length_map] at h; exact h)]
    rfl
theorem part_nat {bs : List Bool} {fs : List Int} {ns : List Nat} {ds : List PyData} {j : Nat} {d : PyData} (h : ds[j]? = some d) (n : natD d = false) : partM bs fs ns (.tuple ds) = false := by
  cases e : intsOf ds with
  | none =>
    show (match intsOf ds with
    | some xs => holdsP bs fs ns xs
    | none => false) = _
    rw [e]
  | some xs =>
    have k := intsOf_inv e
    subst k
    rw [List.getElem?_map] at h
    obtain ⟨x, hx, rfl⟩ := Option.map_eq_some_iff.mp h
    rw [part_ints]
    unfold holdsP
    rw [allStop (f := fun x => decide ((0 : Int) ≤ x)) hx n, Bool.false_and, Bool.and_false]
theorem ShAll.intV {H : Hp} : ∀ {vs : List V} {xs : List Int}, ShAll H vs (xs.map PyData.int) → vs = xs.map V.int
  | _, [], .nil => rfl
  | _, x :: r, .cons h t => by
    cases h
    rw [ShAll.intV t]
    rfl
theorem Sh.tup_inv {H : Hp} {v : V} {ds : List PyData} (h : Sh H v (.tuple ds)) : ∃ p vs, v = .ref p ∧ H p = some (.tup vs) ∧ ShAll H vs ds := by
  cases h with
  | tup hp t => exact ⟨_, _, rfl, hp, t⟩
def sp_part_holds (K : PySem.W.Frag) (Ps : List Addr) : Sp := fun vs H Q _ => ∃ (bs : List Bool) (fa na : Addr) (v : V) (fs : List Int) (ns : List Nat) (d : PyData), vs = [.str (tabOf bs), .ref fa, .ref na, v] ∧ H fa = some (.tup (fs.map V.int)) ∧ H na = some (.tup (natV ns)) ∧ Sh H v d ∧ Row01 fs ∧ ns.length ≤ 3 ∧ (∀ n ∈ ns, n ≤ 10 ^ 40) ∧ (∀ ds, d = .tuple ds → ds.length ≤ 4000) ∧ ns.length = fs.length ∧ bs.length = 2 ^ fs.length ∧ Tabs H Ps ∧ ∀ H', GrT Ps H H' → Q (.bl (partM bs fs ns d)) H'
theorem ok_part_holds (T : Tx K mg) (B : Tb base T) : FnOk P w K mg base CX0 4 T.f_part_holds T.fd_part_holds ["table", "firsts", "numbers", "thing"] (sp_part_holds K T.pt) := by
  refine okC T.F_part_holds sc_part_holds (fun vs H Q E h => ?_) (fun A outer s H vs Q E hr h => ?_)
  · obtain ⟨bs, fa, na, v, fs, ns, d, rfl, _⟩ := h
    rfl
  · obtain ⟨bs, fa, na, v, fs, ns, d, rfl, hfa, hna, sh, f01, l3, big, short, lc, lb, tabs, q⟩ := h
    refine ⟨_, (pss_cons (ps_if (pw_or (pt_not (pt_val (pe_callB call_isi (by rfl) T.m_isinstance (by decide +kernel) (pa_cons (pv 3) (pa_cons (pe_bltn (v := .ty "tuple") (u := .type "tuple") (by rfl) T.m_tuple (by decide +kernel) rfl) pa_nil))))) (pw_or1 (pt_cmpR op_ne (pe_callB call_len_seq (by rfl) T.m_len PySem.boot_len (pa_cons (pv 3) pa_nil)) (pe_call (ok_many_counts T) (hr.mono (by decide)) (by rfl) T.g_many_counts T.F_many_counts.kp T.b_many_counts .nil pass0 (pa_cons (pv 2) pa_nil)) (nomark _)))).pt (pss_one (ps_ret pe_bl)) pss_nil) (pss_cons (ps_if (pt_not (pt_val (pe_allX (own := [("number", 4)]) (k := 1) (hr.mono (by decide)) rfl sc_part_holds.nd (by rfl) T.m_all (by decide +kernel) B.TB_part_holds T.cd_part_holds rfl rfl (by decide +kernel) (blkOk_by (own := [("number", 4)]) (N := ["table", "firsts", "numbers", "thing", "number", "steps", "place", "behind", "turned"]) (sc := defScope s_part_holds) (by decide +kernel)) (pi_tup (pv 3)) (fun _ _ _ _ _ _ _ hr gd => (pg_name (i := 4) sc_part_holds.nd rfl (by first | exact .inl rfl | exact .inr rfl))) (fun _ _ _ _ _ _ _ hr gd => pts_nil) (fun _ _ _ _ _ _ _ hr gd => (pe_and (pe_call (ok_is_whole T) (hr.mono (by decide)) (by rfl) T.g_is_whole T.F_is_whole.kp T.b_is_whole .nil pass0 (pa_cons (pv 4) pa_nil)) (pe_one (pe_cmpR op_ge (pv 4) pe_int (nomark _))))) (fun _ => rfl)))) (pss_one (ps_ret pe_bl)) pss_nil) (pss_cons (ps_for PassesOwn.never rfl (ZpG.pi_zip2 (by rfl) T.m_zip (pa_cons (pv 3) (pa_cons (pe_call (ok_steps_from T) (hr.mono (by decide)) (by rfl) T.g_steps_from T.F_steps_from.kp T.b_steps_from .nil pass0 (pa_cons (pv 0) (pa_cons (pv 1) (pa_cons (pv 2) pa_nil)))) pa_nil))) (pg_tup rfl (pgs_cons (pg_name (i := 4) sc_part_holds.nd rfl (by first | exact .inl rfl | exact .inr rfl)) (pgs_cons (pg_name (i := 5) sc_part_holds.nd rfl (by first | exact .inl rfl | exact .inr rfl)) pgs_nil))) (pss_one (ps_if (pt_not (pt_val (pe_allX (own := [("place", 6), ("behind", 7), ("turned", 8)]) (k := 0) (hr.mono (by decide)) rfl sc_part_holds.nd (by rfl) T.m_all (by decide +kernel) B.TB_part_holds T.cd_part_holds rfl rfl (by decide +kernel) (blkOk_by (own := [("place", 6), ("behind", 7), ("turned", 8)]) (N := ["table", "firsts", "numbers", "thing", "number", "steps", "place", "behind", "turned"]) (sc := defScope s_part_holds) (by decide +kernel)) (pi_list (pv 5)) (fun _ _ _ _ _ _ _ hr gd => (show PG _ _ (gTup K 3 _) from pg_tup rfl (pgs_cons (pg_name (i := 6) sc_part_holds.nd rfl (by first | exact .inl rfl | exact .inr rfl)) (pgs_cons (pg_name (i := 7) sc_part_holds.nd rfl (by first | exact .inl rfl | exact .inr rfl)) (pgs_cons (pg_name (i := 8) sc_part_holds.nd rfl (by first | exact .inl rfl | exact .inr rfl)) pgs_nil))))) (fun _ _ _ _ _ _ _ hr gd => pts_nil) (fun _ _ _ _ _ _ _ hr gd => (pe_cmpR op_ge (pv 4) (pe_op op_add (pe_ix (show IxR _ (rIxT K) from ix_tup) (pv 3) (pv 7) (fun _ _ => rfl)) (pv 8)) (nomark _))) (fun _ => rfl)))) (pss_one (ps_ret pe_bl)) pss_nil))) (pss_one (ps_ret pe_bl))))), ?_⟩
    refine ⟨v, rfl, _, _, _, _, _, rfl, .ty _, sh.ty, kit_ty (kitTup d), _, rfl, ?_⟩
    cases ht : isTupD d with
    | false =>
      refine iteT ?_
      have z := q H GrT.refl
      rw [part_not ht] at z
      exact z
    | true =>
    obtain ⟨ds, rfl⟩ := tup_of ht
    obtain ⟨ta, vs, rfl, hta, tvs⟩ := sh.tup_inv
    refine iteF ?_
    have lv : vs.length = ds.length := tvs.length
    refine ⟨.ref ta, rfl, ta, _, rfl, .inr (SqT.of hta), .ref na, rfl, na, ns, rfl, hna, l3, big, rfl, _, rfl, ?_⟩
    rw [lv]
    refine ite2 (fun e => ?_) (fun e => ?_)
    · have ne : ¬ ds.length = cnt ns := fun z => by
        rw [z] at e
        simp at e
      have z := q H GrT.refl
      rw [part_len ne] at z
      exact z
    have el : ds.length = cnt ns := by
      have : V.int (ds.length : Int) = V.int (cnt ns : Nat) := by simpa using e
      have := V.int.inj this
      omega
    have few : Few ns := few_of l3 (by rw [← el]; exact short ds rfl)
    refine ⟨.ref ta, rfl, ta, rfl, ⟨_, SqT.of hta⟩, tabs _ (pt_ph T), fun H2 tb2 => ?_⟩
    have g2 := GrT.tab (pt_ph T) tb2
    refine gx_tup (K := K) (a := ta) (xs := vs) (fun j _ H' => H' = H2 ∧ (ds.take j).all natD = true) ⟨rfl, rfl⟩ (fun j _ H' _ e => by rw [e.1]; exact SqT.of (g2.tup tabs hta)) ?_ ?_
    · rintro j x _ H' hx ⟨rfl, ih⟩
      obtain ⟨b, hb, sb⟩ := tvs.get hx
      have sb' : Sh H' x b := sb.gr (g2.gr tabs)
      refine ⟨rfl, x, rfl, x, b, rfl, sb', _, rfl, ite2 (fun e => ?_) (fun e => ?_)⟩
      · obtain ⟨i, rfl⟩ := whole_int e
        have ex : x = .int i := by cases sb; rfl
        subst ex
        refine ⟨.int i, rfl, _, _, rfl, rfl, _, rfl, ite2 (fun e => ?_) (fun e => ?_)⟩
        · exact ⟨rfl, allTake hb ih (by have e := of_decide_eq_true e; exact decide_eq_true e)⟩
        · refine ⟨false, rfl, iteT ?_⟩
          have z := q H' g2
          have nb : natD (.int i) = false := decide_eq_false fun y => e (decide_eq_true y)
          rw [part_nat hb nb] at z
          exact z
      · refine ⟨false, rfl, iteF ⟨false, rfl, iteT ?_⟩⟩
        have z := q H' g2
        have nb : natD b = false := by
          cases b with
          | int i => exact absurd rfl e
          | _ => rfl
        rw [part_nat hb nb] at z
        exact z
    rintro _ H' ⟨rfl, nn⟩
    rw [lv, List.take_length] at nn
    have nn0 := nn
    clear nn
    obtain ⟨xs, rfl, nn⟩ := nats_all nn0
    clear nn0
    have evs := tvs.intV
    subst evs
    have lx : (xs.map V.int).length = xs.length := List.length_map ..
    have el : xs.length = cnt ns := by rw [List.length_map] at el; exact el
    rw [part_ints] at q
    have c2197 := cnt_few few
    refine ⟨true, rfl, iteF ?_⟩
    have t2 := g2.tabs tabs
    have hta2 := g2.tup tabs hta
    refine ⟨.ref ta, rfl, .str (tabOf bs), rfl, .ref fa, rfl, .ref na, rfl, bs, fa, na, fs, ns, rfl, g2.tup tabs hfa, g2.tup tabs hna, f01, few, lc, lb, fun r H3 s3 t3 => ?_⟩
    obtain ⟨r', es, e, hr3, tes⟩ := t3.lst_inv
    cases e
    have esl : es.length = cnt ns := by rw [tes.length, List.length_map, every_len]
    have hta3 := s3 _ _ hta2
    have tb3 := t2.same s3
    refine ⟨.tu ta, .li r, _, _, rfl, SqT.of hta3, SqL.of hr3, ?_⟩
    refine ZpG.for_zip2 (K := K) (z1 := .tu ta) (z2 := .li r) (xs1 := xs.map V.int) (xs2 := es) (n := cnt ns) (by rw [lx, el]) esl
      (fun j σ H' => ∃ y4 y5, σ = [some (.str (tabOf bs)), some (.ref fa), some (.ref na), some (.ref ta), y4, y5, none, none, none] ∧ GrT T.pt H3 H' ∧ ∀ k, k < j → placeOk bs fs ns xs k = true)
      ⟨_, _, rfl, GrT.refl, fun k hk => absurd hk (Nat.not_lt_zero _)⟩ (fun j σ H' _ ⟨_, _, _, g, _⟩ => ⟨SqT.of (g.tup tb3 hta3), SqL.of (g.lst tb3 hr3)⟩) ?_ ?_
    · rintro j x1 x2 Tq σ H4 hx1 hx2 nT ⟨y4, y5, rfl, g4, ih⟩
      obtain ⟨x, hx, rfl⟩ := vInj hx1
      obtain ⟨c, hc, tc⟩ := tes.at hx2
      obtain ⟨le, ei⟩ := every_idx ns j c hc
      have hjl := (List.getElem?_eq_some_iff.mp hc).1
      rw [every_len] at hjl
      have sT := same_upd (o := HO.tup [V.int x, x2]) nT
      have g5 := g4.then sT
      have tb4 := g5.tabs tb3
      have ec : (every ns).getD j [] = c := by rw [List.getD_eq_getElem?_getD, hc]; rfl
      have ex : xs.getD j 0 = x := by rw [List.getD_eq_getElem?_getD, hx]; rfl
      obtain ⟨sa, ss, rfl, hsa, tss⟩ := (tc.gr (g5.gr tb3)).lst_inv
      refine ⟨Tq, _, rfl, SqT.of upd_same, rfl, _, _, rfl, _, _, rfl, rfl, ?_⟩
      refine ⟨.ref sa, rfl, sa, rfl, ⟨_, SqL.of hsa⟩, tb4 _ (pt_ph T), fun H5 tb5 => ?_⟩
      have g45 := GrT.tab (pt_ph T) tb5
      have g35 := g5.trans g45
      have hsa5 := g45.lst tb4 hsa
      have tss5 := tss.gr (g45.gr tb4)
      have hta5 := g35.tup tb3 hta3
      refine gx_list (K := K) (a := sa) (xs := ss) (fun i _ H' => H' = H5 ∧ ((nexts ns c).take i).all (stepOk bs fs ns xs c x) = true) ⟨rfl, rfl⟩ (fun i _ H' _ e => by rw [e.1]; exact SqL.of hsa5) ?_ ?_
      · rintro i v _ H' hv ⟨rfl, ih2⟩
        obtain ⟨p, hp, tp⟩ := tss5.at hv
        obtain ⟨ta', ys, rfl, hta', tys⟩ := tp.tup_inv
        have eys : ys = [V.int (Int.ofNat p), V.int (Int.ofNat (idx ns (inc c p))), V.int (xr (Wc bs fs c) (Wc bs fs (inc c p)))] := by
          cases tys with
          | cons h1 t1 =>
            cases t1 with
            | cons h2 t2 =>
              cases t2 with
              | cons h3 t3 =>
                cases t3
                rw [h1.int_inv, h2.int_inv, h3.int_inv]
        subst eys
        have hpm := List.mem_of_getElem? hp
        have eat := every_at ns (inc c p) (le.inc hpm)
        have hb := (List.getElem?_eq_some_iff.mp eat).1
        rw [every_len] at hb
        have hxg : (xs.map V.int)[idx ns (inc c p)]? = some (.int (xs.getD (idx ns (inc c p)) 0)) := by rw [List.getElem?_map, List.getD_eq_getElem?_getD, List.getElem?_eq_getElem (by omega)]; rfl
        refine ⟨ta', _, rfl, SqT.of hta', rfl, _, _, rfl, _, _, rfl, _, _, rfl, rfl, rfl, ?_⟩
        refine ⟨.int x, rfl, .ref ta, rfl, .int (Int.ofNat (idx ns (inc c p))), rfl, ta, _, ((idx ns (inc c p) : Nat) : Int), _, rfl, rfl, SqT.of hta5, atI_nat hxg, .int (xr (Wc bs fs c) (Wc bs fs (inc c p))), rfl, _, _, rfl, rfl, _, _, rfl, rfl, _, rfl, ite2 (fun e => ?_) (fun e => ?_)⟩
        · exact ⟨rfl, allTake hp ih2 (decide_eq_true (of_decide_eq_true e))⟩
        · refine ⟨false, rfl, iteT ?_⟩
          have z := q H' ((g2.then s3).trans g35)
          have nb : stepOk bs fs ns xs c x p = false := decide_eq_false fun y => e (decide_eq_true y)
          have n2 : placeOk bs fs ns xs j = false := by
            unfold placeOk
            rw [ec, ex]
            exact allStop hp nb
          unfold holdsP at z
          rw [rangeStop hjl n2, Bool.and_false, Bool.and_false] at z
          exact z
      · rintro _ H' ⟨rfl, ih2⟩
        have ssl : ss.length = (nexts ns c).length := by rw [tss.length, List.length_map]
        rw [ssl, List.take_length] at ih2
        refine ⟨true, rfl, iteF ⟨_, _, rfl, g35, fun k hk => ?_⟩⟩
        by_cases e : k < j
        · exact ih k e
        · have : k = j := by omega
          subst this
          unfold placeOk
          rw [ec, ex]
          exact ih2
    · rintro σ H4 ⟨y4, y5, rfl, g4, ih⟩
      have z := q H4 ((g2.then s3).trans g4)
      unfold holdsP at z
      rw [rangeAll ih, nn, decide_eq_true el] at z
      exact z
def hdD : PyData → Nat
  | .tuple (.int x :: _) => x.toNat
  | _ => 0
def numD (ns : List Nat) (dss : List PyData) (i : Nat) : List Nat := ns ++ (dss.take i).map hdD
def partOkD (fs : List Int) (gs : List Gt) (ns : List Nat) (dss : List PyData) (i : Nat) : Bool :=
  match gs[i]?, dss[i]? with
  | some g, some d => partM g.1 (pickI fs g.2) (pickN (numD ns dss i) g.2) d
  | _, _ => true
def ledD (fs : List Int) (gs : List Gt) (ns : List Nat) : PyData → Bool
  | .tuple dss => decide (dss.length = gs.length) && (List.range gs.length).all (partOkD fs gs ns dss)
  | _ => false
/-- what is asked of a thing: no part too long, no number too great -/
def LedP (d : PyData) : Prop := ∀ dss, d = .tuple dss → ∀ p ∈ dss, (∀ ds, p = .tuple ds → ds.length ≤ 4000) ∧ hdD p ≤ 10 ^ 39
theorem part_yes {bs : List Bool} {fs : List Int} {ns : List Nat} {d : PyData} (h : partM bs fs ns d = true) : ∃ xs : List Int, d = .tuple (xs.map PyData.int) ∧ holdsP bs fs ns xs = true := by
  cases d with
  | tuple ds =>
    cases e : intsOf ds with
    | none =>
      have h : (match intsOf ds with
        | some xs => holdsP bs fs ns xs
        | none => false) = true := h
      rw [e] at h
      cases h
    | some xs =>
      have k := intsOf_inv e
      subst k
      rw [part_ints] at h
      exact ⟨xs, rfl, h⟩
  | _ => cases h
theorem holds_parts {bs : List Bool} {fs : List Int} {ns : List Nat} {xs : List Int} (h : holdsP bs fs ns xs = true) : xs.length = cnt ns ∧ ∀ x ∈ xs, 0 ≤ x := by
  unfold holdsP at h
  rw [Bool.and_eq_true, Bool.and_eq_true] at h
  exact ⟨of_decide_eq_true h.1, fun x hx => of_decide_eq_true (List.all_eq_true.mp h.2.1 x hx)⟩
def sp_ledger_holds (K : PySem.W.Frag) (Ps : List Addr) : Sp := fun vs H Q _ => ∃ (nv cv tv : V) (m : Int) (gs : List Gt) (a b : List Int) (d : PyData), vs = [nv, cv, tv] ∧ Tk H nv (netD m gs) ∧ Tk H cv (chD a b) ∧ Sh H tv d ∧ LedP d ∧ a.length = b.length ∧ Row01 a ∧ Row01 b ∧ a.length ≤ 16 ∧ gs.length ≤ 1000 ∧ NetOk a.length gs ∧ Tabs H Ps ∧ ∀ H', GrT Ps H H' → Q (.bl (ledD (settledM gs a) gs (inN a b) d)) H'
theorem ok_ledger_holds (T : Tx K mg) (B : Tb base T) : FnOk P w K mg base CX0 5 T.f_ledger_holds T.fd_ledger_holds ["net", "change", "thing"] (sp_ledger_holds K T.pt) := by
  refine T.F_ledger_holds.ok sc_ledger_holds (fun vs H Q E h => ?_) (fun cdv A outer s H vs Q E hr h => ?_)
  · obtain ⟨nv, cv, tv, m, gs, a, b, d, rfl, _⟩ := h
    rfl
  · obtain ⟨nv, cv, tv, m, gs, a, b, d, rfl, tn, tc, sh, lp, el, a01, b01, a16, g1000, ok, tabs, q⟩ := h
    refine ⟨_, (pss_cons (ps_set (i := 3) sc_ledger_holds.nd rfl (by first | exact .inl rfl | exact .inr rfl) (pe_ix ix_tup (pv 0) pe_int (fun _ _ => rfl))) (pss_cons (ps_if (pw_or (pt_not (pt_val (pe_callB call_isi (by rfl) T.m_isinstance (by decide +kernel) (pa_cons (pv 2) (pa_cons (pe_bltn (v := .ty "tuple") (u := .type "tuple") (by rfl) T.m_tuple (by decide +kernel) rfl) pa_nil))))) (pw_or1 (pt_cmpR op_ne (pe_callB call_len_seq (by rfl) T.m_len PySem.boot_len (pa_cons (pv 2) pa_nil)) (pe_callB call_len_seq (by rfl) T.m_len PySem.boot_len (pa_cons (pv 3) pa_nil)) (nomark _)))).pt (pss_one (ps_ret pe_bl)) pss_nil) (pss_cons (ps_set (i := 4) sc_ledger_holds.nd rfl (by first | exact .inl rfl | exact .inr rfl) (pe_call (ok_settled T) (hr.mono (by decide)) (by rfl) T.g_settled T.F_settled.kp T.b_settled .nil pass0 (pa_cons (pv 0) (pa_cons (pe_ix ix_tup (pv 1) pe_int (fun _ _ => rfl)) pa_nil)))) (pss_cons (ps_set (i := 5) sc_ledger_holds.nd rfl (by first | exact .inl rfl | exact .inr rfl) (pe_callTy call_list_of (by rfl) T.m_list (by decide +kernel) (pa_cons (pe_call (ok_input_numbers T B) (hr.mono (by decide)) (by rfl) T.g_input_numbers T.F_input_numbers.kp T.b_input_numbers .nil pass0 (pa_cons (pv 1) pa_nil)) pa_nil))) (pss_cons (ps_for PassesOwn.never rfl (ZpG.pi_zip2 (by rfl) T.m_zip (pa_cons (pv 3) (pa_cons (pv 2) pa_nil))) (pg_tup rfl (pgs_cons (pg_tup rfl (pgs_cons (pg_name (i := 6) sc_ledger_holds.nd rfl (by first | exact .inl rfl | exact .inr rfl)) (pgs_cons (pg_name (i := 7) sc_ledger_holds.nd rfl (by first | exact .inl rfl | exact .inr rfl)) pgs_nil))) (pgs_cons (pg_name (i := 8) sc_ledger_holds.nd rfl (by first | exact .inl rfl | exact .inr rfl)) pgs_nil))) (pss_cons (ps_if (pt_not (pt_val (pe_call (ok_part_holds T B) (hr.mono (by decide)) (by rfl) T.g_part_holds T.F_part_holds.kp T.b_part_holds .nil pass0 (pa_cons (pv 6) (pa_cons (pe_call (ok_at_wiresT T B) (hr.mono (by decide)) (by rfl) T.g_at_wires T.F_at_wires.kp T.b_at_wires .nil pass0 (pa_cons (pv 4) (pa_cons (pv 7) pa_nil))) (pa_cons (pe_call (ok_at_wiresL T B) (hr.mono (by decide)) (by rfl) T.g_at_wires T.F_at_wires.kp T.b_at_wires .nil pass0 (pa_cons (pv 5) (pa_cons (pv 7) pa_nil))) (pa_cons (pv 8) pa_nil))))))) (pss_one (ps_ret pe_bl)) pss_nil) (pss_one (ps_expr (pe_bm PySem.F.plainAttrs_list PySem.F.slot_list_append PySem.F.type_list_append mt_append (pv 5) (pa_cons (pe_ix ix_tup (pv 8) pe_int (fun _ _ => rfl)) pa_nil)))))) (pss_one (ps_ret pe_bl))))))), ?_⟩
    have sl : (16777216 : Nat) = sizeLine := by decide
    obtain ⟨c, ra, rb, rfl, hc, hra, hrb⟩ := tc.ch_inv
    obtain ⟨n, g, xs, rfl, hn, hg, tg⟩ := tn.net_inv
    have xl : xs.length = gs.length := by rw [tg.length, List.length_map]
    refine ⟨.ref n, rfl, n, _, 1, .ref g, rfl, rfl, SqT.of hn, rfl, ?_⟩
    refine ⟨tv, rfl, _, _, _, _, _, rfl, .ty _, sh.ty, kit_ty (kitTup d), _, rfl, ?_⟩
    cases ht : isTupD d with
    | false =>
      refine iteT ?_
      have z := q H GrT.refl
      rw [show ledD (settledM gs a) gs (inN a b) d = false by cases d <;> first | rfl | cases ht] at z
      exact z
    | true =>
    obtain ⟨dss, rfl⟩ := tup_of ht
    obtain ⟨th, ps, rfl, hth, tps⟩ := sh.tup_inv
    refine iteF ?_
    have psl' : ps.length = dss.length := tps.length
    refine ⟨.ref th, rfl, th, _, rfl, .inr (SqT.of hth), .ref g, rfl, g, _, rfl, .inr (SqT.of hg), rfl, _, rfl, ?_⟩
    rw [psl', xl]
    refine ite2 (fun e => ?_) (fun e => ?_)
    · have ne : ¬ dss.length = gs.length := fun z => by
        rw [z] at e
        simp at e
      have z := q H GrT.refl
      rw [show ledD (settledM gs a) gs (inN a b) (.tuple dss) = false by show (decide (dss.length = gs.length) && _) = false; rw [decide_eq_false ne]; rfl] at z
      exact z
    have pl : dss.length = gs.length := by
      have : V.int (dss.length : Int) = V.int (gs.length : Nat) := by simpa using e
      have := V.int.inj this
      omega
    have psl : ps.length = gs.length := psl'.trans pl
    have q : ∀ H', GrT T.pt H H' → Q (.bl ((List.range gs.length).all (partOkD (settledM gs a) gs (inN a b) dss))) H' := fun H' g => by
      have z := q H' g
      rw [show ledD (settledM gs a) gs (inN a b) (.tuple dss) = (List.range gs.length).all (partOkD (settledM gs a) gs (inN a b) dss) by show (decide (dss.length = gs.length) && _) = _; rw [decide_eq_true pl, Bool.true_and]] at z
      exact z
    have lp := lp dss rfl
    refine ⟨.ref n, rfl, .ref c, rfl, c, _, 0, _, rfl, rfl, SqT.of hc, rfl, .ref n, .ref ra, m, gs, a, rfl, tn, .tup hra (TkAll.ints _), a01, a16, g1000, ok, fun fa H1 s1 tf => ?_⟩
    obtain ⟨fa', e, hfa⟩ := tf.row_inv
    cases e
    have t1 := tabs.same s1
    refine ⟨.ref c, rfl, .ref c, a, b, rfl, tc.same s1, el, a01, b01, a16, t1, fun ia H2 g2 hia => ?_⟩
    have t2 := g2.tabs t1
    refine ⟨ia, _, rfl, .inr (SqT.of hia), fun NL nNL => ?_⟩
    have sN := same_upd (o := HO.lst (natV (inN a b))) nNL
    have hNL := upd_same (H := H2) (a := NL) (o := .lst (natV (inN a b)))
    have s23 : Same H2 (hd1 NL (upd H2 NL (.lst (natV (inN a b))))) := hd1_of sN nNL
    have g03 : GrT T.pt H (hd1 NL (upd H2 NL (.lst (natV (inN a b))))) := ((GrT.of s1).trans g2).then s23
    have hfa3 := s23 _ _ (g2.tup t1 hfa)
    show tSeq _ _ _ _ (upd H2 NL (.lst (natV (inN a b))))
    generalize upd H2 NL (.lst (natV (inN a b))) = H3 at hNL g03 hfa3 ⊢
    clear s23 sN nNL
    obtain ⟨fs, hfs⟩ : ∃ fs, fs = settledM gs a := ⟨_, rfl⟩
    rw [← hfs] at hfa3 q
    have fsl : fs.length = a.length + gs.length := by rw [hfs, settledM_len]
    have fs01 : ∀ x ∈ fs, x = 0 ∨ x = 1 := by rw [hfs]; exact settledM_01 gs a a01
    have hth3 := hd1_le _ _ (g03.tup tabs hth)
    have hg3 := hd1_le _ _ (g03.tup tabs hg)
    refine ⟨.ref g, rfl, .ref th, rfl, .tu g, .tu th, _, _, rfl, SqT.of hg3, SqT.of hth3, ?_⟩
    refine ZpG.for_zip2 (K := K) (z1 := .tu g) (z2 := .tu th) (xs1 := xs) (xs2 := ps) (n := gs.length) xl psl
      (fun i σ H' => ∃ y6 y7 y8, σ = [some (.ref n), some (.ref c), some (.ref th), some (.ref g), some (.ref fa), some (.ref NL), y6, y7, y8] ∧ GrT T.pt H (hd1 NL H') ∧ hd1 NL H' fa = some (.tup (fs.map V.int)) ∧ H' NL = some (.lst (natV (numD (inN a b) dss i))) ∧ (∀ x ∈ numD (inN a b) dss i, x ≤ 10 ^ 40) ∧ ∀ k, k < i → partOkD fs gs (inN a b) dss k = true)
      ⟨_, _, _, rfl, g03, hfa3, by unfold numD; rw [List.take_zero, List.map_nil, List.append_nil]; exact hNL, fun x hx => by
        unfold numD at hx
        rw [List.take_zero, List.map_nil, List.append_nil] at hx
        exact Nat.le_trans (inN_le a b x hx) (by decide +kernel), fun k hk => absurd hk (Nat.not_lt_zero _)⟩ (fun i σ H' _ ⟨_, _, _, _, hP, _⟩ => ⟨SqT.of (hd1_le _ _ (hP.tup tabs hg)), SqT.of (hd1_le _ _ (hP.tup tabs hth))⟩) ?_ ?_
    · rintro i x1 x2 Tq σ H4 hx1 hx2 nT ⟨y6, y7, y8, rfl, g4, hf4, hN4, le40, ih⟩
      obtain ⟨gt, hgt, tgt⟩ := tg.at hx1
      obtain ⟨p, hp, sp⟩ := tps.get hx2
      have t4 : Tabs (hd1 NL H4) T.pt := g4.tabs tabs
      have t4' : Tabs H4 T.pt := t4.same hd1_le
      obtain ⟨ga, ii, rfl, hga, hii⟩ := (tgt.gr (g4.gr tabs)).gt_inv
      have sp4 := sp.gr (g4.gr tabs)
      have lpp := lp p (List.mem_of_getElem? hp)
      have hil := (List.getElem?_eq_some_iff.mp hgt).1
      obtain ⟨ok1, ok2, ok3, ok4⟩ := ok i gt hgt
      obtain ⟨ns, hns⟩ : ∃ ns, ns = numD (inN a b) dss i := ⟨_, rfl⟩
      rw [← hns] at hN4 le40
      have nl : ns.length = a.length + i := by
        rw [hns]
        unfold numD
        rw [List.length_append, inN_len el, List.length_map, List.length_take]
        omega
      have pNl := pickN_len ns gt.2
      have pIl := pickI_len fs gt.2
      have few : ∀ x ∈ pickN ns gt.2, x ≤ 10 ^ 40 := fun x hx => by
        obtain ⟨k, hk, rfl⟩ := List.mem_map.mp hx
        have := ok4 k hk
        refine le40 _ ?_
        rw [List.getD_eq_getElem?_getD, List.getElem?_eq_getElem (by omega)]
        exact List.getElem_mem _
      have f01 : Row01 (pickI fs gt.2) := fun x hx => by
        obtain ⟨k, hk, rfl⟩ := List.mem_map.mp hx
        have := ok4 k hk
        refine fs01 _ ?_
        rw [List.getD_eq_getElem?_getD, List.getElem?_eq_getElem (by omega)]
        exact List.getElem_mem _
      have sT := same_upd (o := HO.tup [V.ref ga, x2]) nT
      have g5 : GrT T.pt H4 (upd H4 Tq (.tup [.ref ga, x2])) := GrT.of sT
      have tb5 := g5.tabs t4'
      have hga5 := sT _ _ (hd1_le _ _ hga)
      have hii5 := sT _ _ (hd1_le _ _ hii)
      have sp5 := (sp4.same hd1_le).same sT
      have hN5 := sT _ _ hN4
      have hf5 := sT _ _ (hd1_le _ _ hf4)
      refine ⟨Tq, _, rfl, SqT.of upd_same, rfl, _, _, rfl, ga, _, rfl, SqT.of hga5, rfl, _, _, rfl, _, _, rfl, rfl, _, _, rfl, rfl, ?_⟩
      refine ⟨.str (tabOf gt.1), rfl, .ref fa, rfl, .ref ii, rfl, fa, ii, fs, gt.2, rfl, hf5, hii5, fun k hk => by have := ok4 k hk; omega, ok3, tb5, fun w1 H6 g6 h6 => ?_⟩
      have tb6 := g6.tabs tb5
      refine ⟨.ref NL, rfl, .ref ii, rfl, NL, ii, ns, gt.2, rfl, g6.lst tb5 hN5, g6.tup tb5 hii5, fun k hk => by have := ok4 k hk; omega, ok3, tb6, fun w2 H7 g7 h7 => ?_⟩
      have tb7 := g7.tabs tb6
      have g57 := g6.trans g7
      refine ⟨x2, rfl, gt.1, w1, w2, x2, pickI fs gt.2, pickN ns gt.2, p, rfl, g7.tup tb6 h6, h7, sp5.gr (g57.gr tb5), f01, by omega, few, lpp.1, by omega, by rw [pIl]; exact ok1, tb7, fun H8 g8 => ⟨_, rfl, ?_⟩⟩
      have epo : partOkD fs gs (inN a b) dss i = partM gt.1 (pickI fs gt.2) (pickN ns gt.2) p := by
        unfold partOkD
        rw [hgt, hp, hns]
      have g48 := (g5.trans g57).trans g8
      have gh := g48.hid (D := NL)
      rw [← epo]
      refine ite2 (fun e => ?_) (fun e => ?_)
      · have e : partOkD fs gs (inN a b) dss i = false := by simpa using e
        have z := q H8 ((g4.trans gh).then hd1_le)
        rw [rangeStop hil e] at z
        exact z
      · have e : partOkD fs gs (inN a b) dss i = true := by simpa using e
        obtain ⟨xs2, rfl, hx2p⟩ := part_yes (by rw [← epo]; exact e)
        obtain ⟨pll, pnn⟩ := holds_parts hx2p
        obtain ⟨pa, vs2, rfl, hpa, tv2⟩ := sp4.tup_inv
        have ev := tv2.intV
        subst ev
        have hpa5 := sT _ _ (hd1_le _ _ hpa)
        have cp := cnt_pos (pickN ns gt.2)
        have p0 : xs2[0]? = some (xs2.getD 0 0) := by rw [List.getD_eq_getElem?_getD, List.getElem?_eq_getElem (by omega)]; rfl
        have pm0 := List.mem_of_getElem? p0
        have pn := pnn _ pm0
        have hhd : hdD (.tuple (xs2.map PyData.int)) = (xs2.getD 0 0).toNat := by
          cases xs2 with
          | nil => cases p0
          | cons u r => rfl
        have ple := lpp.2
        rw [hhd] at ple
        have hN8 := g48.lst t4' hN4
        have hpa8 := g8.tup tb7 (g57.tup tb5 hpa5)
        refine ⟨.ref NL, rfl, .inl ⟨rfl, _, SqL.of hN8⟩, .ref pa, rfl, pa, _, 0, _, rfl, rfl, SqT.of hpa8, atI_nat (j := 0) (by rw [List.getElem?_map, p0]; rfl), NL, _, _, rfl, rfl, hN8, by rw [natV_len]; omega, ?_⟩
        have en : numD (inN a b) dss (i + 1) = ns ++ [(xs2.getD 0 0).toNat] := by
          rw [hns]
          unfold numD
          rw [List.take_add_one, hp, List.map_append, List.append_assoc, ← hhd]
          rfl
        refine ⟨_, _, _, rfl, (g4.trans gh).then hd1_upd, hd1_upd _ _ (gh.tup t4 hf4), ?_, ?_, fun k hk => ?_⟩
        · rw [upd_same, en, nat_of pn, natV_app]
          rfl
        · rw [en]
          intro x hx
          rcases List.mem_append.mp hx with hx | hx
          · exact le40 x hx
          · rw [List.mem_singleton.mp hx]
            exact Nat.le_trans ple (by decide +kernel)
        · by_cases e' : k < i
          · exact ih k e'
          · have : k = i := by omega
            subst this
            exact e
    · rintro σ H4 ⟨y6, y7, y8, rfl, g4, hf4, hN4, le40, ih⟩
      have z := q H4 (g4.then hd1_le)
      rw [rangeAll ih] at z
      exact z

end
end Gk

set_option Elab.async false
set_option linter.all false
set_option maxRecDepth 100000
set_option maxHeartbeats 1000000
set_option pp.maxSteps 1500
set_option pp.deepTerms false
namespace Gk
open PySem PySem.Spec PyProof.Rows L2
section
variable {P : Program} {w : World} {K : PySem.W.Frag} {mg : Str → Option Value} {base : Heap}
/-! ### how many counts there are; a part, and more -/
def sp_size (K : PySem.W.Frag) : Sp := fun vs H Q _ => ∃ (a : Addr) (ns : List Nat), vs = [.ref a] ∧ H a = some (.tup (natV ns)) ∧ ns.length ≤ 3 ∧ (∀ n ∈ ns, n ≤ 10 ^ 40) ∧ Q (.int (cnt ns : Nat)) H
theorem ok_size (T : Tx K mg) : FnOk P w K mg base CX0 1 T.f_size T.fd_size ["_law_numbers"] (sp_size K) := by
  refine T.F_size.ok sc_size (fun vs H Q E h => ?_) (fun cdv A outer s H vs Q E hr h => ?_)
  · obtain ⟨a, ns, rfl, _⟩ := h
    rfl
  · obtain ⟨a, ns, rfl, ha, l3, big, q⟩ := h
    refine ⟨_, (pss_cons (ps_set (i := 1) sc_size.nd rfl (by first | exact .inl rfl | exact .inr rfl) pe_int) (pss_cons (ps_for PassesOwn.never rfl (pi_tup (pv 0)) (pg_name (i := 2) sc_size.nd rfl (by first | exact .inl rfl | exact .inr rfl)) (pss_one (ps_set (i := 1) sc_size.nd rfl (by first | exact .inl rfl | exact .inr rfl) (pe_op op_mulW (pv 1) (pe_op op_add (pv 2) pe_int))))) (pss_one (ps_ret (pv 1))))), ?_⟩
    refine ⟨.ref a, rfl, a, rfl, ⟨_, SqT.of ha⟩, for_tup (K := K) (a := a) (xs := natV ns) (fun i σ H' => ∃ y2, σ = [some (.ref a), some (.int (cnt (ns.take i) : Nat)), y2] ∧ H' = H) ⟨_, rfl, rfl⟩ (fun i σ H' _ ⟨_, _, e⟩ => by rw [e]; exact SqT.of ha) ?_ ?_⟩
    · rintro i v σ H1 hv ⟨y2, rfl, rfl⟩
      obtain ⟨n, hn, rfl⟩ := natV_inv hv
      have n12 := big n (List.mem_of_getElem? hn)
      have c40 := cnt_le40 (ns.take i) fun x hx => big x (List.mem_of_mem_take hx)
      have c3 : cnt (ns.take i) ≤ (10 ^ 41) ^ 3 := Nat.le_trans c40 (Nat.pow_le_pow_right (by decide +kernel) (by rw [List.length_take]; omega))
      refine ⟨.int (cnt (ns.take i) : Nat), rfl, .int (Int.ofNat n), rfl, _, _, rfl, rfl, _, _, rfl, rfl, mul40 (b := n + 1) c3 (Nat.le_trans (Nat.succ_le_succ n12) (by decide +kernel)), some (.int (Int.ofNat n)), ?_, rfl⟩
      rw [cnt_take hn]
      show [_, some (V.int (((cnt (ns.take i) : Nat) : Int) * ((n : Int) + 1))), _] = _
      push_cast
      rfl
    · rintro σ H1 ⟨y2, rfl, rfl⟩
      rw [natV_len, List.take_length]
      exact ⟨_, rfl, q⟩
def raiseL (xs : List Int) (u : Int) (k : Nat) : List Int := (xs.take k).map (· + u) ++ xs.drop k
theorem raise_len (xs : List Int) (u : Int) (k : Nat) : (raiseL xs u k).length = xs.length := by
  unfold raiseL
  rw [List.length_append, List.length_map, List.length_take, List.length_drop]
  omega
theorem raise_at {xs : List Int} {u : Int} {k i : Nat} (h : i < xs.length) : (raiseL xs u k).getD i 0 = xs.getD i 0 + if i < k then u else 0 := by
  unfold raiseL
  rw [List.getD_eq_getElem?_getD, List.getD_eq_getElem?_getD]
  by_cases c : i < k
  · rw [List.getElem?_append_left (by rw [List.length_map, List.length_take]; omega), List.getElem?_map, List.getElem?_take, if_pos c, if_pos c, List.getElem?_eq_getElem h]
    rfl
  · rw [List.getElem?_append_right (by rw [List.length_map, List.length_take]; omega), List.length_map, List.length_take, List.getElem?_drop, if_neg c]
    have e : k + (i - min k xs.length) = i := by omega
    rw [e, Int.add_zero]
theorem holds_raise {bs : List Bool} {fs : List Int} {ns : List Nat} {xs : List Int} {u : Int} {k : Nat} (u0 : 0 ≤ u) (h : holdsP bs fs ns xs = true) : holdsP bs fs ns (raiseL xs u k) = true := by
  unfold holdsP at h ⊢
  rw [Bool.and_eq_true, Bool.and_eq_true] at h ⊢
  obtain ⟨h1, h2, h3⟩ := h
  have l := of_decide_eq_true h1
  refine ⟨decide_eq_true (by rw [raise_len, l]), List.all_eq_true.mpr fun x hx => ?_, rangeAll fun i hi => ?_⟩
  · unfold raiseL at hx
    rcases List.mem_append.mp hx with z | z
    · obtain ⟨y, hy, rfl⟩ := List.mem_map.mp z
      have := of_decide_eq_true (List.all_eq_true.mp h2 y (List.mem_of_mem_take hy))
      exact decide_eq_true (by omega)
    · exact List.all_eq_true.mp h2 x (List.mem_of_mem_drop z)
  · have q := List.all_eq_true.mp h3 i (List.mem_range.mpr hi)
    unfold placeOk at q ⊢
    obtain ⟨c, hc⟩ : ∃ c, (every ns)[i]? = some c := ⟨_, List.getElem?_eq_getElem (by rw [every_len]; exact hi)⟩
    obtain ⟨le, ei⟩ := every_idx ns i c hc
    have ec : (every ns).getD i [] = c := by rw [List.getD_eq_getElem?_getD, hc]; rfl
    rw [ec] at q ⊢
    refine List.all_eq_true.mpr fun p hp => ?_
    have s := List.all_eq_true.mp q p hp
    unfold stepOk at s ⊢
    have s := of_decide_eq_true s
    obtain ⟨hp1, _⟩ := next_iff.mp hp
    have ie := idx_inc ns c p le.1 hp1
    rw [ei] at ie
    have cp := cnt_pos (ns.drop (p + 1))
    have ea := every_at ns (inc c p) (le.inc hp)
    have jl := (List.getElem?_eq_some_iff.mp ea).1
    rw [every_len] at jl
    rw [raise_at (by omega), raise_at (by omega)]
    refine decide_eq_true ?_
    repeat' split
    all_goals omega
def sp_more (K : PySem.W.Frag) : Sp := fun vs H Q _ => ∃ (d l : Addr) (n : Int) (p : Addr) (xs : List Int), vs = [.ref d, .ref p] ∧ DeckE H d l n ∧ n < 100000000 ∧ H p = some (.tup (xs.map V.int)) ∧ 1 ≤ xs.length ∧ xs.length ≤ 4000 ∧ ∀ r H' u k, DeckE H' d l (n + 3) → Fr d l H H' → 0 ≤ u → u ≤ 3 → H' r = some (.tup ((raiseL xs u k).map V.int)) → Q (.ref r) H'
theorem ok_more (T : Tx K mg) : FnOk P w K mg base CX0 3 T.f_more T.fd_more ["_law_deck_here", "_law_part"] (sp_more K) := by
  refine T.F_more.ok sc_more (fun vs H Q E h => ?_) (fun cdv A outer s H vs Q E hr h => ?_)
  · obtain ⟨d, l, n, p, xs, rfl, _⟩ := h
    rfl
  · obtain ⟨d, l, n, p, xs, rfl, D, hn, hp, x1, x4, q⟩ := h
    refine ⟨_, (pss_cons (ps_set (i := 2) sc_more.nd rfl (by first | exact .inl rfl | exact .inr rfl) (pe_call (ok_draw T) (hr.mono (by decide)) (by rfl) T.g_draw T.F_draw.kp T.b_draw .nil pass0 (pa_cons (pv 0) (pa_cons pe_int pa_nil)))) (pss_cons (ps_set (i := 3) sc_more.nd rfl (by first | exact .inl rfl | exact .inr rfl) (pe_ix ix_list (pe_lst (pa_cons pe_int (pa_cons pe_int (pa_cons (pe_op op_add pe_int (pe_call (ok_draw T) (hr.mono (by decide)) (by rfl) T.g_draw T.F_draw.kp T.b_draw .nil pass0 (pa_cons (pv 0) (pa_cons pe_int pa_nil)))) (pa_cons pe_int pa_nil))))) (pv 2) (fun _ _ => rfl))) (pss_cons (ps_set (i := 4) sc_more.nd rfl (by first | exact .inl rfl | exact .inr rfl) (pe_call (ok_draw T) (hr.mono (by decide)) (by rfl) T.g_draw T.F_draw.kp T.b_draw .nil pass0 (pa_cons (pv 0) (pa_cons (pe_callB call_len_seq (by rfl) T.m_len PySem.boot_len (pa_cons (pv 1) pa_nil)) pa_nil)))) (pss_cons (ps_if (pt_cmpR op_lt (pv 2) pe_int (nomark _)) (pss_one (ps_ret (pe_callTy call_tuple_of (by rfl) T.m_tuple (by decide +kernel) (pa_cons (pe_lc (own := [("_law_one", 5)]) (by rfl) sc_more.nd (pi_tup (pv 1)) (blkOk_by (own := [("_law_one", 5)]) (N := ["_law_deck_here", "_law_part", "_law_way", "_law_much", "_law_at", "_law_one"]) (sc := defScope s_more) (by decide +kernel)) (fun _ _ _ _ _ => (pg_name (i := 5) sc_more.nd rfl (by first | exact .inl rfl | exact .inr rfl))) (fun _ _ _ _ _ => pts_nil) (fun _ _ _ _ _ => (pe_op op_add (pv 5) (pv 3)))) pa_nil)))) pss_nil) (pss_one (ps_ret (pe_op op_catA (pe_callTy call_tuple_of (by rfl) T.m_tuple (by decide +kernel) (pa_cons (pe_lc (own := [("_law_one", 5)]) (by rfl) sc_more.nd (pi_tup (pe_slice sl_tupA (pv 1) po_none (po_some (pe_op op_add (pv 4) pe_int)))) (blkOk_by (own := [("_law_one", 5)]) (N := ["_law_deck_here", "_law_part", "_law_way", "_law_much", "_law_at", "_law_one"]) (sc := defScope s_more) (by decide +kernel)) (fun _ _ _ _ _ => (pg_name (i := 5) sc_more.nd rfl (by first | exact .inl rfl | exact .inr rfl))) (fun _ _ _ _ _ => pts_nil) (fun _ _ _ _ _ => (pe_op op_add (pv 5) (pv 3)))) pa_nil)) (pe_slice sl_tupA (pv 1) (po_some (pe_op op_add (pv 4) pe_int)) po_none)))))))), ?_⟩
    refine ⟨.ref d, rfl, d, l, 4, _, rfl, D, by omega, by decide, by decide, fun H1 wy D1 fr1 w0 w1 => ?_⟩
    refine ⟨.ref d, rfl, d, l, 3, _, rfl, D1, by omega, by decide, by decide, fun H2 mu D2 fr2 m0 m1 => ?_⟩
    refine ⟨_, _, rfl, rfl, by show 4 ≤ sizeLine; decide, fun lp nlp => ?_⟩
    have s3 := same_upd (o := (HO.lst [V.int 0, V.int 1, V.int (1 + mu), V.int 1])) nlp
    have h3 : upd H2 lp (HO.lst [V.int 0, V.int 1, V.int (1 + mu), V.int 1]) lp = some (HO.lst [V.int 0, V.int 1, V.int (1 + mu), V.int 1]) := upd_same
    generalize upd H2 lp (HO.lst [V.int 0, V.int 1, V.int (1 + mu), V.int 1]) = H3 at s3 h3 ⊢
    obtain ⟨u, hu, u0, u3⟩ : ∃ u : Int, atI [V.int 0, V.int 1, V.int (1 + mu), V.int 1] wy = some (.int u) ∧ 0 ≤ u ∧ u ≤ 3 := by
      have c : wy = 0 ∨ wy = 1 ∨ wy = 2 ∨ wy = 3 := by omega
      rcases c with rfl | rfl | rfl | rfl
      · exact ⟨0, rfl, by omega, by omega⟩
      · exact ⟨1, rfl, by omega, by omega⟩
      · exact ⟨1 + mu, rfl, by omega, by omega⟩
      · exact ⟨1, rfl, by omega, by omega⟩
    have D3 := D2.same s3
    have ts03 : Ts H H3 := ((Ts.frE D fr1).trans (Ts.frE D1 fr2)).trans (Ts.same s3)
    have hp3 := ts03 _ _ hp
    have lx : (xs.map V.int).length = xs.length := List.length_map _
    refine ⟨_, rfl, lp, _, _, _, rfl, rfl, SqL.of h3, hu, ?_⟩
    refine ⟨.ref d, rfl, .ref p, rfl, p, xs.map V.int, rfl, .inr (SqT.of hp3), d, l, ((xs.map V.int).length : Int), _, rfl, D3, by omega, by omega, by omega, fun H4 k D4 fr4 k0 k1 => ?_⟩
    obtain ⟨k, rfl⟩ := Int.eq_ofNat_of_zero_le k0
    have ts34 := Ts.frE D3 fr4
    have hp4 := ts34 _ _ hp3
    have fr04 : Fr d l H H4 := ((fr1.trans fr2).trans (Fr.of s3)).trans fr4
    have rise : ∀ {zs : List Int} {a : Addr} {Hx : Hp} {L : Addr}, Hx L = none → Hx a = some (.tup (zs.map V.int)) → zs.length ≤ 4000 → ∀ i x H', (zs.map V.int)[i]? = some x → Same Hx (hd1 L H') ∧ H' L = some (.lst (((zs.take i).map (· + u)).map V.int)) → ∃ b, x = .int b ∧ (((zs.take i).map (· + u)).map V.int).length < sizeLine ∧ Same Hx (hd1 L (upd H' L (.lst (((zs.take i).map (· + u)).map V.int ++ [V.int (b + u)])))) ∧ (upd H' L (.lst (((zs.take i).map (· + u)).map V.int ++ [V.int (b + u)]))) L = some (.lst (((zs.take (i + 1)).map (· + u)).map V.int)) := fun {zs a Hx L} nL ha l4 i x H' hx h => by
      rw [List.getElem?_map] at hx
      obtain ⟨b, hb, rfl⟩ := Option.map_eq_some_iff.mp hx
      refine ⟨b, rfl, ?_, h.1.trans hd1_upd, ?_⟩
      · rw [List.length_map, List.length_map, List.length_take]
        exact Nat.lt_of_le_of_lt (show min i zs.length ≤ 4000 by omega) (by decide)
      · rw [upd_same, List.take_add_one, hb, List.map_append, List.map_append]
        rfl
    refine ⟨.int wy, rfl, _, _, rfl, rfl, _, rfl, ite2 (fun _ => ?_) (fun _ => ?_)⟩
    · refine ⟨.ref p, rfl, p, rfl, ⟨_, SqT.of hp4⟩, fun L nL => ?_⟩
      refine lc_tup (K := K) (a := p) (xs := xs.map V.int) (fun i H' => Same H4 (hd1 L H') ∧ H' L = some (.lst (((xs.take i).map (· + u)).map V.int))) ⟨hd1_of (same_upd nL) nL, upd_same⟩ (fun i H' _ z => SqT.of (hd1_le _ _ (z.1 _ _ hp4))) ?_ ?_
      · rintro i x H5 hx h5
        obtain ⟨b, rfl, h1, h2, h3'⟩ := rise nL hp4 x4 i x H5 hx h5
        exact ⟨rfl, _, rfl, _, rfl, _, _, rfl, rfl, _, h5.2, h1, h2, h3'⟩
      rintro H5 ⟨s5, hL⟩
      rw [lx, List.take_length] at hL
      have s45 : Same H4 H5 := fun b o z => hd1_le _ _ (s5 b o z)
      refine ⟨L, _, rfl, .inl ⟨SqL.of hL, fun r nr => ?_⟩⟩
      refine q r _ u xs.length ((D4.same (s45.trans (same_upd nr))).mono (by omega)) (fr04.trans (Fr.of (s45.trans (same_upd nr)))) u0 u3 ?_
      rw [upd_same]
      unfold raiseL
      rw [List.take_length, List.drop_length, List.append_nil]
    refine ⟨.ref p, rfl, _, rfl, _, _, rfl, rfl, ((k + 1 : Nat) : Int), rfl, slA hp4 fun p1 H5 s5 h5 => ?_⟩
    rw [cut_to, ← List.map_take] at h5
    refine ⟨p1, rfl, ⟨_, SqT.of h5⟩, fun L nL => ?_⟩
    refine lc_tup (K := K) (a := p1) (xs := (xs.take (k + 1)).map V.int) (fun i H' => Same H5 (hd1 L H') ∧ H' L = some (.lst ((((xs.take (k + 1)).take i).map (· + u)).map V.int))) ⟨hd1_of (same_upd nL) nL, upd_same⟩ (fun i H' _ z => SqT.of (hd1_le _ _ (z.1 _ _ h5))) ?_ ?_
    · rintro i x H6 hx h6
      obtain ⟨b, rfl, h1, h2, h3'⟩ := rise nL h5 (by rw [List.length_take]; omega) i x H6 hx h6
      exact ⟨rfl, _, rfl, _, rfl, _, _, rfl, rfl, _, h6.2, h1, h2, h3'⟩
    rintro H6 ⟨s6, hL⟩
    rw [List.length_map, List.take_length] at hL
    have s56 : Same H5 H6 := fun b o z => hd1_le _ _ (s6 b o z)
    refine ⟨L, _, rfl, .inl ⟨SqL.of hL, fun r1 nr => ?_⟩⟩
    have s7 := same_upd (o := (HO.tup (((xs.take (k + 1)).map (· + u)).map V.int))) nr
    have h7 : upd H6 r1 (HO.tup (((xs.take (k + 1)).map (· + u)).map V.int)) r1 = some (HO.tup (((xs.take (k + 1)).map (· + u)).map V.int)) := upd_same
    generalize upd H6 r1 (HO.tup (((xs.take (k + 1)).map (· + u)).map V.int)) = H7 at s7 h7 ⊢
    have s47 := s5.trans (s56.trans s7)
    refine ⟨.ref p, rfl, _, rfl, _, _, rfl, rfl, ((k + 1 : Nat) : Int), rfl, slAn (s47 _ _ hp4) fun p2 H8 s8 h8 => ?_⟩
    rw [cut_from, ← List.map_drop] at h8
    refine catA (s8 _ _ h7) h8 ?_ fun r H9 s9 h9 => ?_
    · rw [List.length_map, List.length_map, List.length_map, List.length_take, List.length_drop]
      exact Nat.le_trans (show _ ≤ 4000 by omega) (by decide)
    have s49 := s47.trans (s8.trans s9)
    refine q r _ u (k + 1) ((D4.same s49).mono (by omega)) (fr04.trans (Fr.of s49)) u0 u3 ?_
    rw [h9]
    unfold raiseL
    rw [List.map_append]

end
end Gk

set_option Elab.async false
set_option linter.all false
set_option maxRecDepth 100000
set_option maxHeartbeats 1000000
set_option pp.maxSteps 1500
set_option pp.deepTerms false
namespace Gk
open PySem PySem.Spec PyProof.Rows L2
section
variable {P : Program} {w : World} {K : PySem.W.Frag} {mg : Str → Option Value} {base : Heap}
/-! ### an own ledger -/
def hd0 (p : List Int) : Nat := (p.getD 0 0).toNat
def numL (ns : List Nat) (pss : List (List Int)) (i : Nat) : List Nat := ns ++ (pss.take i).map hd0
theorem hd_row (p : List Int) : hdD (rowD p) = hd0 p := by
  cases p with
  | nil => rfl
  | cons x r => rfl
theorem num_rows (ns : List Nat) (pss : List (List Int)) (i : Nat) : numD ns (pss.map rowD) i = numL ns pss i := by
  unfold numD numL
  rw [← List.map_take, List.map_map]
  congr 1
  exact List.map_congr_left fun p _ => hd_row p
def OwnP (p : List Int) : Prop := 1 ≤ p.length ∧ p.length ≤ 400 ∧ ∀ x ∈ p, 0 ≤ x ∧ x ≤ 1300
structure OwnOk (fs : List Int) (gs : List Gt) (ns : List Nat) (pss : List (List Int)) : Prop where
  len : pss.length ≤ gs.length
  part : ∀ p ∈ pss, OwnP p
  hold : ∀ (k : Nat) (g : Gt) (p : List Int), gs[k]? = some g → pss[k]? = some p → holdsP g.1 (pickI fs g.2) (pickN (numL ns pss k) g.2) p = true
theorem OwnP.hd {p : List Int} (h : OwnP p) : ∃ x : Int, p[0]? = some x ∧ 0 ≤ x ∧ x ≤ 1300 ∧ hd0 p = x.toNat := by
  obtain ⟨h1, h2, h3⟩ := h
  have e : p[0]? = some (p.getD 0 0) := by rw [List.getD_eq_getElem?_getD, List.getElem?_eq_getElem (by omega)]; rfl
  have := h3 _ (List.mem_of_getElem? e)
  exact ⟨_, e, this.1, this.2, rfl⟩
theorem numL_le {ns : List Nat} {pss : List (List Int)} (hn : ∀ x ∈ ns, x ≤ 1) (h : ∀ p ∈ pss, OwnP p) (i : Nat) : ∀ x ∈ numL ns pss i, x ≤ 1300 := fun x hx => by
  rcases List.mem_append.mp hx with z | z
  · exact Nat.le_trans (hn x z) (by decide)
  · obtain ⟨p, hp, rfl⟩ := List.mem_map.mp z
    obtain ⟨y, _, h0, h1, e⟩ := (h p (List.mem_of_mem_take hp)).hd
    rw [e]
    omega
theorem numL_snoc (ns : List Nat) (pss : List (List Int)) (p : List Int) {k : Nat} (h : k ≤ pss.length) : numL ns (pss ++ [p]) k = numL ns pss k := by
  unfold numL
  rw [List.take_append_of_le_length h]
theorem OwnOk.snoc {fs : List Int} {gs : List Gt} {ns : List Nat} {pss : List (List Int)} {g : Gt} {p : List Int} (h : OwnOk fs gs ns pss) (hg : gs[pss.length]? = some g) (op : OwnP p) (hp : holdsP g.1 (pickI fs g.2) (pickN (numL ns pss pss.length) g.2) p = true) : OwnOk fs gs ns (pss ++ [p]) := by
  refine ⟨by rw [List.length_append]; exact (List.getElem?_eq_some_iff.mp hg).1, fun q hq => ?_, fun k g' q hg' hq => ?_⟩
  · rcases List.mem_append.mp hq with z | z
    · exact h.part q z
    · rw [List.mem_singleton.mp z]; exact op
  · by_cases c : k < pss.length
    · rw [List.getElem?_append_left c] at hq
      rw [numL_snoc ns pss p (by omega)]
      exact h.hold k g' q hg' hq
    · have hk := (List.getElem?_eq_some_iff.mp hq).1
      rw [List.length_append] at hk
      have hk : k < pss.length + 1 := hk
      have e : k = pss.length := by omega
      subst e
      rw [List.getElem?_append_right (Nat.le_refl _), Nat.sub_self] at hq
      cases Option.some.inj hq
      cases Option.some.inj (hg.symm.trans hg')
      rw [numL_snoc ns pss p (Nat.le_refl _)]
      exact hp
theorem gr_top (bs : List Bool) (fs : List Int) {ns c : List Nat} (le : Le c ns) : gr bs fs ns c ≤ gr bs fs ns (zeros ns) := by
  have h1 := fw_up bs fs ns _ c rfl le
  have h2 := fw_nonneg bs fs c
  omega
theorem own_at {bs : List Bool} {fs : List Int} {ns c : List Nat} {i : Nat} (h : (every ns)[i]? = some c) : ((every ns).map (gr bs fs ns)).getD i 0 = gr bs fs ns c := by
  rw [List.getD_eq_getElem?_getD, List.getElem?_map, h]
  rfl
theorem holds_own (bs : List Bool) (fs : List Int) (ns : List Nat) : holdsP bs fs ns ((every ns).map (gr bs fs ns)) = true := by
  unfold holdsP
  rw [Bool.and_eq_true, Bool.and_eq_true]
  refine ⟨decide_eq_true (by rw [List.length_map, every_len]), List.all_eq_true.mpr fun x hx => ?_, rangeAll fun i hi => ?_⟩
  · obtain ⟨c, _, rfl⟩ := List.mem_map.mp hx
    exact decide_eq_true (gr_nonneg _ _ _ _)
  · obtain ⟨c, hc⟩ : ∃ c, (every ns)[i]? = some c := ⟨_, List.getElem?_eq_getElem (by rw [every_len]; exact hi)⟩
    obtain ⟨le, ei⟩ := every_idx ns i c hc
    unfold placeOk
    have ec : (every ns).getD i [] = c := by rw [List.getD_eq_getElem?_getD, hc]; rfl
    rw [ec, own_at hc]
    refine List.all_eq_true.mpr fun p hp => ?_
    unfold stepOk
    rw [own_at (every_at ns (inc c p) (le.inc hp))]
    exact decide_eq_true (gr_ge le.1 hp)
theorem rem_le : ∀ (ns c : List Nat), rem ns c ≤ ns.sum
  | [], c => by
    show (List.zipWith (· - ·) [] c).sum ≤ 0
    rw [List.zipWith_nil_left]
    exact Nat.le_refl _
  | n :: r, [] => by
    show (List.zipWith (· - ·) (n :: r) []).sum ≤ _
    rw [List.zipWith_nil_right]
    exact Nat.zero_le _
  | n :: r, x :: s => by
    have := rem_le r s
    show (n - x) + rem r s ≤ n + r.sum
    omega
theorem sum_few : ∀ {ns : List Nat}, ns.sum + ns.length ≤ ns.length * cnt ns := by
  intro ns
  have key : ∀ l : List Nat, (∀ n ∈ l, n + 1 ≤ cnt ns) → l.sum + l.length ≤ l.length * cnt ns := by
    intro l
    induction l with
    | nil => intro _; simp
    | cons x r ih =>
      intro h
      have a := h x List.mem_cons_self
      have b := ih fun n hn => h n (List.mem_cons_of_mem _ hn)
      rw [List.sum_cons, List.length_cons, Nat.add_mul, Nat.one_mul]
      omega
  exact key ns fun n hn => cnt_mem hn
theorem gr_le {bs : List Bool} {fs : List Int} {ns c : List Nat} (l : ns.length ≤ 3) (h : cnt ns ≤ 400) : gr bs fs ns c ≤ 1200 := by
  have a := grF_le bs fs ns (rem ns c) c
  have b := rem_le ns c
  have d := sum_few (ns := ns)
  have e : ns.length * cnt ns ≤ 3 * 400 := Nat.mul_le_mul l h
  show grF bs fs ns (rem ns c) c ≤ 1200
  omega
theorem noL_gD (g : Gt) : noL (gD g) = true := by
  have := noL_gDs [g]
  have h : (noL (gD g) && true) = true := this
  rw [Bool.and_true] at h
  exact h
theorem noL_rowDs (pss : List (List Int)) : noLs (pss.map rowD) = true := noLs_map noL_row pss
theorem cnt_ones : ∀ {ns : List Nat}, (∀ x ∈ ns, x ≤ 1) → cnt ns ≤ 2 ^ ns.length := by
  intro ns
  induction ns using snoc_ind with
  | h0 => intro _; exact Nat.le_refl _
  | hs r x ih =>
    intro h
    rw [cnt_snoc, List.length_append, Nat.pow_add]
    exact Nat.mul_le_mul (ih fun n hn => h n (List.mem_append_left _ hn)) (show x + 1 ≤ 2 ^ 1 by have := h x (by simp); omega)
/-- the tables stay -/
def Tt (H H' : Hp) : Prop := ∀ b ps, H b = some (HO.tbl ps) → H' b = some (.tbl ps)
theorem Tt.refl {H : Hp} : Tt H H := fun _ _ e => e
theorem Tt.trans {H H1 H2 : Hp} (a : Tt H H1) (b : Tt H1 H2) : Tt H H2 := fun c xs e => b c xs (a c xs e)
theorem Tt.same {H H' : Hp} (s : Same H H') : Tt H H' := fun b xs e => s _ _ e
theorem Tt.set {H : Hp} {p : Addr} {xs ys : List V} (h : H p = some (.lst xs)) : Tt H (upd H p (.lst ys)) := fun b zs e => by
  rw [upd_ne (ne_of e h (by intro z; cases z))]
  exact e
theorem Tt.frE {H H' : Hp} {d l : Addr} {n : Int} (D : DeckE H d l n) (f : Fr d l H H') : Tt H H' := fun b xs e => by
  obtain ⟨ne, cs, z, y, hd, hl, r⟩ := D
  exact f b _ (ne_of e hd (by intro z; cases z)) (ne_of e hl (by intro z; cases z)) e
theorem Tt.tabs {H H' : Hp} {Ps : List Addr} (t : Tt H H') (g : Tabs H Ps) : Tabs H' Ps := fun P hP => by
  obtain ⟨ps, e, q⟩ := g P hP
  exact ⟨ps, t _ _ e, q⟩
def sp_own (K : PySem.W.Frag) : Sp := fun vs H Q _ => ∃ (d l : Addr) (n : Int) (nv cv : V) (m : Int) (gs : List Gt) (a b : List Int), vs = [.ref d, nv, cv] ∧ DeckE H d l n ∧ n < 1000000 ∧ Tk H nv (netD m gs) ∧ Tk H cv (chD a b) ∧ a.length = b.length ∧ Row01 a ∧ Row01 b ∧ a.length ≤ 16 ∧ gs.length ≤ 40 ∧ NetOk a.length gs ∧ ∀ r H' pss, DeckE H' d l (n + 200) → Ts H H' → Tt H H' → Tk H' (.ref r) (.tuple (pss.map rowD)) → OwnOk (settledM gs a) gs (inN a b) pss → (1 ≤ gs.length → 1 ≤ pss.length) → Q (.ref r) H'
theorem ok_own (T : Tx K mg) : FnOk P w K mg base CX0 5 T.f_own T.fd_own ["_law_deck_here", "_law_net_here", "_law_change_here"] (sp_own K) := by
  refine T.F_own.ok sc_own (fun vs H Q E h => ?_) (fun cdv A outer s H vs Q E hr h => ?_)
  · obtain ⟨d, l, n, nv, cv, m, gs, a, b, rfl, _⟩ := h
    rfl
  · obtain ⟨d, l, n, nv, cv, m, gs, a, b, rfl, D, hn0, tn, tc, il, a01, b01, a16, g40, ok, q⟩ := h
    refine ⟨_, (pss_cons (ps_set (i := 3) sc_own.nd rfl (by first | exact .inl rfl | exact .inr rfl) (pe_call (ok_l_settled T) (hr.mono (by decide)) (by rfl) T.g_l_settled T.F_l_settled.kp T.b_l_settled .nil pass0 (pa_cons (pv 1) (pa_cons (pe_ix ix_tup (pv 2) pe_int (fun _ _ => rfl)) pa_nil)))) (pss_cons (ps_setLc (i := 4) (own := [("_law_one", 9), ("_law_other", 10)]) (by rfl) sc_own.nd rfl rfl (sw_true rfl rfl rfl (by decide +kernel)) (RZ.pi_zipA (by rfl) T.m_zip (pa_cons (pe_ix ix_tup (pv 2) pe_int (fun _ _ => rfl)) (pa_cons (pe_ix ix_tup (pv 2) pe_int (fun _ _ => rfl)) pa_nil))) (blkOk_by (own := [("_law_one", 9), ("_law_other", 10)]) (N := ["_law_deck_here", "_law_net_here", "_law_change_here", "_law_firsts", "_law_numbers", "_law_found", "_law_table_here", "_law_ins_here", "_law_part", "_law_one", "_law_other"]) (sc := defScope s_own) (by decide +kernel)) (fun _ _ _ _ _ => (show PG _ _ (gTup K 2 _) from pg_tup rfl (pgs_cons (pg_name (i := 9) sc_own.nd rfl (by first | exact .inl rfl | exact .inr rfl)) (pgs_cons (pg_name (i := 10) sc_own.nd rfl (by first | exact .inl rfl | exact .inr rfl)) pgs_nil)))) (fun _ _ _ _ _ => pts_nil) (fun _ _ _ _ _ => (pe_callTy call_int1 (by rfl) T.m_int (by decide +kernel) (pa_cons (pe_cmpR op_ne (pv 9) (pv 10) (nomark _)) pa_nil)))) (pss_cons (ps_set (i := 5) sc_own.nd rfl (by first | exact .inl rfl | exact .inr rfl) (pe_lst pa_nil)) (pss_cons (ps_for PassesOwn.never rfl (pi_tup (pe_ix ix_tup (pv 1) pe_int (fun _ _ => rfl))) (pg_tup rfl (pgs_cons (pg_name (i := 6) sc_own.nd rfl (by first | exact .inl rfl | exact .inr rfl)) (pgs_cons (pg_name (i := 7) sc_own.nd rfl (by first | exact .inl rfl | exact .inr rfl)) pgs_nil))) (C8.pss_cut (ps_if (pt_cmpR op_gt (pe_call (ok_size T) (hr.mono (by decide)) (by rfl) T.g_size T.F_size.kp T.b_size .nil pass0 (pa_cons (pe_call (ok_of T) (hr.mono (by decide)) (by rfl) T.g_of T.F_of.kp T.b_of .nil pass0 (pa_cons (pv 4) (pa_cons (pv 7) pa_nil))) pa_nil)) pe_int (nomark _)) (pss_one ps_break) pss_nil) (pss_cons (ps_set (i := 8) sc_own.nd rfl (by first | exact .inl rfl | exact .inr rfl) (pe_call (ok_more T) (hr.mono (by decide)) (by rfl) T.g_more T.F_more.kp T.b_more .nil pass0 (pa_cons (pv 0) (pa_cons (pe_call (ok_still T) (hr.mono (by decide)) (by rfl) T.g_still T.F_still.kp T.b_still .nil pass0 (pa_cons (pv 6) (pa_cons (pe_call (ok_of T) (hr.mono (by decide)) (by rfl) T.g_of T.F_of.kp T.b_of .nil pass0 (pa_cons (pv 3) (pa_cons (pv 7) pa_nil))) (pa_cons (pe_call (ok_of T) (hr.mono (by decide)) (by rfl) T.g_of T.F_of.kp T.b_of .nil pass0 (pa_cons (pv 4) (pa_cons (pv 7) pa_nil))) pa_nil)))) pa_nil)))) (pss_cons (ps_expr (pe_bm PySem.F.plainAttrs_list PySem.F.slot_list_append PySem.F.type_list_append mt_append (pv 5) (pa_cons (pv 8) pa_nil))) (pss_one (ps_expr (pe_bm PySem.F.plainAttrs_list PySem.F.slot_list_append PySem.F.type_list_append mt_append (pv 4) (pa_cons (pe_ix ix_tup (pv 8) pe_int (fun _ _ => rfl)) pa_nil)))))))) (pss_one (ps_ret (pe_callTy call_tuple_of (by rfl) T.m_tuple (by decide +kernel) (pa_cons (pv 5) pa_nil)))))))), ?_⟩
    obtain ⟨c, ra, rb, rfl, hc, hra, hrb⟩ := tc.ch_inv
    obtain ⟨n', g, xs, rfl, hn, hg, tg⟩ := tn.net_inv
    have xl : xs.length = gs.length := by rw [tg.length, List.length_map]
    have iln := inN_len il
    refine ⟨.ref n', rfl, .ref c, rfl, c, _, 0, _, rfl, rfl, SqT.of hc, rfl, .ref n', .ref ra, m, gs, a, rfl, tn, .tup hra (TkAll.ints _), a01, a16, by omega, ok, fun fa H1 nfa s1 hfa => ?_⟩
    obtain ⟨fs, hfs⟩ : ∃ fs, fs = settledM gs a := ⟨_, rfl⟩
    rw [← hfs] at hfa q
    have fsl : fs.length = a.length + gs.length := by rw [hfs, settledM_len]
    have fs01 : ∀ x ∈ fs, x = 0 ∨ x = 1 := by rw [hfs]; exact settledM_01 gs a a01
    have oFA := D.off nfa
    have D1 := D.same s1
    refine ⟨.ref c, rfl, c, _, 0, _, rfl, rfl, SqT.of (s1 _ _ hc), rfl, .ref c, rfl, c, _, 1, _, rfl, rfl, SqT.of (s1 _ _ hc), rfl, ra, rb, _, _, rfl, .inr ⟨SqT.of (s1 _ _ hra), SqT.of (s1 _ _ hrb), fun NL nNL => ?_⟩⟩
    refine lc_zipT (K := K) (a := ra) (b := rb) (xs := a.map V.int) (ys := b.map V.int) (by rw [List.length_map, List.length_map]; exact il)
      (fun i H' => Same H1 (hd1 NL H') ∧ H' NL = some (.lst (natV ((inN a b).take i)))) ⟨hd1_of (same_upd nNL) nNL, upd_same⟩ (fun i H' _ hP => ⟨SqT.of (hd1_le _ _ (hP.1 _ _ (s1 _ _ hra))), SqT.of (hd1_le _ _ (hP.1 _ _ (s1 _ _ hrb)))⟩) ?_ ?_
    · rintro i x y Tq H2 hx hy nT ⟨s2, hN⟩
      obtain ⟨p, hp, rfl⟩ := vints_at hx
      obtain ⟨u, hu, rfl⟩ := vints_at hy
      have hil := (List.getElem?_eq_some_iff.mp hp).1
      have hin : (inN a b)[i]? = some (xrN p u) := by unfold inN; rw [List.getElem?_zipWith, hp, hu]
      refine ⟨Tq, _, rfl, SqT.of upd_same, rfl, _, _, rfl, _, _, rfl, rfl, rfl, ?_⟩
      refine ⟨.int p, rfl, .int u, rfl, rfl, .inr ⟨_, rfl, ?_⟩⟩
      have sl : (16777216 : Nat) = sizeLine := by decide
      refine ⟨_, same_upd nT _ _ hN, by rw [natV_len, List.length_take]; omega, (s2.trans (hd1_same (same_upd nT))).trans hd1_upd, ?_⟩
      rw [upd_same, List.take_add_one, hin, int_xr]
      show some (HO.lst (_ ++ [_])) = some (HO.lst (natV (_ ++ [_])))
      rw [natV_app]
      rfl
    rintro H2 ⟨s2, hN⟩
    rw [List.length_map, List.take_of_length_le (by omega)] at hN
    have s12 : Same H1 H2 := fun b o e => hd1_le _ _ (s2 _ _ e)
    have oNL := D1.off nNL
    have FN : fa ≠ NL := ne_of_none hfa nNL
    have D2 := D1.same s12
    refine ⟨Nat.zero_le _, fun FL nFL => ?_⟩
    have oFL := D2.off nFL
    have NF : NL ≠ FL := ne_of_none hN nFL
    have FF : fa ≠ FL := ne_of_none (s12 _ _ hfa) nFL
    have s3 := same_upd (o := (HO.lst [])) nFL
    have hFL : upd H2 FL (HO.lst []) FL = some (HO.lst []) := upd_same
    generalize upd H2 FL (HO.lst []) = H3 at s3 hFL ⊢
    have s03 := (s1.trans s12).trans s3
    have n1 : ∀ x ∈ inN a b, x ≤ 1 := inN_le a b
    refine ⟨.ref n', rfl, n', _, 1, .ref g, rfl, rfl, SqT.of (s03 _ _ hn), rfl, g, rfl, ⟨_, SqT.of (s03 _ _ hg)⟩, ?_⟩
    refine for_tup (K := K) (a := g) (xs := xs) (fun i σ H' => ∃ y6 y7 y8 zs pss, σ = [some (.ref d), some (.ref n'), some (.ref c), some (.ref fa), some (.ref NL), some (.ref FL), y6, y7, y8, none, none] ∧ DeckE H' d l (n + 3 * i) ∧ (Ts H3 H' ∧ Tt H3 H') ∧ H' fa = some (.lst (fs.map V.int)) ∧ H' NL = some (.lst (natV (numL (inN a b) pss i))) ∧ H' FL = some (.lst zs) ∧ TkAll H' zs (pss.map rowD) ∧ pss.length = i ∧ OwnOk fs gs (inN a b) pss)
      ⟨_, _, _, [], [], rfl, (D2.same s3).mono (by omega), ⟨Ts.refl, Tt.refl⟩, s3 _ _ (s12 _ _ hfa), by unfold numL; rw [List.take_nil, List.map_nil, List.append_nil]; exact s3 _ _ hN, hFL, .nil, rfl, ⟨Nat.zero_le _, (fun p h => by cases h), (fun k g p _ h => by cases h)⟩⟩ (fun i σ H' _ ⟨_, _, _, _, _, _, _, ts, _⟩ => SqT.of (ts.1 _ _ (s03 _ _ hg))) ?_ ?_
    rotate_left
    · rintro σ H4 ⟨y6, y7, y8, zs, pss, rfl, D4, ⟨ts4, tt4⟩, hf4, hN4, hF4, tz, pl, own⟩
      refine ⟨.ref FL, rfl, FL, zs, rfl, .inl ⟨SqL.of hF4, fun r nr => ?_⟩⟩
      exact q r _ pss ((D4.same (same_upd nr)).mono (by omega)) ((Ts.same s03).trans (ts4.trans (Ts.same (same_upd nr)))) ((Tt.same s03).trans (tt4.trans (Tt.same (same_upd nr)))) (.tup upd_same (tz.same (same_upd nr))) own (fun _ => by omega)
    rintro i v σ H4 hv ⟨y6, y7, y8, zs, pss, rfl, D4, ⟨ts4, tt4⟩, hf4, hN4, hF4, tz, pl, own⟩
    obtain ⟨gt, hgt, tgt⟩ := tg.at hv
    have ts04 := (Ts.same s03).trans ts4
    obtain ⟨ga, ii, rfl, hga, hii⟩ := (tgt.ts ts04 (noL_gD _)).gt_inv
    have hil := (List.getElem?_eq_some_iff.mp hgt).1
    obtain ⟨ok1, ok2, ok3, ok4⟩ := ok i gt hgt
    obtain ⟨ns, hns⟩ : ∃ ns, ns = numL (inN a b) pss i := ⟨_, rfl⟩
    have le13 : ∀ x ∈ ns, x ≤ 1300 := by rw [hns]; exact numL_le n1 own.part i
    rw [← hns] at hN4
    have nl : ns.length = a.length + i := by
      rw [hns]
      unfold numL
      rw [List.length_append, iln, List.length_map, List.length_take, pl]
      omega
    have pNl := pickN_len ns gt.2
    have pIl := pickI_len fs gt.2
    have big : ∀ x ∈ pickN ns gt.2, x ≤ 1300 := fun x hx => by
      obtain ⟨k, hk, rfl⟩ := List.mem_map.mp hx
      have := ok4 k hk
      refine le13 _ ?_
      rw [List.getD_eq_getElem?_getD, List.getElem?_eq_getElem (by omega)]
      exact List.getElem_mem _
    have f01 : Row01 (pickI fs gt.2) := fun x hx => by
      obtain ⟨k, hk, rfl⟩ := List.mem_map.mp hx
      have := ok4 k hk
      refine fs01 _ ?_
      rw [List.getD_eq_getElem?_getD, List.getElem?_eq_getElem (by omega)]
      exact List.getElem_mem _
    refine ⟨ga, _, rfl, SqT.of hga, rfl, _, _, rfl, _, _, rfl, rfl, ?_⟩
    refine ⟨fun σ' H' => ∃ y8, σ' = [some (.ref d), some (.ref n'), some (.ref c), some (.ref fa), some (.ref NL), some (.ref FL), some (.str (tabOf gt.1)), some (.ref ii), y8, none, none] ∧ Same H4 H' ∧ cnt (pickN ns gt.2) ≤ 400, ?_, ?_⟩
    · refine ⟨.ref NL, rfl, .ref ii, rfl, NL, ii, ns.map Int.ofNat, gt.2, rfl, hN4, hii, fun k hk => by have := ok4 k hk; rw [List.length_map]; omega, ok3, fun w1 H5 s5 h5 => ?_⟩
      rw [pickI_nat] at h5
      refine ⟨w1, pickN ns gt.2, rfl, h5, by omega, fun x hx => Nat.le_trans (big x hx) (by decide +kernel), _, _, rfl, rfl, _, rfl, ite2 (fun e => ?_) (fun e => ?_)⟩
      · refine ⟨.ref FL, rfl, FL, zs, rfl, .inl ⟨SqL.of (s5 _ _ hF4), fun r nr => ?_⟩⟩
        have sx := s5.trans (same_upd (o := HO.tup zs) nr)
        exact q r _ pss ((D4.same sx).mono (by omega)) (ts04.trans (Ts.same sx)) ((Tt.same s03).trans (tt4.trans (Tt.same sx))) (.tup upd_same (tz.same sx)) own (fun _ => by
          by_cases i0 : i = 0
          · subst i0
            have e : (400 : Int) < ((cnt (pickN ns gt.2) : Nat) : Int) := of_decide_eq_true e
            have c8 : cnt (pickN ns gt.2) ≤ 2 ^ (pickN ns gt.2).length := cnt_ones fun x hx => by
              obtain ⟨k, hk, rfl⟩ := List.mem_map.mp hx
              have hk4 := ok4 k hk
              refine n1 _ ?_
              have en : ns = inN a b := by rw [hns]; unfold numL; rw [List.take_zero, List.map_nil, List.append_nil]
              rw [← en, List.getD_eq_getElem?_getD, List.getElem?_eq_getElem (by omega)]
              exact List.getElem_mem _
            have p8 : 2 ^ (pickN ns gt.2).length ≤ 2 ^ 3 := Nat.pow_le_pow_right (by decide) (by omega)
            omega
          · omega)
      · have e : ¬ (400 : Int) < ((cnt (pickN ns gt.2) : Nat) : Int) := fun k => e (decide_eq_true k)
        exact ⟨_, rfl, s5, by omega⟩
    rintro σ' H5 ⟨y8', rfl, s5, c400⟩
    have few : Few (pickN ns gt.2) := few_of (by omega) (by omega)
    have D5 := D4.same s5
    have hii5 := s5 _ _ hii
    refine ⟨.ref d, rfl, .str (tabOf gt.1), rfl, .ref fa, rfl, .ref ii, rfl, fa, ii, fs, gt.2, rfl, s5 _ _ hf4, hii5, fun k hk => by have := ok4 k hk; omega, ok3, fun w1 H6 s6 h6 => ?_⟩
    refine ⟨.ref NL, rfl, .ref ii, rfl, NL, ii, ns.map Int.ofNat, gt.2, rfl, s6 _ _ (s5 _ _ hN4), s6 _ _ hii5, fun k hk => by have := ok4 k hk; rw [List.length_map]; omega, ok3, fun w2 H7 s7 h7 => ?_⟩
    rw [pickI_nat] at h7
    refine ⟨gt.1, w1, w2, pickI fs gt.2, pickN ns gt.2, rfl, s7 _ _ h6, h7, f01, few, by omega, by rw [pIl]; exact ok1, fun pr H8 s8 h8 => ?_⟩
    have s48 := s5.trans (s6.trans (s7.trans s8))
    obtain ⟨ow, how⟩ : ∃ ow, ow = (every (pickN ns gt.2)).map (gr gt.1 (pickI fs gt.2) (pickN ns gt.2)) := ⟨_, rfl⟩
    rw [← how] at h8
    have owl : ow.length = cnt (pickN ns gt.2) := by rw [how, List.length_map, every_len]
    have cp := cnt_pos (pickN ns gt.2)
    refine ⟨d, l, _, pr, ow, rfl, D4.same s48, by omega, h8, by omega, by omega, fun p2 H9 u k D9 fr9 u0 u3 h9 => ?_⟩
    have hp9 : holdsP gt.1 (pickI fs gt.2) (pickN ns gt.2) (raiseL ow u k) = true := holds_raise u0 (by rw [how]; exact holds_own _ _ _)
    have op : OwnP (raiseL ow u k) := by
      refine ⟨by rw [raise_len]; omega, by rw [raise_len]; omega, fun x hx => ?_⟩
      have all : ∀ y ∈ ow, 0 ≤ y ∧ y ≤ 1200 := fun y hy => by
        rw [how] at hy
        obtain ⟨cc, _, rfl⟩ := List.mem_map.mp hy
        exact ⟨gr_nonneg _ _ _ _, gr_le (by omega) c400⟩
      unfold raiseL at hx
      rcases List.mem_append.mp hx with z | z
      · obtain ⟨y, hy, rfl⟩ := List.mem_map.mp z
        have := all y (List.mem_of_mem_take hy)
        omega
      · have := all x (List.mem_of_mem_drop z)
        omega
    obtain ⟨x0, hx0, _, _, hd⟩ := op.hd
    have tsq := Ts.frE (D4.same s48) fr9
    have hN9 := fr9 _ _ oNL.1 oNL.2 (s48 _ _ hN4)
    have hF9 := fr9 _ _ oFL.1 oFL.2 (s48 _ _ hF4)
    have hf9 := fr9 _ _ oFA.1 oFA.2 (s48 _ _ hf4)
    have tz9 := (tz.same s48).ts tsq (noL_rowDs _)
    have zl : zs.length ≤ 40 := by
      rw [tz.length, List.length_map, pl]
      omega
    have sl : (16777216 : Nat) = sizeLine := by decide
    refine ⟨.ref FL, rfl, .inl ⟨rfl, _, SqL.of hF9⟩, .ref p2, rfl, FL, zs, _, rfl, rfl, hF9, by omega, ?_⟩
    have tA := Ts.set (ys := zs ++ [V.ref p2]) hF9
    have hN10 : (upd H9 FL (.lst (zs ++ [V.ref p2]))) NL = some (.lst (natV ns)) := by rw [upd_ne NF]; exact hN9
    have h10 := tA _ _ h9
    have p0 : ((raiseL ow u k).map V.int)[0]? = some (.int x0) := by rw [List.getElem?_map, hx0]; rfl
    refine ⟨.ref NL, rfl, .inl ⟨rfl, _, SqL.of hN10⟩, .ref p2, rfl, p2, _, 0, _, rfl, rfl, SqT.of h10, atI_nat (j := 0) p0, NL, _, _, rfl, rfl, hN10, by rw [natV_len]; omega, ?_⟩
    have tB := Ts.set (ys := natV ns ++ [V.int x0]) hN10
    have tAB := tA.trans tB
    have trow : Tk H9 (.ref p2) (rowD (raiseL ow u k)) := .tup h9 (TkAll.ints _)
    have en : numL (inN a b) (pss ++ [raiseL ow u k]) (i + 1) = ns ++ [x0.toNat] := by
      unfold numL
      rw [List.take_of_length_le (by rw [List.length_append, pl]; exact Nat.le_refl _), List.map_append, ← List.append_assoc]
      have e2 : inN a b ++ pss.map hd0 = ns := by
        rw [hns]
        unfold numL
        rw [List.take_of_length_le (by omega)]
      rw [e2, ← hd]
      rfl
    refine ⟨_, _, _, zs ++ [.ref p2], pss ++ [raiseL ow u k], rfl, ((D9.upd oFL.1 oFL.2).upd oNL.1 oNL.2).mono (by push_cast; omega), ⟨ts4.trans ((Ts.same s48).trans (tsq.trans tAB)), tt4.trans ((Tt.same s48).trans ((Tt.frE (D4.same s48) fr9).trans ((Tt.set hF9).trans (Tt.set hN10))))⟩, ?_, ?_, ?_, ?_, by rw [List.length_append, pl]; rfl, own.snoc (g := gt) (by rw [pl]; exact hgt) op ?_⟩
    · rw [upd_ne FN, upd_ne FF]
      exact hf9
    · rw [upd_same, en]
      have nn : 0 ≤ x0 := (op.2.2 x0 (List.mem_of_getElem? hx0)).1
      rw [nat_of nn, natV_app]
      rfl
    · rw [upd_ne NF.symm, upd_same]
    · rw [List.map_append]
      exact (tz9.ts tAB (noL_rowDs _)).append (.cons (trow.ts tAB (noL_row _)) .nil)
    · rw [pl, ← hns]
      exact hp9

end
end Gk

set_option Elab.async false
set_option linter.all false
set_option maxRecDepth 100000
set_option maxHeartbeats 1000000
set_option pp.maxSteps 1500
set_option pp.deepTerms false
namespace Gk
open PySem PySem.Spec PyProof.Rows L2
section
variable {P : Program} {w : World} {K : PySem.W.Frag} {mg : Str → Option Value} {base : Heap}
/-! ### min of a tuple of ints -/
namespace MnT
open PySem PyProof.Rows
variable {prog : Program} {w : World} {A : Around} {E : Value → Shared → Prop} {s : Shared} {l : Addr} {its : List Value} {ns : List Int} {Q : Value → Shared → Prop}
theorem raw (hh : A.handled = none) (ist : s.heap.IsTuple l its.toArray) (are : IntsAre its ns) (ne : 0 < ns.length)
    (fin : ∀ g tk m t, (∀ b o, s.heap.get? b = some o → g.get? b = some o) → m ∈ ns → (∀ y ∈ ns, m ≤ y) → Q (.int m t) { s with heap := g, toks := tk }) :
    wpAny (model prog w) A (call (.builtin "min") [.ref l]) Q E s := by
  obtain ⟨xs, e⟩ := are.allInts.items
  have hn : numsOf (intItems xs).toList = ns := by rw [← e]; exact are.numsOf
  rw [nums_intItems] at hn
  subst hn
  rw [e] at ist
  have lt : l < s.heap.objs.size := by obtain ⟨_, h, _⟩ := ist; exact Heap.lt_size h
  have pos : 0 < (intItems xs).size := by
    have : (intItems xs).size = xs.size := by simp [intItems]
    rw [List.length_map, Array.length_toList] at ne
    omega
  refine PySem.call_min_walk (wpAny_pyIter_tuple ist ?_)
  refine ⟨s.heap.objs.size, [s.heap.objs.size, l], [s.heap.objs.size], (intItems xs).size, _, _, _, rfl, Walks.tuple (A := A.in1) hh _ l (Nat.ne_of_lt lt) (intItems xs), ⟨⟨_, Heap.get?_push_size _ rfl, rfl, rfl⟩, ist.push _⟩, fun b hb => ?_, pos, CmpOf.ints_lt (numAt xs) (fun _ _ => intItems_at), fun v g tk hP keep => ?_⟩
  · show b < (s.heap.push _).objs.size
    rw [Heap.size_push]
    have : b = s.heap.objs.size ∨ b = l := by simpa using hb
    rcases this with z | z
    · rw [z]; exact Nat.lt_succ_self _
    · rw [z]; exact Nat.lt_succ_of_lt lt
  · have hP : (intItems xs)[argBest (fun i j => decide (numAt xs i < numAt xs j)) (xs.size - 1)]? = some v := by simpa [intItems] using hP
    obtain ⟨t, rfl⟩ := intItems_at hP
    obtain ⟨h1, h2⟩ := argBest_lt (numAt xs) (xs.size - 1)
    have px : 0 < xs.size := by simpa [intItems] using pos
    refine fin g tk _ t (fun b o eb => ?_) ?_ fun y hy => ?_
    · have := Heap.lt_size eb
      exact keep b o (by simp; exact Nat.ne_of_lt this) (Heap.get?_push_of_some _ eb)
    · rw [numAt_eq]
      exact PySem.getD_mem (by rw [List.length_map, Array.length_toList]; omega)
    · obtain ⟨j, hj, rfl⟩ := mem_getD hy
      rw [List.length_map, Array.length_toList] at hj
      rw [← numAt_eq]
      exact h2 j (by omega)
end MnT
def rMinT (K : PySem.W.Frag) : List V → Hp → VK → Prop := fun vs H Q => ∃ (a : Addr) (ns : List Int), vs = [V.ref a] ∧ SqT K H a (ns.map V.int) ∧ 0 < ns.length ∧ ∀ m, m ∈ ns → (∀ y ∈ ns, m ≤ y) → Q (.int m) H
theorem cr_minT {X : Cx} (hc : X.calm = true) : CallR X (.builtin "min") (rMinT X.K) := by
  intro pins s σ H vs us Q I r h
  obtain ⟨a, ns, rfl, hs, ne, q⟩ := h
  obtain rfl := Vals.ref1 r
  obtain ⟨its, rv, hl, _⟩ := I.tuple hs
  exact MnT.raw (I.ok.hd hc) hl rv.ints ne fun g tk m t' hk h1 h2 => ⟨.int _, H, I.kept hk, ⟨_, rfl⟩, q m h1 h2⟩

/-! ### l != [] of any list -/
namespace NeL
section
open PySem.W PySem.Calls HT
variable {X : Cx}
def rNeN (K : PySem.W.Frag) : R2 := fun x y H Q => ∃ a b xs, x = .ref a ∧ y = .ref b ∧ SqL K H a xs ∧ SqL K H b [] ∧ Q (.bl (!xs.isEmpty)) H
theorem op_neN (hu : X.A.units + 64 < cLine) : OpR X (compareOp .NotEq) (rNeN X.K) := by
  intro pins s σ H x y v u Q I rx ry h
  obtain ⟨a, b, xs, rfl, rfl, ha, hb, q⟩ := h
  cases rx
  cases ry
  obtain ⟨us, r1, t1, _⟩ := I.list ha
  obtain ⟨ws, r2, t2, _⟩ := I.list hb
  cases r2
  cases r1 with
  | nil => exact SeqAt.RcNeAt.lists (e := fun _ => true) t1.isList t2.isList rfl (by omega) (fun j h1 _ => absurd h1 (Nat.not_lt_zero _)) _ _ _ _ ⟨.bl false, H, I, rfl, q⟩
  | cons _ _ => exact SeqAt.RcNeAt.lists_lengths t1.isList t2.isList (by simp) (by omega) _ _ _ _ ⟨.bl true, H, I, rfl, q⟩
def rEqN (K : PySem.W.Frag) : R2 := fun x y H Q => ∃ a b xs, x = .ref a ∧ y = .ref b ∧ SqL K H a xs ∧ SqL K H b [] ∧ Q (.bl xs.isEmpty) H
theorem op_eqN (hu : X.A.units + 64 < cLine) : OpR X (compareOp .Eq) (rEqN X.K) := by
  intro pins s σ H x y v u Q I rx ry h
  obtain ⟨a, b, xs, rfl, rfl, ha, hb, q⟩ := h
  cases rx
  cases ry
  obtain ⟨us, r1, t1, _⟩ := I.list ha
  obtain ⟨ws, r2, t2, _⟩ := I.list hb
  cases r2
  cases r1 with
  | nil => exact SeqAt.RcAt.lists (e := fun _ => true) t1.isList t2.isList rfl (by omega) (fun j h1 _ => absurd h1 (Nat.not_lt_zero _)) _ _ _ _ ⟨.bl true, H, I, rfl, q⟩
  | cons _ _ => exact SeqAt.RcAt.lists_lengths t1.isList t2.isList (by simp) (by omega) _ _ _ _ ⟨.bl false, H, I, rfl, q⟩
end
end NeL

/-! ### the law's own judge of a part -/
theorem ints_whole : ∀ {ds : List PyData}, ds.all wholeD = true → ∃ xs : List Int, ds = xs.map PyData.int
  | [], _ => ⟨[], rfl⟩
  | d :: r, h => by
    have h : (wholeD d && r.all wholeD) = true := h
    rw [Bool.and_eq_true] at h
    obtain ⟨i, rfl⟩ := whole_int h.1
    obtain ⟨xs, rfl⟩ := ints_whole h.2
    exact ⟨i :: xs, rfl⟩
theorem part_whole {bs : List Bool} {fs : List Int} {ns : List Nat} {ds : List PyData} (h : ds.all wholeD = false) : partM bs fs ns (.tuple ds) = false := by
  cases e : intsOf ds with
  | none =>
    show (match intsOf ds with
    | some xs => holdsP bs fs ns xs
    | none => false) = _
    rw [e]
  | some xs =>
    have k := intsOf_inv e
    subst k
    have : (xs.map PyData.int).all wholeD = true := List.all_eq_true.mpr fun d hd => by
      obtain ⟨i, _, rfl⟩ := List.mem_map.mp hd
      rfl
    rw [this] at h
    cases h
theorem whole_kinds : ∀ d : PyData, wholeD d = (!isBoolD d && isIntD d)
  | .int _ => rfl
  | .bool _ => rfl
  | .none => rfl
  | .str _ => rfl
  | .list _ => rfl
  | .tuple _ => rfl
  | .dict _ => rfl
def sp_part_right (K : PySem.W.Frag) : Sp := fun vs H Q _ => ∃ (bs : List Bool) (fa na : Addr) (v : V) (fs : List Int) (ns : List Nat) (d : PyData), vs = [.str (tabOf bs), .ref fa, .ref na, v] ∧ H fa = some (.tup (fs.map V.int)) ∧ H na = some (.tup (natV ns)) ∧ Sh H v d ∧ Row01 fs ∧ ns.length ≤ 3 ∧ (∀ n ∈ ns, n ≤ 10 ^ 40) ∧ (∀ ds, d = .tuple ds → ds.length ≤ 4000) ∧ ns.length = fs.length ∧ bs.length = 2 ^ fs.length ∧ ∀ H', Same H H' → Q (.bl (partM bs fs ns d)) H'
theorem ok_part_right (T : Tx K mg) : FnOk P w K mg base CX0 3 T.f_part_right T.fd_part_right ["_law_table_here", "_law_firsts", "_law_numbers", "_law_part"] (sp_part_right K) := by
  refine T.F_part_right.ok sc_part_right (fun vs H Q E h => ?_) (fun cdv A outer s H vs Q E hr h => ?_)
  · obtain ⟨bs, fa, na, v, fs, ns, d, rfl, _⟩ := h
    rfl
  · obtain ⟨bs, fa, na, v, fs, ns, d, rfl, hfa, hna, sh, f01, l3, big, short, lc, lb, q⟩ := h
    refine ⟨_, (pss_cons (ps_if (pw_or (pt_not (pt_val (pe_callB call_isi (by rfl) T.m_isinstance (by decide +kernel) (pa_cons (pv 3) (pa_cons (pe_bltn (v := .ty "tuple") (u := .type "tuple") (by rfl) T.m_tuple (by decide +kernel) rfl) pa_nil))))) (pw_or1 (pt_cmpR op_ne (pe_callB call_len_seq (by rfl) T.m_len PySem.boot_len (pa_cons (pv 3) pa_nil)) (pe_call (ok_size T) (hr.mono (by decide)) (by rfl) T.g_size T.F_size.kp T.b_size .nil pass0 (pa_cons (pv 2) pa_nil)) (nomark _)))).pt (pss_one (ps_ret pe_bl)) pss_nil) (pss_cons (ps_if (pw_or (pt_cmpR (NeL.op_neN hr.units) (pe_lc (own := [("_law_one", 10)]) (by rfl) sc_part_right.nd (pi_tup (pv 3)) (blkOk_by (own := [("_law_one", 10)]) (N := ["_law_table_here", "_law_firsts", "_law_numbers", "_law_part", "_law_rows", "_law_signs", "_law_fars_here", "_law_at", "_law_place", "_law_there", "_law_one"]) (sc := defScope s_part_right) (by decide +kernel)) (fun _ _ _ _ _ => (pg_name (i := 10) sc_part_right.nd rfl (by first | exact .inl rfl | exact .inr rfl))) (fun _ _ _ _ _ => (pts_one (PW.pt (pw_or (pt_val (pe_callB (show CallR _ _ (rIsi K) from call_isi) (by rfl) T.m_isinstance (by decide +kernel) (pa_cons (pv 10) (pa_cons (pe_bltn (v := .ty "bool") (u := .type "bool") (by rfl) T.m_bool (by decide +kernel) rfl) pa_nil)))) (pw_or1 (pt_not (pt_val (pe_callB (show CallR _ _ (rIsi K) from call_isi) (by rfl) T.m_isinstance (by decide +kernel) (pa_cons (pv 10) (pa_cons (pe_bltn (v := .ty "int") (u := .type "int") (by rfl) T.m_int (by decide +kernel) rfl) pa_nil)))))))))) (fun _ _ _ _ _ => (pv 10))) (pe_lst pa_nil) (nomark _)) (pw_or1 (pt_cmpR op_lt (pe_callB (cr_minT rfl) (by rfl) T.m_min (by decide +kernel) (pa_cons (pv 3) pa_nil)) pe_int (nomark _)))).pt (pss_one (ps_ret pe_bl)) pss_nil) (pss_cons (ps_set (i := 4) sc_part_right.nd rfl (by first | exact .inl rfl | exact .inr rfl) (pe_call (ok_counts T) (hr.mono (by decide)) (by rfl) T.g_counts T.F_counts.kp T.b_counts .nil pass0 (pa_cons (pv 2) pa_nil))) (pss_cons (ps_set (i := 5) sc_part_right.nd rfl (by first | exact .inl rfl | exact .inr rfl) (pe_call (ok_worths T) (hr.mono (by decide)) (by rfl) T.g_worths T.F_worths.kp T.b_worths .nil pass0 (pa_cons (pv 0) (pa_cons (pv 1) (pa_cons (pv 4) pa_nil))))) (pss_cons (ps_set (i := 6) sc_part_right.nd rfl (by first | exact .inl rfl | exact .inr rfl) (pe_call (ok_fars T) (hr.mono (by decide)) (by rfl) T.g_fars T.F_fars.kp T.b_fars .nil pass0 (pa_cons (pv 2) pa_nil))) (pss_cons (ps_for PassesOwn.never rfl (pi_range1 (by rfl) T.m_range (pa_cons (pe_callB call_len_seq (by rfl) T.m_len PySem.boot_len (pa_cons (pv 4) pa_nil)) pa_nil)) (pg_name (i := 7) sc_part_right.nd rfl (by first | exact .inl rfl | exact .inr rfl)) (pss_one (ps_for PassesOwn.never rfl (pi_range1 (by rfl) T.m_range (pa_cons (pe_callB call_len_seq (by rfl) T.m_len PySem.boot_len (pa_cons (pv 2) pa_nil)) pa_nil)) (pg_name (i := 8) sc_part_right.nd rfl (by first | exact .inl rfl | exact .inr rfl)) (pss_one (ps_if (pt_cmpR op_lt (pe_ix ix_tup (pe_ix ix_list (pv 4) (pv 7) (fun _ _ => rfl)) (pv 8) (fun _ _ => rfl)) (pe_ix ix_tup (pv 2) (pv 8) (fun _ _ => rfl)) (nomark _)) (pss_cons (ps_set (i := 9) sc_part_right.nd rfl (by first | exact .inl rfl | exact .inr rfl) (pe_op op_add (pv 7) (pe_ix ix_list (pv 6) (pv 8) (fun _ _ => rfl)))) (pss_one (ps_if (pt_cmpR op_lt (pe_op op_sub (pe_ix ix_tup (pv 3) (pv 7) (fun _ _ => rfl)) (pe_ix ix_tup (pv 3) (pv 9) (fun _ _ => rfl))) (pe_callTy call_int1 (by rfl) T.m_int (by decide +kernel) (pa_cons (pe_cmpR op_ne (pe_ix ix_list (pv 5) (pv 7) (fun _ _ => rfl)) (pe_ix ix_list (pv 5) (pv 9) (fun _ _ => rfl)) (nomark _)) pa_nil)) (nomark _)) (pss_one (ps_ret pe_bl)) pss_nil))) pss_nil))))) (pss_one (ps_ret pe_bl)))))))), ?_⟩
    refine ⟨v, rfl, _, _, _, _, _, rfl, .ty _, sh.ty, kit_ty (kitTup d), _, rfl, ?_⟩
    cases ht : isTupD d with
    | false =>
      refine iteT ?_
      have z := q H (Same.refl _)
      rw [part_not ht] at z
      exact z
    | true =>
    obtain ⟨ds, rfl⟩ := tup_of ht
    obtain ⟨ta, vs, rfl, hta, tvs⟩ := sh.tup_inv
    refine iteF ?_
    have lv : vs.length = ds.length := tvs.length
    refine ⟨.ref ta, rfl, ta, _, rfl, .inr (SqT.of hta), .ref na, rfl, na, ns, rfl, hna, l3, big, rfl, _, rfl, ?_⟩
    rw [lv]
    refine ite2 (fun e => ?_) (fun e => ?_)
    · have ne : ¬ ds.length = cnt ns := fun z => by
        rw [z] at e
        simp at e
      have z := q H (Same.refl _)
      rw [part_len ne] at z
      exact z
    have el : ds.length = cnt ns := by
      have : V.int (ds.length : Int) = V.int (cnt ns : Nat) := by simpa using e
      have := V.int.inj this
      omega
    have sh4 : ds.length ≤ 4000 := short ds rfl
    have few : Few ns := few_of l3 (by rw [← el]; exact sh4)
    refine ⟨.ref ta, rfl, ta, rfl, ⟨_, SqT.of hta⟩, fun L nL => ?_⟩
    refine lc_tup (K := K) (a := ta) (xs := vs) (fun j H' => Same H (hd1 L H') ∧ ∃ acc, H' L = some (.lst acc) ∧ acc.length ≤ j ∧ acc.isEmpty = (ds.take j).all wholeD) ⟨hd1_of (same_upd nL) nL, [], upd_same, Nat.le_refl _, rfl⟩ (fun j H' _ z => SqT.of (hd1_le _ _ (z.1 _ _ hta))) ?_ ?_
    · rintro j x H1 hx ⟨s1, acc, hL, la, em⟩
      obtain ⟨b, hb, sb⟩ := tvs.get hx
      have jl := (List.getElem?_eq_some_iff.mp hb).1
      have sb1 : Sh H1 x b := sb.same (fun b o z => hd1_le _ _ (s1 b o z))
      have etk : (ds.take (j + 1)).all wholeD = ((ds.take j).all wholeD && wholeD b) := by
        rw [List.take_add_one, hb, List.all_append]
        show (_ && (wholeD b && true)) = _
        rw [Bool.and_true]
      have add : wholeD b = false → ∃ acc', H1 L = some (.lst acc') ∧ acc'.length < sizeLine ∧ Same H (hd1 L (upd H1 L (.lst (acc' ++ [x])))) ∧ ∃ acc, (upd H1 L (.lst (acc' ++ [x]))) L = some (.lst acc) ∧ acc.length ≤ j + 1 ∧ acc.isEmpty = (ds.take (j + 1)).all wholeD := fun nb => by
        refine ⟨acc, hL, Nat.lt_of_le_of_lt (show acc.length ≤ 4000 by omega) (by decide), s1.trans hd1_upd, acc ++ [x], upd_same, by rw [List.length_append]; show acc.length + 1 ≤ j + 1; omega, ?_⟩
        rw [etk, nb, Bool.and_false]
        cases acc <;> rfl
      refine ⟨rfl, x, rfl, _, _, _, _, _, rfl, .ty _, sb1.ty, kit_ty (kitBool b), _, rfl, ite2 (fun e => ?_) (fun e => ?_)⟩
      · exact iteT ⟨x, rfl, add (by rw [whole_kinds, e]; rfl)⟩
      · refine ⟨x, rfl, _, _, _, _, _, rfl, .ty _, sb1.ty, kit_ty (kitInt b), _, rfl, ?_⟩
        have nb : isBoolD b = false := eq_false_of_ne_true e
        cases hi : isIntD b with
        | false => exact iteT ⟨x, rfl, add (by rw [whole_kinds, hi, Bool.and_false])⟩
        | true =>
          refine iteF ⟨s1, acc, hL, Nat.le_succ_of_le la, ?_⟩
          rw [etk, em, whole_kinds, nb, hi]
          show _ = (_ && (true && true))
          rw [Bool.and_true, Bool.and_true]
    rintro H1 ⟨s1, acc, hL, _, em⟩
    rw [lv, List.take_length] at em
    have s01 : Same H H1 := fun b o z => hd1_le _ _ (s1 b o z)
    refine ⟨Nat.zero_le _, fun pe npe => ⟨L, pe, acc, rfl, rfl, SqL.of (same_upd npe _ _ hL), SqL.of upd_same, _, rfl, ite2 (fun ne => ?_) (fun ee => ?_)⟩⟩
    · have nw : ds.all wholeD = false := by
        rw [← em]
        exact eq_false_of_ne_true fun k => by rw [k] at ne; cases ne
      have z := q _ (s01.trans (same_upd (o := HO.lst []) npe))
      rw [part_whole nw] at z
      exact z
    have aw : ds.all wholeD = true := by
      rw [← em]
      cases h : acc.isEmpty with
      | true => rfl
      | false => rw [h] at ee; exact absurd rfl ee
    have s2 := same_upd (o := (HO.lst [])) npe
    have h2 : upd H1 pe (HO.lst []) pe = some (HO.lst []) := upd_same
    generalize upd H1 pe (HO.lst []) = H2 at s2 h2 ⊢
    obtain ⟨xs, rfl⟩ := ints_whole aw
    have evs := tvs.intV
    subst evs
    rw [part_ints] at q
    have el : xs.length = cnt ns := by rw [List.length_map] at el; exact el
    have s02 := s01.trans s2
    have hta2 := s02 _ _ hta
    have cp := cnt_pos ns
    refine ⟨.ref ta, rfl, ta, xs, rfl, SqT.of hta2, by omega, fun mn hm lm => ⟨_, _, rfl, rfl, _, rfl, ite2 (fun neg => ?_) (fun nn => ?_)⟩⟩
    · obtain ⟨jm, hjm⟩ := List.getElem?_of_mem hm
      have z := q _ s02
      have nb : decide (0 ≤ mn) = false := decide_eq_false fun y => by have neg : mn < 0 := of_decide_eq_true neg; omega
      unfold holdsP at z
      rw [allStop (f := fun x => decide ((0 : Int) ≤ x)) hjm nb, Bool.false_and, Bool.and_false] at z
      exact z
    have nn : 0 ≤ mn := Int.not_lt.mp fun z => nn (decide_eq_true z)
    have pos : xs.all (fun x => decide (0 ≤ x)) = true := List.all_eq_true.mpr fun x hx => decide_eq_true (Int.le_trans nn (lm x hx))
    have hna2 := s02 _ _ hna
    have hfa2 := s02 _ _ hfa
    refine ⟨.ref na, rfl, na, ns, rfl, hna2, few, fun r H3 s3 t3 => ?_⟩
    refine ⟨.str (tabOf bs), rfl, .ref fa, rfl, .ref r, rfl, bs, fa, r, fs, every ns, rfl, s3 _ _ hfa2, t3, f01, by omega, fun c hc => ?_, lb, by rw [every_len]; exact few.2.2, fun wr H4 s4 hw => ?_⟩
    · obtain ⟨j, hj⟩ := List.getElem?_of_mem hc
      rw [(every_idx ns j c hj).1.1, lc]
    refine ⟨.ref na, rfl, na, ns, rfl, s4 _ _ (s3 _ _ hna2), few, fun sr H5 s5 hs => ?_⟩
    have s35 := s4.trans s5
    have s05 := s02.trans (s3.trans s35)
    have hw5 := s5 _ _ hw
    have hna5 := s05 _ _ hna
    have hta5 := s05 _ _ hta
    obtain ⟨r', es, e', hr5, tes⟩ := (t3.same s35).lst_inv
    cases e'
    have esl : es.length = cnt ns := by rw [tes.length, List.length_map, every_len]
    have c4 := few.2.2
    refine ⟨.ref r, rfl, r, es, rfl, .inl (SqL.of hr5), (es.length : Int), rfl, by omega, by omega, ?_⟩
    refine for_range (lo := 0) (n := (es.length : Int).toNat) (fun i σ H' => ∃ y7 y8 y9, σ = [some (.str (tabOf bs)), some (.ref fa), some (.ref na), some (.ref ta), some (.ref r), some (.ref wr), some (.ref sr), y7, y8, y9, none] ∧ H' = H5 ∧ ∀ k, k < i → placeOk bs fs ns xs k = true) ⟨_, _, _, rfl, rfl, fun k h => absurd h (Nat.not_lt_zero _)⟩ ?_ ?_
    rotate_left
    · rintro σ H6 ⟨y7, y8, y9, rfl, rfl, all⟩
      have z := q _ s05
      unfold holdsP at z
      rw [rangeAll (fun k hk => all k (by omega)), pos, decide_eq_true el] at z
      exact z
    rintro i σ H6 hi ⟨y7, y8, y9, rfl, rfl, all⟩
    have hi : i < cnt ns := by omega
    have e0 : (0 : Int) + (i : Int) = (i : Int) := Int.zero_add _
    rw [e0]
    obtain ⟨c, hc⟩ : ∃ c, (every ns)[i]? = some c := ⟨_, List.getElem?_eq_getElem (by rw [every_len]; exact hi)⟩
    obtain ⟨le, eidx⟩ := every_idx ns i c hc
    obtain ⟨cv, hcv, tcv⟩ := tes.at' hc
    obtain ⟨ca, rfl, hca⟩ := tcv.c_inv
    have ec : (every ns).getD i [] = c := by rw [List.getD_eq_getElem?_getD, hc]; rfl
    have xi : (xs.map V.int)[i]? = some (.int (xs.getD i 0)) := by rw [List.getElem?_map, List.getD_eq_getElem?_getD, List.getElem?_eq_getElem (by omega)]; rfl
    have wi : (((every ns).map (Wc bs fs)).map V.int)[i]? = some (.int (Wc bs fs c)) := by rw [List.getElem?_map, List.getElem?_map, hc]; rfl
    have nvl : (natV ns).length = ns.length := natV_len ns
    refine ⟨.ref na, rfl, na, natV ns, rfl, .inr (SqT.of hna5), ((natV ns).length : Int), rfl, by omega, by omega, ?_⟩
    refine for_range (lo := 0) (n := ((natV ns).length : Int).toNat) (fun j σ H' => ∃ y8 y9, σ = [some (.str (tabOf bs)), some (.ref fa), some (.ref na), some (.ref ta), some (.ref r), some (.ref wr), some (.ref sr), some (.int (i : Nat)), y8, y9, none] ∧ H' = H6 ∧ ∀ p, p < j → p ∈ nexts ns c → stepOk bs fs ns xs c (xs.getD i 0) p = true) ⟨_, _, rfl, rfl, fun p h => absurd h (Nat.not_lt_zero _)⟩ ?_ ?_
    rotate_left
    · rintro σ H7 ⟨y8, y9, rfl, rfl, st⟩
      refine ⟨_, _, _, rfl, rfl, fun k hk => ?_⟩
      by_cases ck : k < i
      · exact all k ck
      · have : k = i := by omega
        subst this
        unfold placeOk
        rw [ec]
        exact List.all_eq_true.mpr fun p hp => st p (by have := (next_iff.mp hp).1; omega) hp
    rintro j σ H7 hj ⟨y8, y9, rfl, rfl, st⟩
    have hj : j < ns.length := by omega
    have e1 : (0 : Int) + (j : Int) = (j : Int) := Int.zero_add _
    rw [e1]
    have cl : c.length = ns.length := le.1
    obtain ⟨x, hx⟩ : ∃ x, c[j]? = some x := ⟨_, List.getElem?_eq_getElem (by omega)⟩
    obtain ⟨nj, hn⟩ : ∃ nj, ns[j]? = some nj := ⟨_, List.getElem?_eq_getElem hj⟩
    have eg : c.getD j 0 = x := by rw [List.getD_eq_getElem?_getD, hx]; rfl
    have eg2 : ns.getD j 0 = nj := by rw [List.getD_eq_getElem?_getD, hn]; rfl
    refine ⟨.ref r, rfl, .int (i : Nat), rfl, r, es, _, .ref ca, rfl, rfl, SqL.of hr5, atI_nat hcv, .int (j : Nat), rfl, ca, natV c, _, .int (Int.ofNat x), rfl, rfl, SqT.of hca, atI_nat (natV_at hx), .ref na, rfl, .int (j : Nat), rfl, na, natV ns, _, .int (Int.ofNat nj), rfl, rfl, SqT.of hna5, atI_nat (natV_at hn), _, _, rfl, rfl, _, rfl, ite2 (fun lt => ?_) (fun ge => ?_)⟩
    rotate_left
    · refine ⟨_, _, rfl, rfl, fun p hp pn => ?_⟩
      by_cases cpj : p < j
      · exact st p cpj pn
      · have : p = j := by omega
        subst this
        have := (next_iff.mp pn).2
        rw [eg, eg2] at this
        exact absurd (decide_eq_true (Int.ofNat_lt.mpr this)) ge
    have lt : x < nj := Int.ofNat_lt.mp (of_decide_eq_true lt)
    have hp : j ∈ nexts ns c := next_iff.mpr ⟨hj, by rw [eg, eg2]; exact lt⟩
    have lei := le.inc hp
    have ie := idx_inc ns c j le.1 hj
    rw [eidx] at ie
    have ea := every_at ns (inc c j) lei
    obtain ⟨ah, hah⟩ : ∃ ah, ah = idx ns (inc c j) := ⟨_, rfl⟩
    rw [← hah] at ea ie
    have hahl : ah < cnt ns := by
      have := (List.getElem?_eq_some_iff.mp ea).1
      rwa [every_len] at this
    have hst : (natV (strides ns ns.length))[j]? = some (.int (Int.ofNat (cnt (ns.drop (j + 1))))) := by
      refine natV_at ?_
      unfold strides
      rw [List.getElem?_map, List.getElem?_range hj]
      rfl
    have eah : (i : Int) + Int.ofNat (cnt (ns.drop (j + 1))) = (ah : Int) := by
      show (i : Int) + ((cnt (ns.drop (j + 1)) : Nat) : Int) = _
      omega
    have xa : (xs.map V.int)[ah]? = some (.int (xs.getD ah 0)) := by rw [List.getElem?_map, List.getD_eq_getElem?_getD, List.getElem?_eq_getElem (by omega)]; rfl
    have wa : (((every ns).map (Wc bs fs)).map V.int)[ah]? = some (.int (Wc bs fs (inc c j))) := by rw [List.getElem?_map, List.getElem?_map, ea]; rfl
    refine ⟨.int (i : Nat), rfl, .ref sr, rfl, .int (j : Nat), rfl, sr, _, _, .int (Int.ofNat (cnt (ns.drop (j + 1)))), rfl, rfl, SqL.of hs, atI_nat hst, _, _, rfl, rfl, ?_⟩
    show gName 9 (V.int ((i : Int) + Int.ofNat (cnt (ns.drop (j + 1))))) _ _ _
    rw [eah]
    refine ⟨.ref ta, rfl, .int (i : Nat), rfl, ta, _, _, .int (xs.getD i 0), rfl, rfl, SqT.of hta5, atI_nat xi, .ref ta, rfl, .int (ah : Nat), rfl, ta, _, _, .int (xs.getD ah 0), rfl, rfl, SqT.of hta5, atI_nat xa, _, _, rfl, rfl, .ref wr, rfl, .int (i : Nat), rfl, wr, _, _, .int (Wc bs fs c), rfl, rfl, SqL.of hw5, atI_nat wi, .ref wr, rfl, .int (ah : Nat), rfl, wr, _, _, .int (Wc bs fs (inc c j)), rfl, rfl, SqL.of hw5, atI_nat wa, rfl, .inr ⟨_, rfl, _, _, rfl, rfl, _, rfl, ?_⟩⟩
    rw [xr_if]
    have eso : stepOk bs fs ns xs c (xs.getD i 0) j = decide (xs.getD ah 0 + xr (Wc bs fs c) (Wc bs fs (inc c j)) ≤ xs.getD i 0) := by
      unfold stepOk
      rw [← hah]
    refine ite2 (fun bad => ?_) (fun good => ?_)
    · have bad : xs.getD i 0 - xs.getD ah 0 < xr (Wc bs fs c) (Wc bs fs (inc c j)) := of_decide_eq_true bad
      have z := q _ s05
      have n2 : placeOk bs fs ns xs i = false := by
        unfold placeOk
        rw [ec]
        obtain ⟨jj, hjj⟩ := List.getElem?_of_mem hp
        exact allStop hjj (by rw [eso]; exact decide_eq_false (by omega))
      unfold holdsP at z
      rw [rangeStop hi n2, Bool.and_false, Bool.and_false] at z
      exact z
    · have good : ¬ xs.getD i 0 - xs.getD ah 0 < xr (Wc bs fs c) (Wc bs fs (inc c j)) := fun k => good (decide_eq_true k)
      refine ⟨_, _, rfl, rfl, fun p hpj pn => ?_⟩
      by_cases cpj : p < j
      · exact st p cpj pn
      · have : p = j := by omega
        subst this
        rw [eso]
        exact decide_eq_true (by omega)

end
end Gk

set_option Elab.async false
set_option linter.all false
set_option maxRecDepth 100000
set_option maxHeartbeats 1000000
set_option pp.maxSteps 1500
set_option pp.deepTerms false
namespace Gk
open PySem PySem.Spec PyProof.Rows L2
section
variable {P : Program} {w : World} {K : PySem.W.Frag} {mg : Str → Option Value} {base : Heap}
/-! ### the law's own judge of a ledger -/
def sp_right (K : PySem.W.Frag) : Sp := fun vs H Q _ => ∃ (nv cv tv : V) (m : Int) (gs : List Gt) (a b : List Int) (d : PyData), vs = [nv, cv, tv] ∧ Tk H nv (netD m gs) ∧ Tk H cv (chD a b) ∧ Sh H tv d ∧ LedP d ∧ a.length = b.length ∧ Row01 a ∧ Row01 b ∧ a.length ≤ 16 ∧ gs.length ≤ 1000 ∧ NetOk a.length gs ∧ ∀ H', Same H H' → Q (.bl (ledD (settledM gs a) gs (inN a b) d)) H'
theorem ok_right (T : Tx K mg) : FnOk P w K mg base CX0 4 T.f_right T.fd_right ["_law_net_here", "_law_change_here", "_law_thing"] (sp_right K) := by
  refine T.F_right.ok sc_right (fun vs H Q E h => ?_) (fun cdv A outer s H vs Q E hr h => ?_)
  · obtain ⟨nv, cv, tv, m, gs, a, b, d, rfl, _⟩ := h
    rfl
  · obtain ⟨nv, cv, tv, m, gs, a, b, d, rfl, tn, tc, sh, lp, el, a01, b01, a16, g1000, ok, q⟩ := h
    refine ⟨_, (pss_cons (ps_if (pw_or (pt_not (pt_val (pe_callB call_isi (by rfl) T.m_isinstance (by decide +kernel) (pa_cons (pv 2) (pa_cons (pe_bltn (v := .ty "tuple") (u := .type "tuple") (by rfl) T.m_tuple (by decide +kernel) rfl) pa_nil))))) (pw_or1 (pt_cmpR op_ne (pe_callB call_len_seq (by rfl) T.m_len PySem.boot_len (pa_cons (pv 2) pa_nil)) (pe_callB call_len_seq (by rfl) T.m_len PySem.boot_len (pa_cons (pe_ix ix_tup (pv 0) pe_int (fun _ _ => rfl)) pa_nil)) (nomark _)))).pt (pss_one (ps_ret pe_bl)) pss_nil) (pss_cons (ps_set (i := 3) sc_right.nd rfl (by first | exact .inl rfl | exact .inr rfl) (pe_call (ok_l_settled T) (hr.mono (by decide)) (by rfl) T.g_l_settled T.F_l_settled.kp T.b_l_settled .nil pass0 (pa_cons (pv 0) (pa_cons (pe_ix ix_tup (pv 1) pe_int (fun _ _ => rfl)) pa_nil)))) (pss_cons (ps_setLc (i := 4) (own := [("_law_one", 8), ("_law_other", 9)]) (by rfl) sc_right.nd rfl rfl (sw_true rfl rfl rfl (by decide +kernel)) (RZ.pi_zipA (by rfl) T.m_zip (pa_cons (pe_ix ix_tup (pv 1) pe_int (fun _ _ => rfl)) (pa_cons (pe_ix ix_tup (pv 1) pe_int (fun _ _ => rfl)) pa_nil))) (blkOk_by (own := [("_law_one", 8), ("_law_other", 9)]) (N := ["_law_net_here", "_law_change_here", "_law_thing", "_law_firsts", "_law_numbers", "_law_k", "_law_table_here", "_law_ins_here", "_law_one", "_law_other"]) (sc := defScope s_right) (by decide +kernel)) (fun _ _ _ _ _ => (show PG _ _ (gTup K 2 _) from pg_tup rfl (pgs_cons (pg_name (i := 8) sc_right.nd rfl (by first | exact .inl rfl | exact .inr rfl)) (pgs_cons (pg_name (i := 9) sc_right.nd rfl (by first | exact .inl rfl | exact .inr rfl)) pgs_nil)))) (fun _ _ _ _ _ => pts_nil) (fun _ _ _ _ _ => (pe_callTy call_int1 (by rfl) T.m_int (by decide +kernel) (pa_cons (pe_cmpR op_ne (pv 8) (pv 9) (nomark _)) pa_nil)))) (pss_cons (ps_for PassesOwn.never rfl (pi_range1 (by rfl) T.m_range (pa_cons (pe_callB call_len_seq (by rfl) T.m_len PySem.boot_len (pa_cons (pv 2) pa_nil)) pa_nil)) (pg_name (i := 5) sc_right.nd rfl (by first | exact .inl rfl | exact .inr rfl)) (pss_cons (ps_asg (pe_ix ix_tup (pe_ix ix_tup (pv 0) pe_int (fun _ _ => rfl)) (pv 5) (fun _ _ => rfl)) (pg_tup rfl (pgs_cons (pg_name (i := 6) sc_right.nd rfl (by first | exact .inl rfl | exact .inr rfl)) (pgs_cons (pg_name (i := 7) sc_right.nd rfl (by first | exact .inl rfl | exact .inr rfl)) pgs_nil)))) (pss_cons (ps_if (pt_not (pt_val (pe_call (ok_part_right T) (hr.mono (by decide)) (by rfl) T.g_part_right T.F_part_right.kp T.b_part_right .nil pass0 (pa_cons (pv 6) (pa_cons (pe_call (ok_of T) (hr.mono (by decide)) (by rfl) T.g_of T.F_of.kp T.b_of .nil pass0 (pa_cons (pv 3) (pa_cons (pv 7) pa_nil))) (pa_cons (pe_call (ok_of T) (hr.mono (by decide)) (by rfl) T.g_of T.F_of.kp T.b_of .nil pass0 (pa_cons (pv 4) (pa_cons (pv 7) pa_nil))) (pa_cons (pe_ix ix_tup (pv 2) (pv 5) (fun _ _ => rfl)) pa_nil))))))) (pss_one (ps_ret pe_bl)) pss_nil) (pss_one (ps_expr (pe_bm PySem.F.plainAttrs_list PySem.F.slot_list_append PySem.F.type_list_append mt_append (pv 4) (pa_cons (pe_ix ix_tup (pe_ix ix_tup (pv 2) (pv 5) (fun _ _ => rfl)) pe_int (fun _ _ => rfl)) pa_nil))))))) (pss_one (ps_ret pe_bl)))))), ?_⟩
    obtain ⟨c, ra, rb, rfl, hc, hra, hrb⟩ := tc.ch_inv
    obtain ⟨n, g, xs, rfl, hn, hg, tg⟩ := tn.net_inv
    have xl : xs.length = gs.length := by rw [tg.length, List.length_map]
    refine ⟨tv, rfl, _, _, _, _, _, rfl, .ty _, sh.ty, kit_ty (kitTup d), _, rfl, ?_⟩
    cases ht : isTupD d with
    | false =>
      refine iteT ?_
      have z := q H (Same.refl _)
      rw [show ledD (settledM gs a) gs (inN a b) d = false by cases d <;> first | rfl | cases ht] at z
      exact z
    | true =>
    obtain ⟨dss, rfl⟩ := tup_of ht
    obtain ⟨th, ps, rfl, hth, tps⟩ := sh.tup_inv
    refine iteF ?_
    have psl' : ps.length = dss.length := tps.length
    refine ⟨.ref th, rfl, th, _, rfl, .inr (SqT.of hth), .ref n, rfl, n, _, 1, .ref g, rfl, rfl, SqT.of hn, rfl, g, _, rfl, .inr (SqT.of hg), rfl, _, rfl, ?_⟩
    rw [psl', xl]
    refine ite2 (fun e => ?_) (fun e => ?_)
    · have ne : ¬ dss.length = gs.length := fun z => by
        rw [z] at e
        simp at e
      have z := q H (Same.refl _)
      rw [show ledD (settledM gs a) gs (inN a b) (.tuple dss) = false by show (decide (dss.length = gs.length) && _) = false; rw [decide_eq_false ne]; rfl] at z
      exact z
    have pl : dss.length = gs.length := by
      have : V.int (dss.length : Int) = V.int (gs.length : Nat) := by simpa using e
      have := V.int.inj this
      omega
    have psl : ps.length = gs.length := psl'.trans pl
    have q : ∀ H', Same H H' → Q (.bl ((List.range gs.length).all (partOkD (settledM gs a) gs (inN a b) dss))) H' := fun H' g => by
      have z := q H' g
      rw [show ledD (settledM gs a) gs (inN a b) (.tuple dss) = (List.range gs.length).all (partOkD (settledM gs a) gs (inN a b) dss) by show (decide (dss.length = gs.length) && _) = _; rw [decide_eq_true pl, Bool.true_and]] at z
      exact z
    have lp := lp dss rfl
    have sl : (16777216 : Nat) = sizeLine := by decide
    refine ⟨.ref n, rfl, .ref c, rfl, c, _, 0, _, rfl, rfl, SqT.of hc, rfl, .ref n, .ref ra, m, gs, a, rfl, tn, .tup hra (TkAll.ints _), a01, a16, g1000, ok, fun fa H1 _ s1 hfa => ?_⟩
    obtain ⟨fs, hfs⟩ : ∃ fs, fs = settledM gs a := ⟨_, rfl⟩
    rw [← hfs] at hfa q
    have fsl : fs.length = a.length + gs.length := by rw [hfs, settledM_len]
    have fs01 : ∀ x ∈ fs, x = 0 ∨ x = 1 := by rw [hfs]; exact settledM_01 gs a a01
    have il := inN_len el
    refine ⟨.ref c, rfl, c, _, 0, _, rfl, rfl, SqT.of (s1 _ _ hc), rfl, .ref c, rfl, c, _, 1, _, rfl, rfl, SqT.of (s1 _ _ hc), rfl, ra, rb, _, _, rfl, .inr ⟨SqT.of (s1 _ _ hra), SqT.of (s1 _ _ hrb), fun NL nNL => ?_⟩⟩
    refine lc_zipT (K := K) (a := ra) (b := rb) (xs := a.map V.int) (ys := b.map V.int) (by rw [List.length_map, List.length_map]; exact el)
      (fun i H' => Same H1 (hd1 NL H') ∧ H' NL = some (.lst (natV ((inN a b).take i)))) ⟨hd1_of (same_upd nNL) nNL, upd_same⟩ (fun i H' _ hP => ⟨SqT.of (hd1_le _ _ (hP.1 _ _ (s1 _ _ hra))), SqT.of (hd1_le _ _ (hP.1 _ _ (s1 _ _ hrb)))⟩) ?_ ?_
    · rintro i x y Tq H2 hx hy nT ⟨s2, hN⟩
      obtain ⟨p, hp, rfl⟩ := vints_at hx
      obtain ⟨u, hu, rfl⟩ := vints_at hy
      have hil := (List.getElem?_eq_some_iff.mp hp).1
      have hin : (inN a b)[i]? = some (xrN p u) := by unfold inN; rw [List.getElem?_zipWith, hp, hu]
      refine ⟨Tq, _, rfl, SqT.of upd_same, rfl, _, _, rfl, _, _, rfl, rfl, rfl, ?_⟩
      refine ⟨.int p, rfl, .int u, rfl, rfl, .inr ⟨_, rfl, ?_⟩⟩
      refine ⟨_, same_upd nT _ _ hN, by rw [natV_len, List.length_take]; omega, (s2.trans (hd1_same (same_upd nT))).trans hd1_upd, ?_⟩
      rw [upd_same, List.take_add_one, hin, int_xr]
      show some (HO.lst (_ ++ [_])) = some (HO.lst (natV (_ ++ [_])))
      rw [natV_app]
      rfl
    rintro H2 ⟨s2, hN⟩
    rw [List.length_map, List.take_of_length_le (by omega)] at hN
    have s02 : Same H (hd1 NL H2) := s1.trans s2
    have hfa2 := s2 _ _ hfa
    refine ⟨.ref th, rfl, th, ps, rfl, .inr (SqT.of (hd1_le _ _ (s02 _ _ hth))), (ps.length : Int), rfl, by omega, by omega, ?_⟩
    refine for_range (lo := 0) (n := (ps.length : Int).toNat) (fun i σ H' => ∃ y5 y6 y7, σ = [some (.ref n), some (.ref c), some (.ref th), some (.ref fa), some (.ref NL), y5, y6, y7, none, none] ∧ Same H (hd1 NL H') ∧ hd1 NL H' fa = some (.lst (fs.map V.int)) ∧ H' NL = some (.lst (natV (numD (inN a b) dss i))) ∧ (∀ x ∈ numD (inN a b) dss i, x ≤ 10 ^ 40) ∧ ∀ k, k < i → partOkD fs gs (inN a b) dss k = true)
      ⟨_, _, _, rfl, s02, hfa2, by unfold numD; rw [List.take_zero, List.map_nil, List.append_nil]; exact hN, fun x hx => by
        unfold numD at hx
        rw [List.take_zero, List.map_nil, List.append_nil] at hx
        exact Nat.le_trans (inN_le a b x hx) (by decide +kernel), fun k hk => absurd hk (Nat.not_lt_zero _)⟩ ?_ ?_
    rotate_left
    · rintro σ H3 ⟨y5, y6, y7, rfl, s3, hf3, hN3, le40, ih⟩
      have z := q H3 (fun b o e => hd1_le _ _ (s3 _ _ e))
      rw [rangeAll (fun k hk => ih k (by omega))] at z
      exact z
    rintro i σ H3 hi ⟨y5, y6, y7, rfl, s3, hf3, hN3, le40, ih⟩
    have hi : i < gs.length := by omega
    have e0 : (0 : Int) + (i : Int) = (i : Int) := Int.zero_add _
    rw [e0]
    have s03 : Same H H3 := fun b o e => hd1_le _ _ (s3 _ _ e)
    obtain ⟨x1, hx1⟩ : ∃ x1, xs[i]? = some x1 := ⟨_, List.getElem?_eq_getElem (by omega)⟩
    obtain ⟨x2, hx2⟩ : ∃ x2, ps[i]? = some x2 := ⟨_, List.getElem?_eq_getElem (by omega)⟩
    obtain ⟨gt, hgt, tgt⟩ := tg.at hx1
    obtain ⟨p, hp, sp⟩ := tps.get hx2
    obtain ⟨ga, ii, rfl, hga, hii⟩ := (tgt.same s03).gt_inv
    have lpp := lp p (List.mem_of_getElem? hp)
    obtain ⟨ok1, ok2, ok3, ok4⟩ := ok i gt hgt
    obtain ⟨ns, hns⟩ : ∃ ns, ns = numD (inN a b) dss i := ⟨_, rfl⟩
    rw [← hns] at hN3 le40
    have nl : ns.length = a.length + i := by
      rw [hns]
      unfold numD
      rw [List.length_append, il, List.length_map, List.length_take]
      omega
    have pNl := pickN_len ns gt.2
    have pIl := pickI_len fs gt.2
    have few : ∀ x ∈ pickN ns gt.2, x ≤ 10 ^ 40 := fun x hx => by
      obtain ⟨k, hk, rfl⟩ := List.mem_map.mp hx
      have := ok4 k hk
      refine le40 _ ?_
      rw [List.getD_eq_getElem?_getD, List.getElem?_eq_getElem (by omega)]
      exact List.getElem_mem _
    have f01 : Row01 (pickI fs gt.2) := fun x hx => by
      obtain ⟨k, hk, rfl⟩ := List.mem_map.mp hx
      have := ok4 k hk
      refine fs01 _ ?_
      rw [List.getD_eq_getElem?_getD, List.getElem?_eq_getElem (by omega)]
      exact List.getElem_mem _
    have epo : partOkD fs gs (inN a b) dss i = partM gt.1 (pickI fs gt.2) (pickN ns gt.2) p := by
      unfold partOkD
      rw [hgt, hp, hns]
    refine ⟨.ref n, rfl, n, _, 1, .ref g, rfl, rfl, SqT.of (s03 _ _ hn), rfl, .int (i : Nat), rfl, g, xs, _, .ref ga, rfl, rfl, SqT.of (s03 _ _ hg), atI_nat hx1, ga, _, rfl, SqT.of hga, rfl, _, _, rfl, _, _, rfl, rfl, ?_⟩
    refine ⟨.str (tabOf gt.1), rfl, .ref fa, rfl, .ref ii, rfl, fa, ii, fs, gt.2, rfl, hd1_le _ _ hf3, hii, fun k hk => by have := ok4 k hk; omega, ok3, fun w1 H5 s5 h5 => ?_⟩
    refine ⟨.ref NL, rfl, .ref ii, rfl, NL, ii, ns.map Int.ofNat, gt.2, rfl, s5 _ _ hN3, s5 _ _ hii, fun k hk => by have := ok4 k hk; rw [List.length_map]; omega, ok3, fun w2 H6 s6 h6 => ?_⟩
    rw [pickI_nat] at h6
    have s36 := s5.trans s6
    have s06 := s03.trans s36
    refine ⟨.ref th, rfl, .int (i : Nat), rfl, th, ps, _, x2, rfl, rfl, SqT.of (s06 _ _ hth), atI_nat hx2, gt.1, w1, w2, x2, pickI fs gt.2, pickN ns gt.2, p, rfl, s6 _ _ h5, h6, sp.same s06, f01, by omega, few, lpp.1, by omega, by rw [pIl]; exact ok1, fun H7 s7 => ⟨_, rfl, ?_⟩⟩
    have s37 := s36.trans s7
    have sh37 := s3.trans (hd1_same (p := NL) s37)
    rw [← epo]
    refine ite2 (fun e => ?_) (fun e => ?_)
    · have e : partOkD fs gs (inN a b) dss i = false := by simpa using e
      have z := q H7 (fun b o e => hd1_le _ _ (sh37 _ _ e))
      rw [rangeStop hi e] at z
      exact z
    have e : partOkD fs gs (inN a b) dss i = true := by simpa using e
    obtain ⟨xs2, rfl, hx2p⟩ := part_yes (by rw [← epo]; exact e)
    obtain ⟨pll, pnn⟩ := holds_parts hx2p
    obtain ⟨pa, vs2, rfl, hpa, tv2⟩ := (sp.same (s03.trans s37)).tup_inv
    have ev := tv2.intV
    subst ev
    have cp := cnt_pos (pickN ns gt.2)
    have p0 : xs2[0]? = some (xs2.getD 0 0) := by rw [List.getD_eq_getElem?_getD, List.getElem?_eq_getElem (by omega)]; rfl
    have pn := pnn _ (List.mem_of_getElem? p0)
    have hhd : hdD (.tuple (xs2.map PyData.int)) = (xs2.getD 0 0).toNat := by
      cases xs2 with
      | nil => cases p0
      | cons u r => rfl
    have ple := lpp.2
    rw [hhd] at ple
    have hN7 := s37 _ _ hN3
    refine ⟨.ref NL, rfl, .inl ⟨rfl, _, SqL.of hN7⟩, .ref th, rfl, .int (i : Nat), rfl, th, ps, _, .ref pa, rfl, rfl, SqT.of ((s03.trans s37) _ _ hth), atI_nat hx2, pa, _, 0, _, rfl, rfl, SqT.of hpa, atI_nat (j := 0) (by rw [List.getElem?_map, p0]; rfl), NL, _, _, rfl, rfl, hN7, by rw [natV_len]; omega, ?_⟩
    have en : numD (inN a b) dss (i + 1) = ns ++ [(xs2.getD 0 0).toNat] := by
      rw [hns]
      unfold numD
      rw [List.take_add_one, hp, List.map_append, List.append_assoc, ← hhd]
      rfl
    refine ⟨_, _, _, rfl, sh37.trans hd1_upd, hd1_upd _ _ (hd1_same s37 _ _ hf3), ?_, ?_, fun k hk => ?_⟩
    · rw [upd_same, en, nat_of pn, natV_app]
      rfl
    · rw [en]
      intro x hx
      rcases List.mem_append.mp hx with hx | hx
      · exact le40 x hx
      · rw [List.mem_singleton.mp hx]
        exact Nat.le_trans ple (by decide +kernel)
    · by_cases e' : k < i
      · exact ih k e'
      · have : k = i := by omega
        subst this
        exact e

end
end Gk

set_option Elab.async false
set_option linter.all false
set_option maxRecDepth 100000
set_option maxHeartbeats 1000000
set_option pp.maxSteps 1500
set_option pp.deepTerms false
namespace Gk
open PySem PySem.Spec PyProof.Rows L2
section
variable {P : Program} {w : World} {K : PySem.W.Frag} {mg : Str → Option Value} {base : Heap}
theorem str_len (x : String) : (Str.ofString x).length = x.length := PySem.ofString_length x

theorem int_weight {i : Int} {k : Nat} (h : i.natAbs < 2 ^ k) : (PyData.int i).weight ≤ k := by
  show (if i == 0 then 0 else i.natAbs.log2 + 1) ≤ k
  by_cases z : i = 0
  · rw [if_pos (by rw [z]; rfl)]
    exact Nat.zero_le _
  · rw [if_neg (by simpa using z)]
    exact (Nat.log2_lt (by omega)).mpr h

/-! ### what is spoilt stays small -/
mutual
def gd (B : Nat) : PyData → Bool
  | .none => true
  | .bool _ => true
  | .int i => decide (i.natAbs ≤ B)
  | .str x => x.cps.toList.all fun c => decide (c < 128)
  | .list xs => gds B xs
  | .tuple xs => gds B xs
  | .dict kvs => kvs.isEmpty
def gds (B : Nat) : List PyData → Bool
  | [] => true
  | x :: r => gd B x && gds B r
end
theorem gds_iff {B : Nat} : ∀ {l : List PyData}, gds B l = true ↔ ∀ x ∈ l, gd B x = true
  | [] => ⟨fun _ x hx => (by cases hx), fun _ => rfl⟩
  | y :: r => by
    show (gd B y && gds B r) = true ↔ _
    rw [Bool.and_eq_true, gds_iff (l := r)]
    exact ⟨fun ⟨a, b⟩ x hx => (List.mem_cons.mp hx).elim (fun e => e ▸ a) (b x), fun h => ⟨h y (List.mem_cons_self ..), fun x hx => h x (List.mem_cons_of_mem _ hx)⟩⟩
mutual
theorem gd_mono {B C : Nat} (h : B ≤ C) : ∀ {d : PyData}, gd B d = true → gd C d = true
  | .none, _ => rfl
  | .bool _, _ => rfl
  | .int _, e => decide_eq_true (Nat.le_trans (of_decide_eq_true e) h)
  | .str _, e => e
  | .list _, e => gds_mono h e
  | .tuple _, e => gds_mono h e
  | .dict _, e => e
theorem gds_mono {B C : Nat} (h : B ≤ C) : ∀ {l : List PyData}, gds B l = true → gds C l = true
  | [], _ => rfl
  | _ :: _, e => by
    have e' := Bool.and_eq_true_iff.mp e
    exact Bool.and_eq_true_iff.mpr ⟨gd_mono h e'.1, gds_mono h e'.2⟩
end
theorem small_log {i : Int} {B : Nat} (h : i.natAbs ≤ B) (hB : B < 2 ^ 190) : i.natAbs.log2 < 190 := by
  by_cases z : i.natAbs = 0
  · rw [z]; decide
  · exact (Nat.log2_lt z).mpr (Nat.lt_of_le_of_lt h hB)
mutual
theorem gd_show {B : Nat} (hB : B < 2 ^ 190) : ∀ {d : PyData}, gd B d = true → d.showable = true ∧ d.leavesShort 200 = true
  | .none, _ => ⟨rfl, rfl⟩
  | .bool _, _ => ⟨rfl, rfl⟩
  | .int i, e => by
    have l := small_log (of_decide_eq_true e) hB
    refine ⟨decide_eq_true (Nat.lt_trans l (by decide)), decide_eq_true ?_⟩
    have := PySem.int_text_length_le (a := i) (k := 190) (by decide) l
    show (Str.ofString (toString i)).length ≤ 200
    rw [str_len]
    omega
  | .str x, e => by
    refine ⟨rfl, ?_⟩
    show (x.cps.toList.all fun c => decide (c < 16 ^ 8)) = true
    refine List.all_eq_true.mpr fun c hc => decide_eq_true (Nat.lt_trans (of_decide_eq_true (List.all_eq_true.mp e c hc)) (by decide))
  | .list _, e => gds_show hB e
  | .tuple _, e => gds_show hB e
  | .dict [], _ => ⟨rfl, rfl⟩
  | .dict (_ :: _), e => by cases e
theorem gds_show {B : Nat} (hB : B < 2 ^ 190) : ∀ {l : List PyData}, gds B l = true → PyData.showableAll l = true ∧ PyData.leavesShortAll 200 l = true
  | [], _ => ⟨rfl, rfl⟩
  | _ :: _, e => by
    have e' := Bool.and_eq_true_iff.mp e
    have a := gd_show hB e'.1
    have b := gds_show hB e'.2
    exact ⟨Bool.and_eq_true_iff.mpr ⟨a.1, b.1⟩, Bool.and_eq_true_iff.mpr ⟨a.2, b.2⟩⟩
end
def Fit (B n m : Nat) (d : PyData) : Prop := gd B d = true ∧ d.weight ≤ n ∧ d.depth ≤ m
def FitL (B n m : Nat) (ds : List PyData) : Prop := gds B ds = true ∧ PyData.weightAll ds ≤ n ∧ PyData.depthAll ds ≤ m
theorem Fit.mono {B n m B' n' m' : Nat} {d : PyData} (h : Fit B n m d) (a : B ≤ B') (b : n ≤ n') (c : m ≤ m') : Fit B' n' m' d := ⟨gd_mono a h.1, Nat.le_trans h.2.1 b, Nat.le_trans h.2.2 c⟩
theorem Fit.tup {B n m : Nat} {ds : List PyData} (h : FitL B n m ds) : Fit B n (m + 1) (.tuple ds) := ⟨h.1, h.2.1, Nat.succ_le_succ h.2.2⟩
theorem Fit.lst {B n m : Nat} {ds : List PyData} (h : FitL B n m ds) : Fit B n (m + 1) (.list ds) := ⟨h.1, h.2.1, Nat.succ_le_succ h.2.2⟩
theorem Fit.inv {B n m : Nat} {ds : List PyData} (h : Fit B n (m + 1) (.tuple ds)) : FitL B n m ds := ⟨h.1, h.2.1, Nat.le_of_succ_le_succ h.2.2⟩
theorem Fit.fine {B n m : Nat} {d : PyData} (h : Fit B n m d) (hB : B < 2 ^ 190) (hn : n ≤ 50000) (hm : m ≤ 50) : d.showable = true ∧ d.shown.length ≤ sizeLine ∧ d.depth ≤ 50 := by
  have s := gd_show hB h.1
  exact ⟨s.1, fine_fits (n := n) (m := m) (fine_iff.mpr ⟨s.1, s.2, h.2.1, h.2.2⟩) hn, Nat.le_trans h.2.2 hm⟩
theorem weight_app : ∀ a b : List PyData, PyData.weightAll (a ++ b) = PyData.weightAll a + PyData.weightAll b
  | [], b => (Nat.zero_add _).symm
  | x :: r, b => by
    show x.weight + 1 + PyData.weightAll (r ++ b) = x.weight + 1 + PyData.weightAll r + PyData.weightAll b
    rw [weight_app r b]
    omega
theorem depth_app : ∀ a b : List PyData, PyData.depthAll (a ++ b) = max (PyData.depthAll a) (PyData.depthAll b)
  | [], b => (Nat.zero_max _).symm
  | x :: r, b => by
    show max x.depth (PyData.depthAll (r ++ b)) = max (max x.depth (PyData.depthAll r)) (PyData.depthAll b)
    rw [depth_app r b, Nat.max_assoc]
theorem FitL.app {B n n' m : Nat} {a b : List PyData} (h : FitL B n m a) (g : FitL B n' m b) : FitL B (n + n') m (a ++ b) := by
  refine ⟨gds_iff.mpr fun x hx => ?_, ?_, ?_⟩
  · rcases List.mem_append.mp hx with z | z
    · exact gds_iff.mp h.1 x z
    · exact gds_iff.mp g.1 x z
  · rw [weight_app]
    exact Nat.add_le_add h.2.1 g.2.1
  · rw [depth_app]
    exact Nat.max_le.mpr ⟨h.2.2, g.2.2⟩
theorem FitL.parts {B n m : Nat} {a b : List PyData} (h : FitL B n m (a ++ b)) : FitL B n m a ∧ FitL B n m b := by
  obtain ⟨h1, h2, h3⟩ := h
  rw [weight_app] at h2
  rw [depth_app] at h3
  exact ⟨⟨gds_iff.mpr fun x hx => gds_iff.mp h1 x (List.mem_append_left _ hx), by omega, by omega⟩, ⟨gds_iff.mpr fun x hx => gds_iff.mp h1 x (List.mem_append_right _ hx), by omega, by omega⟩⟩
theorem FitL.take {B n m : Nat} {a : List PyData} (h : FitL B n m a) (k : Nat) : FitL B n m (a.take k) := by
  rw [← List.take_append_drop k a] at h
  exact h.parts.1
theorem FitL.drop {B n m : Nat} {a : List PyData} (h : FitL B n m a) (k : Nat) : FitL B n m (a.drop k) := by
  rw [← List.take_append_drop k a] at h
  exact h.parts.2
theorem FitL.one {B n m : Nat} {d : PyData} (h : Fit B n m d) : FitL B (n + 1) m [d] := by
  refine ⟨gds_iff.mpr fun x hx => by rw [List.mem_singleton.mp hx]; exact h.1, ?_, ?_⟩
  · show d.weight + 1 + 0 ≤ n + 1
    have := h.2.1
    omega
  · show max d.depth 0 ≤ m
    have := h.2.2
    omega
theorem FitL.get {B n m : Nat} {ds : List PyData} (h : FitL B n m ds) {j : Nat} {d : PyData} (e : ds[j]? = some d) : Fit B n m d := by
  have s : ds = ds.take j ++ [d] ++ ds.drop (j + 1) := by
    obtain ⟨hl, e'⟩ := List.getElem?_eq_some_iff.mp e
    rw [← e', List.append_assoc, List.singleton_append, List.getElem_cons_drop, List.take_append_drop]
  rw [s] at h
  obtain ⟨h1, h2, h3⟩ := h.parts.1.parts.2
  refine ⟨gds_iff.mp h1 d (List.mem_singleton.mpr rfl), ?_, ?_⟩
  · have : d.weight + 1 + 0 ≤ n := h2
    omega
  · have : max d.depth 0 ≤ m := h3
    omega
theorem weight_rev (a : List PyData) : PyData.weightAll a.reverse = PyData.weightAll a := by
  induction a with
  | nil => rfl
  | cons x r ih =>
    rw [List.reverse_cons, weight_app, ih]
    show PyData.weightAll r + (x.weight + 1 + 0) = x.weight + 1 + PyData.weightAll r
    omega
theorem depth_rev (a : List PyData) : PyData.depthAll a.reverse = PyData.depthAll a := by
  induction a with
  | nil => rfl
  | cons x r ih =>
    rw [List.reverse_cons, depth_app, ih]
    show max (PyData.depthAll r) (max x.depth 0) = max x.depth (PyData.depthAll r)
    omega
theorem FitL.rev {B n m : Nat} {a : List PyData} (h : FitL B n m a) : FitL B n m a.reverse :=
  ⟨gds_iff.mpr fun x hx => gds_iff.mp h.1 x (List.mem_reverse.mp hx), by rw [weight_rev]; exact h.2.1, by rw [depth_rev]; exact h.2.2⟩
theorem ShAll.rev {H : Hp} : ∀ {xs : List V} {ds : List PyData}, ShAll H xs ds → ShAll H xs.reverse ds.reverse
  | _, _, .nil => .nil
  | _, _, .cons a r => by
    rw [List.reverse_cons, List.reverse_cons]
    exact (ShAll.rev r).append (.cons a .nil)

/-! ### many great waves shown -/
mutual
theorem gd_short {B : Nat} (hB : B < 10 ^ 38) : ∀ {d : PyData}, gd B d = true → d.leavesShort 40 = true
  | .none, _ => rfl
  | .bool _, _ => rfl
  | .int i, e => by
    have := PySem.int_text_length_le10 (a := i) (k := 38) (by decide) (Nat.lt_of_le_of_lt (of_decide_eq_true e) hB)
    refine decide_eq_true ?_
    show (Str.ofString (toString i)).length ≤ 40
    rw [str_len]
    omega
  | .str x, e => by
    show (x.cps.toList.all fun c => decide (c < 16 ^ 8)) = true
    refine List.all_eq_true.mpr fun c hc => decide_eq_true (Nat.lt_trans (of_decide_eq_true (List.all_eq_true.mp e c hc)) (by decide))
  | .list _, e => gds_short hB e
  | .tuple _, e => gds_short hB e
  | .dict [], _ => rfl
  | .dict (_ :: _), e => by cases e
theorem gds_short {B : Nat} (hB : B < 10 ^ 38) : ∀ {l : List PyData}, gds B l = true → PyData.leavesShortAll 40 l = true
  | [], _ => rfl
  | _ :: _, e => by
    have e' := Bool.and_eq_true_iff.mp e
    exact Bool.and_eq_true_iff.mpr ⟨gd_short hB e'.1, gds_short hB e'.2⟩
end
theorem Fit.fineG {B n m : Nat} {d : PyData} (h : Fit B n m d) (hB : B < 10 ^ 38) (hn : n ≤ 390000) (hm : m ≤ 50) : d.showable = true ∧ d.shown.length ≤ sizeLine ∧ d.depth ≤ 50 := by
  have s := gd_show (B := B) (Nat.lt_trans hB (by decide)) h.1
  refine ⟨s.1, ?_, Nat.le_trans h.2.2 hm⟩
  have := PyData.shown_le 40 (by decide) d (gd_short hB h.1)
  have e : sizeLine = 16777216 := by decide
  have := h.2.1
  rw [e]
  omega
theorem fitg_n {i : Int} (h0 : 0 ≤ i) (h1 : i < 2 ^ 106) : Fit (2 ^ 106) 106 0 (.int i) := by
  have : i.natAbs < 2 ^ 106 := by omega
  exact ⟨decide_eq_true (Nat.le_of_lt this), int_weight this, Nat.zero_le _⟩
theorem fitg_map {α : Type} {f : α → PyData} {B n M : Nat} : ∀ l : List α, (∀ x ∈ l, Fit B n M (f x)) → FitL B ((n + 1) * l.length) M (l.map f)
  | [], _ => ⟨rfl, Nat.le_refl _, Nat.zero_le _⟩
  | x :: r, h => by
    have a := (FitL.one (h x (List.mem_cons_self ..))).app (fitg_map (f := f) r fun y hy => h y (List.mem_cons_of_mem _ hy))
    exact ⟨a.1, Nat.le_trans a.2.1 (by rw [List.length_cons, Nat.mul_succ]; omega), a.2.2⟩

/-! ### heaps without some places -/
def hid (as : List Addr) (H : Hp) : Hp := fun b => if b ∈ as then none else H b
theorem hid_at {as : List Addr} {H : Hp} {b : Addr} (h : b ∉ as) : hid as H b = H b := if_neg h
theorem hid_in {as : List Addr} {H : Hp} {b : Addr} (h : b ∈ as) : hid as H b = none := if_pos h
theorem hid_le {as : List Addr} {H : Hp} : Same (hid as H) H := fun b o e => by
  by_cases h : b ∈ as
  · rw [hid_in h] at e; cases e
  · rw [hid_at h] at e; exact e
theorem hid_sub {as bs : List Addr} {H : Hp} (h : ∀ b ∈ bs, b ∈ as) : Same (hid as H) (hid bs H) := fun b o e => by
  by_cases ha : b ∈ as
  · rw [hid_in ha] at e; cases e
  · rw [hid_at ha] at e
    rw [hid_at (fun z => ha (h b z))]
    exact e
theorem hid_same {as : List Addr} {H H' : Hp} (s : Same H H') : Same (hid as H) (hid as H') := fun b o e => by
  by_cases ha : b ∈ as
  · rw [hid_in ha] at e; cases e
  · rw [hid_at ha] at e ⊢
    exact s _ _ e
theorem hid_fr {as : List Addr} {d l : Addr} {H H' : Hp} (f : Fr d l H H') (hd : d ∈ as) (hl : l ∈ as) : Same (hid as H) (hid as H') := fun b o e => by
  by_cases ha : b ∈ as
  · rw [hid_in ha] at e; cases e
  · rw [hid_at ha] at e ⊢
    exact f _ _ (fun z => ha (z ▸ hd)) (fun z => ha (z ▸ hl)) e
theorem hid_upd {as : List Addr} {H : Hp} {p : Addr} {o : HO} (h : p ∈ as) : Same (hid as H) (hid as (upd H p o)) := fun b x e => by
  by_cases ha : b ∈ as
  · rw [hid_in ha] at e; cases e
  · rw [hid_at ha] at e ⊢
    rw [upd_ne (show b ≠ p from fun z => ha (by rw [z]; exact h))]
    exact e

/-! ### numbers, truths among them -/
namespace NumZ
section
variable {X : Cx}
def nz : V → Option Int
  | .int i => some i
  | .bl b => some (if b = true then 1 else 0)
  | _ => none
def rAddZ : R2 := fun x y H Q => ∃ i j, nz x = some i ∧ y = .int j ∧ Q (.int (i + j)) H
theorem op_addZ : OpR X (binaryOp .Add) rAddZ := by
  intro pins s σ H x y v u Q I rx ry h
  obtain ⟨i, j, hx, rfl, q⟩ := h
  cases x with
  | int k =>
    cases Option.some.inj hx
    exact op_add pins s σ H (.int i) (.int j) v u Q I rx ry ⟨i, j, rfl, rfl, q⟩
  | bl b =>
    cases Option.some.inj hx
    cases (show v = Value.bool b from rx)
    obtain ⟨t, rfl⟩ := ry
    exact PySem.IntBool.add_bool_int ⟨.int _, H, I.tok _, ⟨_, rfl⟩, q⟩
  | _ => cases hx
def rSubZ : R2 := fun x y H Q => ∃ i j, nz x = some i ∧ nz y = some j ∧ ((∃ k, x = .int k) ∨ ∃ k, y = .int k) ∧ Q (.int (i - j)) H
theorem op_subZ : OpR X (binaryOp .Sub) rSubZ := by
  intro pins s σ H x y v u Q I rx ry h
  obtain ⟨i, j, hx, hy, one, q⟩ := h
  cases x with
  | int k =>
    cases Option.some.inj hx
    cases y with
    | int m =>
      cases Option.some.inj hy
      exact op_sub pins s σ H (.int i) (.int j) v u Q I rx ry ⟨i, j, rfl, rfl, q⟩
    | bl b =>
      cases Option.some.inj hy
      obtain ⟨t, rfl⟩ := rx
      cases (show u = Value.bool b from ry)
      exact PySem.IntBool.sub_int_bool ⟨.int _, H, I.tok _, ⟨_, rfl⟩, q⟩
    | _ => cases hy
  | bl b =>
    cases Option.some.inj hx
    cases y with
    | int m =>
      cases Option.some.inj hy
      cases (show v = Value.bool b from rx)
      obtain ⟨t, rfl⟩ := ry
      exact PySem.IntBool.sub_bool_int ⟨.int _, H, I.tok _, ⟨_, rfl⟩, q⟩
    | bl c =>
      rcases one with ⟨k, z⟩ | ⟨k, z⟩ <;> cases z
    | _ => cases hy
  | _ => cases hx
def strZ : V → Str
  | .int i => toString i
  | .bl b => if b = true then Str.ofString "True" else Str.ofString "False"
  | _ => Str.empty
def rStrZ : List V → Hp → VK → Prop := fun xs H Q => ∃ x i, xs = [x] ∧ nz x = some i ∧ i.natAbs.log2 < 1920 ∧ Q (.str (strZ x)) H
theorem call_strZ : CallR X (.type "str") rStrZ := by
  intro pins s σ H xs us Q I r h
  obtain ⟨x, i, rfl, hx, small, q⟩ := h
  cases x with
  | int k =>
    cases Option.some.inj hx
    exact call_str_int pins s σ H [.int i] us Q I r ⟨i, rfl, small, q⟩
  | bl b =>
    obtain ⟨u, rfl, ru⟩ := vals1 r
    cases (show u = Value.bool b from ru)
    refine PySem.P.str_of_bool ⟨.str _, H, I.tok _, ⟨_, rfl⟩, ?_⟩
    cases b <;> exact q
  | _ => cases hx
/-- list(t), a list that is none of the interpreter's own -/
def rListN (K : PySem.W.Frag) : List V → Hp → VK → Prop := fun xs H Q => ∃ p ys, xs = [.ref p] ∧ SqT K H p ys ∧ ∀ l, H l = none → l ≠ sysModules → Q (.ref l) (upd H l (.lst ys))
theorem call_listN : CallR X (.type "list") (rListN X.K) := by
  intro pins s σ H xs us Q I r h
  obtain ⟨p, ys, rfl, src, q⟩ := h
  obtain ⟨u, rfl, rx⟩ := vals1 r
  cases rx
  obtain ⟨items, rv, ⟨o, ho, hc, n, hd⟩, few⟩ := I.tuple src
  refine call_list_seq p (.inr rfl) ho hc hd (fun hp c keep made => ?_) (by rw [List.size_toArray, ← rv.length]; exact few)
  exact ⟨.ref s.heap.objs.size, _, I.laid (t' := s.toks) keep (Nat.le_refl _) (show ObjOk X.prog X.w _ hp _ (.lst ys) from ⟨few, items, c, rv, made⟩), rfl, q _ (I.hok.fresh (Nat.le_refl _)) (Nat.ne_of_gt I.big)⟩
end
end NumZ

theorem fit_S {B n m : Nat} {l : List Nat} (h : ∀ c ∈ l, c < 128) (hl : l.length ≤ n) : Fit B n m (.str (SX.S l)) := by
  refine ⟨List.all_eq_true.mpr fun c hc => decide_eq_true (h c (by simpa using hc)), ?_, Nat.zero_le _⟩
  show l.toArray.size ≤ n
  rw [List.size_toArray]
  exact hl
theorem nat_chars (n : Nat) : ∀ c ∈ (Nat.repr n).toList, c.toNat < 128 := by
  intro c hc
  have hc' : c ∈ Nat.toDigits 10 n := by
    have e : (Nat.repr n).toList = Nat.toDigits 10 n := by
      unfold Nat.repr
      exact String.toList_ofList
    rw [e] at hc
    exact hc
  have hd := Nat.isDigit_of_mem_toDigits (by decide) (by decide) hc'
  unfold Char.isDigit at hd
  have h2 := of_decide_eq_true (Bool.and_eq_true_iff.mp hd).2
  have h3 : c.toNat ≤ 57 := h2
  omega
theorem int_chars (i : Int) : ∀ c ∈ (toString i).toList, c.toNat < 128 := by
  cases i with
  | ofNat m => exact nat_chars m
  | negSucc m =>
    intro c hc
    have e : toString (Int.negSucc m) = "-" ++ Nat.repr (m + 1) := rfl
    rw [e, String.toList_append] at hc
    rcases List.mem_append.mp hc with h | h
    · have : c = '-' := by simpa using h
      subst this
      decide
    · exact nat_chars _ c h

/-! ### texts of numbers, cuts of texts -/
theorem isInt_of : ∀ {d : PyData}, isIntD d = true → (∃ i, d = .int i) ∨ ∃ b, d = .bool b
  | .int i, _ => .inl ⟨i, rfl⟩
  | .bool b, _ => .inr ⟨b, rfl⟩
  | .str _, h => by cases h
  | .none, h => by cases h
  | .tuple _, h => by cases h
  | .list _, h => by cases h
  | .dict _, h => by cases h
theorem fit_strZ {B n m k : Nat} {v : V} {i : Int} (hv : NumZ.nz v = some i) (hk : 4 ≤ k) (h : i.natAbs.log2 < k) (hn : k + 1 ≤ n) : Fit B n m (.str (NumZ.strZ v)) := by
  cases v with
  | int j =>
    cases Option.some.inj hv
    have e : NumZ.strZ (.int i) = SX.S ((toString i).toList.map Char.toNat) := Str.ofString_eq_toList _
    rw [e]
    refine fit_S (fun c hc => ?_) ?_
    · obtain ⟨a, ha, rfl⟩ := List.mem_map.mp hc
      exact int_chars i a ha
    · have := PySem.int_text_length_le (a := i) (k := k) (by omega) h
      rw [List.length_map]
      exact Nat.le_trans this hn
  | bl b =>
    cases b
    · have e : NumZ.strZ (.bl false) = SX.S [70, 97, 108, 115, 101] := by decide +kernel
      rw [e]
      exact fit_S (by decide) (show 5 ≤ n by omega)
    · have e : NumZ.strZ (.bl true) = SX.S [84, 114, 117, 101] := by decide +kernel
      rw [e]
      exact fit_S (by decide) (show 4 ≤ n by omega)
  | _ => cases hv
/-! ### a number otherwise -/
theorem pickP {P : V → Prop} {xs : List V} {i : Int} (all : ∀ x ∈ xs, P x) (h0 : 0 ≤ i) (h1 : i < xs.length) : ∃ v, atI xs i = some v ∧ P v := by
  obtain ⟨k, rfl⟩ := Int.eq_ofNat_of_zero_le h0
  have kl : k < xs.length := by omega
  exact ⟨xs[k], atI_nat (List.getElem?_eq_getElem kl), all _ (List.getElem_mem kl)⟩
theorem hidT {d l p : Addr} {n : Int} {H : Hp} {xs : List V} (D : DeckE H d l n) (h : H p = some (.tup xs)) : hid [d, l] H p = some (.tup xs) := by
  obtain ⟨_, cs, y, z, hd, hl, _⟩ := id D
  rw [hid_at]
  · exact h
  · intro hp
    rcases List.mem_cons.mp hp with e | e
    · rw [e, hd] at h; cases h
    · rw [List.mem_singleton.mp e, hl] at h; cases h
theorem hidL {d l p : Addr} {H : Hp} {o : HO} (h : H p = some o) (nd : p ≠ d) (nl : p ≠ l) : hid [d, l] H p = some o := by
  rw [hid_at]
  · exact h
  · intro hp
    rcases List.mem_cons.mp hp with e | e
    · exact nd e
    · exact nl (List.mem_singleton.mp e)
mutual
theorem Tk.shE {d l : Addr} {n : Int} {H : Hp} (D : DeckE H d l n) : ∀ {v : V} {dd : PyData}, Tk H v dd → noL dd = true → Sh (hid [d, l] H) v dd
  | _, _, .bl b, _ => .bl b
  | _, _, .int i, _ => .int i
  | _, _, .str x, _ => .str x
  | _, _, .lst h t, n => by cases n
  | _, _, .tup h t, n => .tup (hidT D h) (t.shE D n)
theorem TkAll.shE {d l : Addr} {n : Int} {H : Hp} (D : DeckE H d l n) : ∀ {vs : List V} {ds : List PyData}, TkAll H vs ds → noLs ds = true → ShAll (hid [d, l] H) vs ds
  | _, _, .nil, _ => .nil
  | _, _, .cons h t, n => .cons (h.shE D (Bool.and_eq_true_iff.mp n).1) (t.shE D (Bool.and_eq_true_iff.mp n).2)
end
theorem hidFr {d l : Addr} {H H' : Hp} (f : Fr d l H H') : Same (hid [d, l] H) (hid [d, l] H') := hid_fr f (by simp) (by simp)

theorem sh_ints (H : Hp) : ∀ is : List Int, ShAll H (is.map V.int) (is.map PyData.int)
  | [] => .nil
  | i :: r => .cons (.int i) (sh_ints H r)
/-- what a part of a spoilt ledger may be -/
def PartG (d l : Addr) (H : Hp) (v : V) : Prop := ∃ c, Sh (hid [d, l] H) v c ∧ Fit (2 ^ 120) 20000 4 c ∧ ∀ ds, c = .tuple ds → ds.length ≤ 4000
theorem PartG.fr {d l : Addr} {H H' : Hp} {v : V} (h : PartG d l H v) (f : Fr d l H H') : PartG d l H' v := by
  obtain ⟨c, a, b⟩ := h
  exact ⟨c, a.same (hidFr f), b⟩
theorem own_fit {p : List Int} (h : ∀ x ∈ p, 0 ≤ x ∧ x ≤ 1300) : FitL (2 ^ 120) (12 * p.length) 0 (p.map PyData.int) := fitg_map (n := 11) p fun x hx => by
  have := h x hx
  exact ⟨decide_eq_true (show x.natAbs ≤ 2 ^ 120 by omega), int_weight (k := 11) (by omega), Nat.zero_le _⟩
theorem row_fit {p : List Int} (h : OwnP p) : Fit (2 ^ 120) 4800 1 (rowD p) := (Fit.tup (own_fit h.2.2)).mono (Nat.le_refl _) (by have := h.2.1; omega) (Nat.le_refl _)
def sp_number_bent (K : PySem.W.Frag) : Sp := fun vs H Q _ => ∃ (d l : Addr) (n : Int) (p : Addr) (xs : List Int), vs = [.ref d, .ref p] ∧ DeckE H d l n ∧ n < 100000000 ∧ H p = some (.tup (xs.map V.int)) ∧ OwnP xs ∧ ∀ r H', DeckE H' d l (n + 3) → Fr d l H H' → PartG d l H' r → Q r H'
theorem ok_number_bent (T : Tx K mg) : FnOk P w K mg base CX0 3 T.f_number_bent T.fd_number_bent ["_law_deck_here", "_law_part"] (sp_number_bent K) := by
  refine T.F_number_bent.ok sc_number_bent (fun vs H Q E h => ?_) (fun cdv A outer s H vs Q E hr h => ?_)
  · obtain ⟨d, l, n, p, xs, rfl, _⟩ := h
    rfl
  · obtain ⟨d, l, n, p, xs, rfl, D, hn, hp, own, q⟩ := h
    refine ⟨_, (pss_cons (ps_set (i := 2) sc_number_bent.nd rfl (by first | exact .inl rfl | exact .inr rfl) (pe_call (ok_draw T) (hr.mono (by decide)) (by rfl) T.g_draw T.F_draw.kp T.b_draw .nil pass0 (pa_cons (pv 0) (pa_cons pe_int pa_nil)))) (pss_cons (ps_set (i := 3) sc_number_bent.nd rfl (by first | exact .inl rfl | exact .inr rfl) (pe_call (ok_draw T) (hr.mono (by decide)) (by rfl) T.g_draw T.F_draw.kp T.b_draw .nil pass0 (pa_cons (pv 0) (pa_cons (pe_callB call_len_seq (by rfl) T.m_len PySem.boot_len (pa_cons (pv 1) pa_nil)) pa_nil)))) (pss_cons (ps_set (i := 4) sc_number_bent.nd rfl (by first | exact .inl rfl | exact .inr rfl) (pe_ix ix_tup (pv 1) (pv 3) (fun _ _ => rfl))) (pss_cons (ps_set (i := 5) sc_number_bent.nd rfl (by first | exact .inl rfl | exact .inr rfl) (pe_ix ix_list (pe_lst (pa_cons (pe_op op_add (pv 4) pe_int) (pa_cons (pe_callB (call_max2 rfl) (by rfl) T.m_max (by decide +kernel) (pa_cons pe_int (pa_cons (pe_op op_sub (pv 4) pe_int) pa_nil))) (pa_cons pe_int (pa_cons (pe_op op_add (pv 4) (pe_op op_pow pe_int pe_int)) (pa_cons (pe_un un_neg pe_int) (pa_cons pe_bl (pa_cons pe_non (pa_cons (pe_callTy NumZ.call_strZ (by rfl) T.m_str (by decide +kernel) (pa_cons (pv 4) pa_nil)) (pa_cons (pe_tup (pa_cons (pv 4) pa_nil)) (pa_cons (pe_lstN (pa_cons (pv 4) pa_nil)) pa_nil))))))))))) (pv 2) (fun _ _ => rfl))) (pss_one (ps_ret (pe_op op_catA (pe_op op_catA (pe_slice sl_tupA (pv 1) po_none (po_some (pv 3))) (pe_tup (pa_cons (pv 5) pa_nil))) (pe_slice sl_tupA (pv 1) (po_some (pe_op op_add (pv 3) pe_int)) po_none)))))))), ?_⟩
    obtain ⟨x1, x4, x13⟩ := id own
    have lx : (xs.map V.int).length = xs.length := List.length_map _
    refine ⟨.ref d, rfl, d, l, 10, _, rfl, D, by omega, by decide, by decide, fun H1 wy D1 fr1 w0 w1 => ?_⟩
    have hp1 := (Ts.frE D fr1) _ _ hp
    refine ⟨.ref d, rfl, .ref p, rfl, p, xs.map V.int, rfl, .inr (SqT.of hp1), d, l, ((xs.map V.int).length : Int), _, rfl, D1, by omega, by omega, by omega, fun H2 k D2 fr2 k0 k1 => ?_⟩
    obtain ⟨k, rfl⟩ := Int.eq_ofNat_of_zero_le k0
    have hp2 := (Ts.frE D1 fr2) _ _ hp1
    have fr02 := fr1.trans fr2
    obtain ⟨o, ho⟩ : ∃ o, xs[k]? = some o := ⟨_, List.getElem?_eq_getElem (by omega)⟩
    obtain ⟨o0, o1⟩ := x13 o (List.mem_of_getElem? ho)
    refine ⟨.ref p, rfl, .int (k : Nat), rfl, p, _, _, .int o, rfl, rfl, SqT.of hp2, atI_nat (by rw [List.getElem?_map, ho]; rfl), ?_⟩
    have big : o.natAbs.log2 < 1920 := by
      by_cases z : o = 0
      · rw [z]; decide
      · have : o.natAbs < 2 ^ 1920 := Nat.lt_of_le_of_lt (show o.natAbs ≤ 1300 by omega) (by decide +kernel)
        exact (Nat.log2_lt (by omega)).mpr this
    refine ⟨_, rfl, _, _, rfl, rfl, _, rfl, _, _, rfl, rfl, _, _, rfl, _, rfl, _, _, rfl, rfl, ⟨by decide, by decide, by decide⟩, _, _, rfl, rfl, _, rfl, _, rfl, .int o, o, rfl, rfl, big, _, rfl, sl1, fun t1 n1 => ?_⟩
    have a1 := same_upd (o := (HO.tup [V.int o])) n1
    have e1 : upd H2 t1 (HO.tup [V.int o]) t1 = some (HO.tup [V.int o]) := upd_same
    generalize upd H2 t1 (HO.tup [V.int o]) = A1 at a1 e1 ⊢
    refine ⟨_, rfl, sl1, fun L1 m1 xL => ?_⟩
    have a2 := same_upd (o := (HO.lst [V.int o])) m1
    have e2 : upd A1 L1 (HO.lst [V.int o]) L1 = some (HO.lst [V.int o]) := upd_same
    generalize upd A1 L1 (HO.lst [V.int o]) = A2 at a2 e2 ⊢
    obtain ⟨g, hg⟩ : ∃ g : Int, g = (if o - 1 > 0 then o - 1 else 0) := ⟨_, rfl⟩
    have g0 : 0 ≤ g ∧ g ≤ 1300 := by rw [hg]; split <;> omega
    obtain ⟨tn, htn⟩ : ∃ tn : Int, tn = (10 : Int) ^ (30 : Int).toNat := ⟨_, rfl⟩
    have tn0 : 0 ≤ tn ∧ tn < 2 ^ 100 := by rw [htn]; exact ⟨by decide +kernel, by decide +kernel⟩
    refine ⟨by show 10 ≤ sizeLine; decide, fun lp nlp => ?_⟩
    have a3 := same_upd (H := A2) (o := HO.lst [V.int (o + 1), V.int g, V.int 0, V.int (o + tn), V.int (-1), V.bl true, V.non, V.str (NumZ.strZ (.int o)), V.ref t1, V.ref L1]) nlp
    have e3 : upd A2 lp (HO.lst [V.int (o + 1), V.int g, V.int 0, V.int (o + tn), V.int (-1), V.bl true, V.non, V.str (NumZ.strZ (.int o)), V.ref t1, V.ref L1]) lp = some (HO.lst [V.int (o + 1), V.int g, V.int 0, V.int (o + tn), V.int (-1), V.bl true, V.non, V.str (NumZ.strZ (.int o)), V.ref t1, V.ref L1]) := upd_same
    rw [hg, htn] at a3 e3
    generalize hh : upd A2 lp _ = A3
    replace a3 : Same A2 A3 := by rw [← hh]; exact a3
    replace e3 : A3 lp = some (HO.lst [V.int (o + 1), V.int g, V.int 0, V.int (o + tn), V.int (-1), V.bl true, V.non, V.str (NumZ.strZ (.int o)), V.ref t1, V.ref L1]) := by rw [← hh, hg, htn]; exact e3
    clear hh
    have a23 := a1.trans (a2.trans a3)
    have D3 := D2.same a23
    have oL := (D2.same a1).off m1
    have ifit : ∀ i : Int, i.natAbs < 2 ^ 102 → Fit (2 ^ 120) 300 2 (.int i) := fun i h => ⟨decide_eq_true (Nat.le_trans (Nat.le_of_lt h) (by decide +kernel)), Nat.le_trans (int_weight h) (by decide), Nat.zero_le _⟩
    have ofit : Fit (2 ^ 120) 200 0 (.int o) := ⟨decide_eq_true (show o.natAbs ≤ 2 ^ 120 from Nat.le_trans (show o.natAbs ≤ 1300 by omega) (by decide +kernel)), Nat.le_trans (int_weight (k := 11) (by omega)) (by decide), Nat.zero_le _⟩
    have each : ∀ x ∈ [V.int (o + 1), V.int g, V.int 0, V.int (o + tn), V.int (-1), V.bl true, V.non, V.str (NumZ.strZ (.int o)), V.ref t1, V.ref L1], ∃ c, Sh (hid [d, l] A3) x c ∧ Fit (2 ^ 120) 300 2 c := by
      intro x hx
      simp only [List.mem_cons, List.not_mem_nil, or_false] at hx
      have p102 : (2 : Nat) ^ 102 = 5070602400912917605986812821504 := by decide +kernel
      have p100 : (2 : Int) ^ 100 = 1267650600228229401496703205376 := by decide +kernel
      have tn1 := tn0.2
      have tn00 := tn0.1
      have g00 := g0.1
      have g01 := g0.2
      rw [p100] at tn1
      rcases hx with rfl | rfl | rfl | rfl | rfl | rfl | rfl | rfl | rfl | rfl
      · exact ⟨_, .int _, ifit _ (by rw [p102]; omega)⟩
      · exact ⟨_, .int _, ifit _ (by rw [p102]; omega)⟩
      · exact ⟨_, .int _, ifit _ (by rw [p102]; omega)⟩
      · exact ⟨_, .int _, ifit _ (by rw [p102]; omega)⟩
      · exact ⟨_, .int _, ifit _ (by rw [p102]; omega)⟩
      · exact ⟨_, .bl _, ⟨by decide +kernel, by decide +kernel, by decide +kernel⟩⟩
      · exact ⟨_, .non, ⟨by decide +kernel, by decide +kernel, by decide +kernel⟩⟩
      · refine ⟨_, .str _, fit_strZ (k := 20) (i := o) rfl (by decide) ?_ (by decide)⟩
        by_cases z : o = 0
        · rw [z]; decide
        · exact (Nat.log2_lt (by omega)).mpr (Nat.lt_of_le_of_lt (show o.natAbs ≤ 1300 by omega) (by decide +kernel))
      · exact ⟨.tuple [.int o], .tup (hidT D3 (a3 _ _ (a2 _ _ e1))) (.cons (.int o) .nil), (Fit.tup (FitL.one ofit)).mono (Nat.le_refl _) (by decide) (by decide)⟩
      · exact ⟨.list [.int o], .lst (hidL (a3 _ _ e2) oL.1 oL.2) xL (.cons (.int o) .nil), (Fit.lst (FitL.one ofit)).mono (Nat.le_refl _) (by decide) (by decide)⟩
    obtain ⟨vv, hat, cc, shc, fc⟩ := pickP each w0 w1
    refine ⟨_, rfl, lp, _, _, vv, rfl, rfl, SqL.of e3, hat, ?_⟩
    have hp3 := a23 _ _ hp2
    refine ⟨.ref p, rfl, .int (k : Nat), rfl, (k : Int), rfl, slA hp3 fun p1 B1 b1 f1 => ?_⟩
    rw [cut_to, ← List.map_take] at f1
    refine ⟨vv, rfl, sl1, fun p2 np2 => ?_⟩
    have b2 := same_upd (o := (HO.tup [vv])) np2
    have f2 : upd B1 p2 (HO.tup [vv]) p2 = some (HO.tup [vv]) := upd_same
    generalize upd B1 p2 (HO.tup [vv]) = B2 at b2 f2 ⊢
    refine catA (b2 _ _ f1) f2 (by rw [List.length_map, List.length_take]; exact Nat.le_trans (show min k xs.length + 1 ≤ 500 by omega) (by decide)) fun p3 B3 b3 f3 => ?_
    have b13 := b1.trans (b2.trans b3)
    refine ⟨.ref p, rfl, _, rfl, _, _, rfl, rfl, ((k + 1 : Nat) : Int), rfl, slAn (b13 _ _ hp3) fun p4 B4 b4 f4 => ?_⟩
    rw [cut_from, ← List.map_drop] at f4
    refine catA (b4 _ _ f3) f4 (by rw [List.length_append, List.length_map, List.length_map, List.length_take, List.length_drop]; exact Nat.le_trans (show min k xs.length + 1 + (xs.length - (k + 1)) ≤ 1000 by omega) (by decide)) fun p5 B5 b5 f5 => ?_
    have b15 := b13.trans (b4.trans b5)
    have D5 := D3.same b15
    have fi : ∀ zs : List Int, (∀ x ∈ zs, x ∈ xs) → zs.length ≤ 400 → FitL (2 ^ 120) 4800 2 (zs.map PyData.int) := fun zs hz l4 => by
      have f := own_fit (p := zs) fun x hx => x13 x (hz x hx)
      exact ⟨f.1, Nat.le_trans f.2.1 (by omega), Nat.le_trans f.2.2 (by decide)⟩
    refine q _ B5 ((D3.same b15).mono (by omega)) (fr02.trans (Fr.of (a23.trans b15))) ⟨.tuple ((xs.take k).map PyData.int ++ [cc] ++ (xs.drop (k + 1)).map PyData.int), .tup (hidT D5 f5) ?_, ?_, fun ds e => ?_⟩
    · exact ((sh_ints _ _).append (.cons (shc.same (hid_same b15)) .nil)).append (sh_ints _ _)
    · have f := Fit.tup (((fi (xs.take k) (fun x hx => List.mem_of_mem_take hx) (by rw [List.length_take]; omega)).app (FitL.one fc)).app (fi (xs.drop (k + 1)) (fun x hx => List.mem_of_mem_drop hx) (by rw [List.length_drop]; omega)))
      exact f.mono (Nat.le_refl _) (by decide) (by decide)
    · rw [← PyData.tuple.inj e, List.length_append, List.length_append, List.length_map, List.length_map, List.length_take, List.length_drop]
      show min k xs.length + 1 + (xs.length - (k + 1)) ≤ 4000
      omega

end
end Gk

set_option Elab.async false
set_option linter.all false
set_option maxRecDepth 100000
set_option maxHeartbeats 1000000
set_option pp.maxSteps 1500
set_option pp.deepTerms false
namespace Gk
open PySem PySem.Spec PyProof.Rows L2
section
variable {P : Program} {w : World} {K : PySem.W.Frag} {mg : Str → Option Value} {base : Heap}
/-! ### sum(t, ()), t a tuple of tuples -/
namespace SumT
open PySem PySem.Spec PyProof.Rows L2
theorem args_sum2 (a b : Value) : argsOk "sum" ⟨[a, b], []⟩ := by unfold argsOk; kernel_rfl
theorem sub_tup_str : isSubtype (.type "tuple") (.type "str") = pure false := by rw [isSubtype_type]; kernel_rfl
theorem sub_tup_bytes : isSubtype (.type "tuple") (.type "bytes") = pure false := by rw [isSubtype_type]; kernel_rfl
theorem sub_tup_bytearray : isSubtype (.type "tuple") (.type "bytearray") = pure false := by rw [isSubtype_type]; kernel_rfl
section
variable {prog : Program} {w : World} {A : Around}
/-- what has been summed so far stands at c: it is the start, one of the parts, or new -/
def Good (base : Nat) (e0 : Addr) (bs : List Addr) (wss : List (List Value)) (c : Addr) (ws : List Value) : Prop := (c = e0 ∧ ws = []) ∨ (∃ j : Nat, bs[j]? = some c ∧ wss[j]? = some ws) ∨ base ≤ c
theorem loop {R : Result → Shared → Prop} {I S t e0 : Addr} {bs : List Addr} {wss : List (List Value)} {base : Nat} (hh : A.handled = none) (hIt : t ≠ I) (hSI : S ≠ I) (hSt : S ≠ t) (hbS : base ≤ S) (hl : bs.length = wss.length) (hz : wss.flatten.length ≤ sizeLine) (hbI : ∀ b ∈ bs, b ≠ I ∧ b ≠ S) :
    ∀ (k i : Nat) (s : Shared) (c : Addr) (ws : List Value) (cc : Nat), wss.length - i = k → i ≤ wss.length → s.heap.IsTupleIter I t i → IsTup s.heap t (bs.map Value.ref).toArray → s.heap.get? S = some (lstObj #[.ref c] cc) → c ≠ I → c ≠ S →
      IsTup s.heap c ws.toArray → (∀ (j : Nat) (b : Addr) (us : List Value), bs[j]? = some b → wss[j]? = some us → IsTup s.heap b us.toArray) → ws = (wss.take i).flatten → Good base e0 bs wss c ws →
      (∀ h' tk c', (∀ b o, b ≠ I → b ≠ S → s.heap.get? b = some o → h'.get? b = some o) → IsTup h' c' wss.flatten.toArray → Good base e0 bs wss c' wss.flatten → R (.ok (.ret (.ref c'))) { s with heap := h', toks := tk }) →
      codeAny (model prog w) A (.builtin "sum.loop" ⟨[.ref I, .ref S, rawInt 2, rawInt 0], []⟩) R s := by
  intro k
  have W := Walks.tuple (prog := prog) (w := w) (A := A.in1) hh I t hIt (bs.map Value.ref).toArray
  have hsz : (bs.map Value.ref).toArray.size = wss.length := by simp [hl]
  rw [hsz] at W
  have tupKeep : ∀ {h h' : Heap} {b : Addr} {xs : Array Value}, IsTup h b xs → (∀ o, h.get? b = some o → h'.get? b = some o) → IsTup h' b xs := fun {h h' b xs} x kp => by
    obtain ⟨o, ho, r⟩ := x
    exact ⟨o, kp o ho, r⟩
  induction k with
  | zero =>
    intro i s c ws cc hk hi hit htp hS cI cS hc hp e1 hg hR
    have hin : i = wss.length := by omega
    subst hin
    refine codeAny_builtin F.entry_sum_loop ?_
    rw [Around.under_plainId F.plain_sum_loop _]
    show wpAny _ A.in1 (seqItems? (.ref S) >>= _) _ _ s
    refine wpAny_bind (wpAny_seqItems hS rfl ?_)
    show wpAny _ A.in1 (tryCatch (pyNext (.ref I)) _ >>= _) _ _ s
    refine wpAny_bind (wpAny_tryCatch (W.done s _ _ ⟨hit, htp⟩ fun h' tk hk' => ?_))
    rw [List.take_length] at e1
    subst e1
    exact wpAny_pure (hR h' tk c (fun b o h1 _ e => hk' b o (by simpa using h1) e) (tupKeep hc fun o e => hk' c o (by simpa using cI) e) hg)
  | succ k ih =>
    intro i s c ws cc hk hi hit htp hS cI cS hc hp e1 hg hR
    have hlt : i < wss.length := by omega
    obtain ⟨b, hb⟩ : ∃ b, bs[i]? = some b := ⟨_, List.getElem?_eq_getElem (by omega)⟩
    obtain ⟨us, hu⟩ : ∃ us, wss[i]? = some us := ⟨_, List.getElem?_eq_getElem hlt⟩
    have enext : (wss.take (i + 1)).flatten = ws ++ us := by
      rw [List.take_add_one, hu, List.flatten_append, e1]
      show _ ++ [us].flatten = _
      simp
    have small : ws.length + us.length ≤ sizeLine := by
      have h1 : (wss.take (i + 1)).flatten.length ≤ wss.flatten.length := by
        conv => rhs; rw [← List.take_append_drop (i + 1) wss, List.flatten_append, List.length_append]
        omega
      rw [enext, List.length_append] at h1
      omega
    refine codeAny_builtin F.entry_sum_loop ?_
    rw [Around.under_plainId F.plain_sum_loop _]
    show wpAny _ A.in1 (seqItems? (.ref S) >>= _) _ _ s
    refine wpAny_bind (wpAny_seqItems hS rfl ?_)
    show wpAny _ A.in1 (tryCatch (pyNext (.ref I)) _ >>= _) _ _ s
    refine wpAny_bind (wpAny_tryCatch (W.item i s _ _ hlt ⟨hit, htp⟩ fun v h' tk hP hst' hk' => ?_))
    have ev : v = .ref b := by
      have : (bs.map Value.ref)[i]? = some v := by simpa using hP
      rw [List.getElem?_map, hb] at this
      exact (Option.some.inj this).symm
    subst ev
    have kI : ∀ b o, b ≠ I → s.heap.get? b = some o → h'.get? b = some o := fun b o n e => hk' b o (by simpa using n) e
    have hS' := kI S _ hSI hS
    have hc' : IsTup h' c ws.toArray := tupKeep hc fun o e => kI c o cI e
    have hp' : ∀ (j : Nat) (b : Addr) (us : List Value), bs[j]? = some b → wss[j]? = some us → IsTup h' b us.toArray := fun j b us h1 h2 => tupKeep (hp j b us h1 h2) fun o e => kI b o (hbI b (List.mem_of_getElem? h1)).1 e
    have hb' := hp' i b us hb hu
    have key : ∀ (c2 : Addr) (h2 : Heap) (ws2 : List Value), ws2 = ws ++ us → (∀ b o, h'.get? b = some o → h2.get? b = some o) → IsTup h2 c2 ws2.toArray → c2 ≠ I → c2 ≠ S → Good base e0 bs wss c2 ws2 →
        wpAny (model prog w) A.in1 (updateSeq S (fun _ => #[Value.ref c2]) >>= fun _ => letGo [.ref c, .ref b] >>= fun _ => (updateSeq S (fun _ => #[Value.ref c2]) >>= fun _ => again (.builtin "sum.loop" ⟨[.ref I, .ref S, rawInt 2, rawInt 0], []⟩)))
          (fun fin s' => match fin with
            | .done f => R (.ok f) s'
            | .again c' => c'.quiet = true ∧ codeAny (model prog w) A c' R s') (fun e s' => R (.error e) s') { s with heap := h2, toks := tk } := by
      intro c2 h2 ws2 e2 k2 hc2 c2I c2S g2
      have hS2 := k2 _ _ hS'
      refine wpAny_bind (wpAny_updateSeq hS2 rfl ?_)
      have hS3 := Heap.get?_update_self (Obj.mapSeq (fun _ => #[Value.ref c2])) hS2 rfl
      refine wpAny_bind (wpAny_letGo ?_)
      refine wpAny_bind (wpAny_updateSeq hS3 rfl ?_)
      have hS4 := Heap.get?_update_self (Obj.mapSeq (fun _ => #[Value.ref c2])) hS3 rfl
      have k4 : ∀ b o, b ≠ S → h2.get? b = some o → ((h2.update S (Obj.mapSeq (fun _ => #[Value.ref c2]))).update S (Obj.mapSeq (fun _ => #[Value.ref c2]))).get? b = some o := fun b o n e => (Heap.get?_update_other _ _ (Ne.symm n)).trans ((Heap.get?_update_other _ _ (Ne.symm n)).trans e)
      have st4 := W.frame _ _ _ hst' fun b hb o e => k4 b o (fun z => by
        rw [z] at hb
        rcases List.mem_cons.mp hb with z | z
        · exact hSI z
        · exact hSt (List.mem_singleton.mp z)) (k2 b o e)
      refine wpAny_pure ⟨plainId_quiet F.plain_sum_loop _, ih (i + 1) _ c2 ws2 _ (by omega) hlt st4.1 st4.2 hS4 c2I c2S (tupKeep hc2 fun o e => k4 _ o c2S e) (fun j b us h1 h3 => tupKeep (hp' j b us h1 h3) fun o e => k4 _ o (hbI b (List.mem_of_getElem? h1)).2 (k2 _ _ e)) (by rw [enext, e2]) g2 fun h'' tk'' c' kk tt gg => ?_⟩
      exact hR h'' tk'' c' (fun b o n1 n2 e => kk b o n1 n2 (k4 b o n2 (k2 b o (kI b o n1 e)))) tt gg
    show wpAny _ A.in1 ((holding [.ref b] (binaryOp .Add (.ref c) (.ref b))).attempt >>= _) _ _ _
    refine wpAny_bind (wpAny_attempt (wpAny_holding ?_))
    by_cases hw : ws = []
    · subst hw
      refine L2.cat_tup0 (s := { s with heap := h', toks := tk }) hc' hb' ?_
      exact key b h' us rfl (fun _ _ e => e) hb' (hbI b (List.mem_of_getElem? hb)).1 (hbI b (List.mem_of_getElem? hb)).2 (.inr (.inl ⟨i, hb, hu⟩))
    · refine HT.cat_tup (s := { s with heap := h', toks := tk }) hc' hb' hw (fun z => ?_) (fun z => ?_) small
      · exact key c h' ws (by rw [z, List.append_nil]) (fun _ _ e => e) hc' cI cS hg
      · have hSl := Heap.lt_size hS'
        obtain ⟨oI, hoI, _⟩ := hst'.1
        have hIl := Heap.lt_size hoI
        refine key h'.objs.size (h'.push { cls := .type "tuple", data := .seq (ws ++ us).toArray }) (ws ++ us) rfl (fun b o e => Heap.get?_push_of_some _ e) (IsTup.new _ _) (Nat.ne_of_gt hIl) (Nat.ne_of_gt hSl) (.inr (.inr ?_))
        exact Nat.le_trans hbS (Nat.le_of_lt hSl)
end
def rSumT (K : PySem.W.Frag) : List V → Hp → VK → Prop := fun vs H Q => ∃ (t e : Addr) (bs : List Addr) (xss : List (List V)), vs = [.ref t, .ref e] ∧ H t = some (.tup (bs.map V.ref)) ∧ H e = some (.tup []) ∧ bs.length = xss.length ∧ (∀ (j : Nat) (b : Addr) (xs : List V), bs[j]? = some b → xss[j]? = some xs → H b = some (.tup xs)) ∧ xss.flatten.length ≤ sizeLine ∧
  ∀ p H', Same H H' → H' p = some (.tup xss.flatten) → Q (.ref p) H'
theorem vals_inj : ∀ {xs ys : List V} {us : List Value}, Vals xs us → Vals ys us → xs = ys
  | [], [], _, _, _ => rfl
  | [], _ :: _, _, .nil, h => by cases h
  | _ :: _, [], _, .cons _ _, h => by cases h
  | x :: r, y :: t, _, .cons a b, h => by
    cases h with
    | cons c d => rw [RelV.inj a c, vals_inj b d]
theorem vals_refs : ∀ {bs : List Addr} {us : List Value}, Vals (bs.map V.ref) us → us = bs.map Value.ref
  | [], _, .nil => rfl
  | b :: r, _, .cons h t => by
    cases h
    rw [List.map_cons, vals_refs t]
theorem vals_flat : ∀ {xss : List (List V)} {wss : List (List Value)}, xss.length = wss.length → (∀ (j : Nat) (xs : List V) (ws : List Value), xss[j]? = some xs → wss[j]? = some ws → Vals xs ws) → Vals xss.flatten wss.flatten
  | [], [], _, _ => .nil
  | xs :: r, ws :: r', hl, h => by
    rw [List.flatten_cons, List.flatten_cons]
    exact (h 0 xs ws rfl rfl).append (vals_flat (by simpa using hl) fun j a b h1 h2 => h (j + 1) a b h1 h2)
section
variable {X : Cx}
theorem parts {pins : List (Addr × Obj)} {σ : L2.St} {H : Hp} {s : Shared} (I : Inv X pins σ H s) : ∀ (bs : List Addr) (xss : List (List V)), bs.length = xss.length → (∀ (j : Nat) (b : Addr) (xs : List V), bs[j]? = some b → xss[j]? = some xs → SqT X.K H b xs) →
    ∃ wss : List (List Value), wss.length = xss.length ∧ (∀ (j : Nat) (xs : List V) (ws : List Value), xss[j]? = some xs → wss[j]? = some ws → Vals xs ws) ∧ ∀ (j : Nat) (b : Addr) (ws : List Value), bs[j]? = some b → wss[j]? = some ws → IsTup s.heap b ws.toArray
  | [], [], _, _ => ⟨[], rfl, fun j xs ws h => by simp at h, fun j b ws h => by simp at h⟩
  | b :: r, xs :: r', hl, h => by
    obtain ⟨wss, h1, h2, h3⟩ := parts I r r' (by simpa using hl) fun j a b z1 z2 => h (j + 1) a b z1 z2
    obtain ⟨its, rv, p, _⟩ := I.tuple (h 0 b xs rfl rfl)
    refine ⟨its :: wss, by rw [List.length_cons, List.length_cons, h1], fun j ys ws e1 e2 => ?_, fun j c ws e1 e2 => ?_⟩
    · cases j with
      | zero =>
        cases Option.some.inj e1
        cases Option.some.inj e2
        exact rv
      | succ j => exact h2 j ys ws e1 e2
    · cases j with
      | zero =>
        cases Option.some.inj e1
        cases Option.some.inj e2
        exact p
      | succ j => exact h3 j c ws e1 e2
theorem cr_sumT (hcalm : X.calm = true) : CallR X (.builtin "sum") (rSumT X.K) := by
  intro pins s σ H vs us Q I r h
  obtain ⟨t, e, bs, xss, rfl, ht, he, hl, hp, hz, q⟩ := h
  obtain ⟨its, rv, pt, _⟩ := I.tuple (SqT.of (K := X.K) ht)
  obtain ⟨es, re, pe, _⟩ := I.tuple (SqT.of (K := X.K) he)
  cases re
  cases r with
  | cons r1 r2 =>
  cases r2 with
  | cons r3 r4 =>
  cases r4
  cases r1
  cases r3
  have ei := vals_refs rv
  subst ei
  obtain ⟨wss, w1, w2, w3⟩ := parts I bs xss hl fun j b xs h1 h2 => SqT.of (hp j b xs h1 h2)
  have vf : Vals xss.flatten wss.flatten := vals_flat w1.symm w2
  have eb : e ≠ s.heap.objs.size := by
    obtain ⟨o, ho, _⟩ := id pe
    exact Nat.ne_of_lt (Heap.lt_size ho)
  have tb : t ≠ s.heap.objs.size := by
    obtain ⟨o, ho, _⟩ := id pt
    exact Nat.ne_of_lt (Heap.lt_size ho)
  refine call_function_tree F.kind_sum F.plain_sum F.entry_sum (args_sum2 _ _) ?_
  unfold Builtin.«sum»
  simp only [List.length_cons, List.length_nil]
  rw [if_neg (by decide)]
  refine wpAny_bind (wpAny_of_eq (show Builtin.Builtins.bindParams "sum" ["start"] 0 ⟨[.ref e], []⟩ = pure [some (.ref e)] from rfl) ?_)
  refine wpAny_bind (wpAny_pyIter_tuple (show s.heap.IsTuple t _ from pt) ?_)
  refine wpAny_bind (wpAny_pure ?_)
  simp only [List.forIn_cons, List.forIn_nil]
  have kp : ∀ b o, s.heap.get? b = some o → (s.heap.push { cls := .type "tuple_iterator", data := .fields #[.ref t, .int 0 0] }).get? b = some o := fun b o z => Heap.get?_push_of_some _ z
  have pe1 : IsTup (s.heap.push { cls := .type "tuple_iterator", data := .fields #[.ref t, .int 0 0] }) e ([] : List Value).toArray := by
    obtain ⟨o, ho, r⟩ := pe
    exact ⟨o, kp _ _ ho, r⟩
  have hTe : Shared.TypeIs { s with heap := s.heap.push { cls := .type "tuple_iterator", data := .fields #[.ref t, .int 0 0] } } (.ref e) "tuple" := IsTup.typeIs (s := { s with heap := _ }) pe1
  refine wpAny_bind (wpAny_bind (wpAny_bind (wpAny_isInstance (T := "tuple") (b := false) hTe sub_tup_str ?_)))
  simp only [Bool.false_eq_true, if_false]
  refine wpAny_pure (wpAny_bind (wpAny_bind (wpAny_isInstance (T := "tuple") (b := false) hTe sub_tup_bytes ?_)))
  simp only [Bool.false_eq_true, if_false]
  refine wpAny_pure (wpAny_bind (wpAny_bind (wpAny_isInstance (T := "tuple") (b := false) hTe sub_tup_bytearray ?_)))
  simp only [Bool.false_eq_true, if_false]
  refine wpAny_pure (wpAny_pure ?_)
  refine wpAny_bind (wpAny_newObj_type ?_)
  have kp2 : ∀ b o, s.heap.get? b = some o → ((s.heap.push { cls := .type "tuple_iterator", data := .fields #[.ref t, .int 0 0] }).push { cls := .type "list", data := .seq [Value.ref e].toArray }).get? b = some o := fun b o z => Heap.get?_push_of_some _ (kp b o z)
  have hsz : (s.heap.push { cls := .type "tuple_iterator", data := .fields #[.ref t, .int 0 0] }).objs.size = s.heap.objs.size + 1 := Heap.size_push _ _
  have ISne : (s.heap.push { cls := .type "tuple_iterator", data := .fields #[.ref t, .int 0 0] }).objs.size ≠ s.heap.objs.size := by rw [hsz]; exact Nat.succ_ne_self _
  have bl : ∀ b ∈ bs, b < s.heap.objs.size := fun b hb => by
    obtain ⟨j, hj⟩ := List.getElem?_of_mem hb
    obtain ⟨ws, hws⟩ : ∃ ws, wss[j]? = some ws := ⟨_, List.getElem?_eq_getElem (by have := (List.getElem?_eq_some_iff.mp hj).1; omega)⟩
    obtain ⟨o, ho, _⟩ := w3 j b ws hj hws
    exact Heap.lt_size ho
  have tk : ∀ {b : Addr} {xs : Array Value}, IsTup s.heap b xs → IsTup ((s.heap.push { cls := .type "tuple_iterator", data := .fields #[.ref t, .int 0 0] }).push { cls := .type "list", data := .seq [Value.ref e].toArray }) b xs := fun ⟨o, ho, r⟩ => ⟨o, kp2 _ _ ho, r⟩
  have hIl : s.heap.objs.size < (s.heap.push { cls := .type "tuple_iterator", data := .fields #[.ref t, .int 0 0] }).objs.size := by rw [hsz]; exact Nat.lt_succ_self _
  have tl : t < s.heap.objs.size := by
    obtain ⟨o, ho, _⟩ := id pt
    exact Heap.lt_size ho
  have el : e < s.heap.objs.size := by
    obtain ⟨o, ho, _⟩ := id pe
    exact Heap.lt_size ho
  refine wpAny_pure ⟨plainId_quiet F.plain_sum_loop _, loop (base := s.heap.objs.size) (t := t) (e0 := e) (bs := bs) (wss := wss) (I.ok.hd hcalm) tb ISne (Nat.ne_of_gt (Nat.lt_trans tl hIl)) (Nat.le_of_lt hIl) (by omega) (by rw [← vf.length]; exact hz) (fun b hb => ⟨Nat.ne_of_lt (bl b hb), Nat.ne_of_lt (Nat.lt_trans (bl b hb) hIl)⟩) _ 0 _ e [] 0 rfl (Nat.zero_le _)
    ⟨_, Heap.get?_push_of_some _ (Heap.get?_push_size _ rfl), rfl, rfl⟩ (tk pt) (Heap.get?_push_size _ rfl) eb (Nat.ne_of_lt (Nat.lt_trans el hIl)) (tk pe) (fun j b us h1 h2 => tk (w3 j b us h1 h2)) rfl (.inl ⟨rfl, rfl⟩) fun h' tk' c' kk tt gg => ?_⟩
  have kk' : ∀ b o, s.heap.get? b = some o → h'.get? b = some o := fun b o z => kk b o (Nat.ne_of_lt (Heap.lt_size z)) (Nat.ne_of_lt (Nat.lt_trans (Heap.lt_size z) hIl)) (kp2 b o z)
  rcases gg with ⟨rfl, hnil⟩ | ⟨j, hj, hw⟩ | hnew
  · refine ⟨.ref c', H, I.kept kk', rfl, q c' H (Same.refl _) ?_⟩
    have : xss.flatten = [] := by
      have := vf.length
      rw [hnil] at this
      exact List.eq_nil_of_length_eq_zero this
    rw [this]
    exact he
  · obtain ⟨xs, hx⟩ : ∃ xs, xss[j]? = some xs := ⟨_, List.getElem?_eq_getElem (by have := (List.getElem?_eq_some_iff.mp hw).1; omega)⟩
    refine ⟨.ref c', H, I.kept kk', rfl, q c' H (Same.refl _) ?_⟩
    have hv := w2 j xs _ hx hw
    have : xs = xss.flatten := vals_inj hv vf
    rw [← this]
    exact hp j c' xs hj hx
  · exact ⟨.ref c', upd H c' (.tup xss.flatten), I.laid (t' := tk') kk' hnew ⟨hz, _, vf, tt⟩, rfl, q c' _ (same_upd (I.hok.fresh hnew)) upd_same⟩
end
end SumT

/-! ### a ledger otherwise -/
def Short (c : PyData) : Prop := ∀ dss, c = .tuple dss → ∀ p ∈ dss, ∀ ds, p = .tuple ds → ds.length ≤ 4000
theorem hd_gd {p : PyData} (h : gd (2 ^ 120) p = true) : hdD p ≤ 10 ^ 39 := by
  cases p with
  | tuple ds =>
    cases ds with
    | nil => exact Nat.zero_le _
    | cons x r =>
      cases x with
      | int i =>
        have h : (decide (i.natAbs ≤ 2 ^ 120) && gds (2 ^ 120) r) = true := h
        have k := of_decide_eq_true (Bool.and_eq_true_iff.mp h).1
        show i.toNat ≤ 10 ^ 39
        have : i.toNat ≤ i.natAbs := by omega
        exact Nat.le_trans (Nat.le_trans this k) (by decide +kernel)
      | _ => exact Nat.zero_le _
  | _ => exact Nat.zero_le _
theorem led_of {c : PyData} (f : gd (2 ^ 120) c = true) (s : Short c) : LedP c := fun dss e p hp => by
  refine ⟨s dss e p hp, hd_gd ?_⟩
  subst e
  exact gds_iff.mp f p hp
/-- what a spoilt ledger may be -/
def LedG (d l : Addr) (H : Hp) (v : V) : Prop := ∃ c, Sh (hid [d, l] H) v c ∧ Fit (2 ^ 120) 300000 8 c ∧ Short c
theorem rows_fit {pss : List (List Int)} (h : ∀ p ∈ pss, OwnP p) : FitL (2 ^ 120) (4801 * pss.length) 1 (pss.map rowD) := fitg_map (n := 4800) pss fun p hp => row_fit (h p hp)
theorem rows_short {pss : List (List Int)} (h : ∀ p ∈ pss, OwnP p) : ∀ p ∈ pss.map rowD, ∀ ds, p = .tuple ds → ds.length ≤ 4000 := fun p hp ds e => by
  obtain ⟨q, hq, rfl⟩ := List.mem_map.mp hp
  rw [← PyData.tuple.inj e, List.length_map]
  have := (h q hq).2.1
  omega
theorem cut_lastT {xs : List V} : cutV xs none (some (-1)) = xs.take (xs.length - 1) := by
  unfold cutV
  have e : HT.sIx xs.length xs.length (some (-1)) = xs.length - 1 := by
    unfold HT.sIx
    simp
    omega
  rw [HT.sIx_none, e, List.drop_zero, Nat.sub_zero]
theorem TkAll.dropL {H : Hp} : ∀ (k : Nat) {vs : List V} {ds : List PyData}, TkAll H vs ds → TkAll H (vs.drop k) (ds.drop k)
  | 0, _, _, h => h
  | k + 1, _, _, .nil => .nil
  | k + 1, _, _, .cons _ t => t.dropL k
theorem rows_refs {H : Hp} : ∀ {us : List V} {pss : List (List Int)}, TkAll H us (pss.map rowD) → ∃ bs : List Addr, us = bs.map V.ref ∧ bs.length = pss.length ∧ ∀ (j : Nat) (b : Addr) (q : List Int), bs[j]? = some b → pss[j]? = some q → H b = some (.tup (q.map V.int))
  | _, [], .nil => ⟨[], rfl, rfl, fun j b q h => by cases h⟩
  | _, q :: r, .cons h t => by
    obtain ⟨a, rfl, ha⟩ := Tk.row_inv h
    obtain ⟨bs, rfl, l, all⟩ := rows_refs t
    refine ⟨a :: bs, rfl, by rw [List.length_cons, List.length_cons, l], fun j b q' hb hq => ?_⟩
    cases j with
    | zero =>
      cases hb
      cases hq
      exact ha
    | succ j => exact all j b q' hb hq
theorem flat_len : ∀ {pss : List (List Int)}, (∀ p ∈ pss, OwnP p) → pss.flatten.length ≤ 400 * pss.length
  | [], _ => Nat.le_refl _
  | p :: r, h => by
    have a := (h p List.mem_cons_self).2.1
    have b := flat_len (pss := r) fun x hx => h x (List.mem_cons_of_mem _ hx)
    rw [List.flatten_cons, List.length_append, List.length_cons]
    omega
theorem own_sub {pss qs : List (List Int)} (h : ∀ p ∈ pss, OwnP p) (s : ∀ q ∈ qs, q ∈ pss) : ∀ q ∈ qs, OwnP q := fun q hq => h q (s q hq)
theorem part_row {d l : Addr} {n : Int} {H : Hp} {v : V} {q : List Int} (D : DeckE H d l n) (t : Tk H v (rowD q)) (o : OwnP q) : PartG d l H v :=
  ⟨rowD q, t.shE D (noL_row q), (row_fit o).mono (Nat.le_refl _) (by decide) (by decide), fun ds e => by rw [← PyData.tuple.inj e, List.length_map]; have := o.2.1; omega⟩
theorem part_ints' {d l : Addr} {n : Int} {H : Hp} {p : Addr} {zs : List Int} (D : DeckE H d l n) (h : H p = some (.tup (zs.map V.int))) (b : ∀ x ∈ zs, 0 ≤ x ∧ x ≤ 1300) (z : zs.length ≤ 900) : PartG d l H (.ref p) :=
  ⟨rowD zs, .tup (hidT D h) (sh_ints _ _), (Fit.tup (own_fit b)).mono (Nat.le_refl _) (by omega) (by decide), fun ds e => by rw [← PyData.tuple.inj e, List.length_map]; omega⟩
theorem led_put {d l : Addr} {n : Int} {H : Hp} {p : Addr} {us : List V} {pss : List (List Int)} {k : Nat} {vv : V} (D : DeckE H d l n) (h : H p = some (.tup (us.take k ++ [vv] ++ us.drop (k + 1)))) (tus : TkAll H us (pss.map rowD)) (own : ∀ q ∈ pss, OwnP q) (p40 : pss.length ≤ 40) (pg : PartG d l H vv) : LedG d l H (.ref p) := by
  obtain ⟨c, sc, fc, lc⟩ := pg
  have rf := rows_fit own
  have r3 : FitL (2 ^ 120) (4801 * 40) 4 (pss.map rowD) := ⟨rf.1, Nat.le_trans rf.2.1 (Nat.mul_le_mul_left _ p40), Nat.le_trans rf.2.2 (by decide)⟩
  have hD := hidT D h
  have t1 := tus.shE D (noL_rowDs pss)
  refine ⟨.tuple ((pss.map rowD).take k ++ [c] ++ (pss.map rowD).drop (k + 1)), .tup hD (((t1.take k).append (.cons sc .nil)).append (t1.drop (k + 1))), ?_, fun dss e x hx ds ed => ?_⟩
  · have f := (FitL.one fc)
    have e : (pss.map rowD).take k ++ (pss.map rowD).drop (k + 1) = (pss.take k ++ pss.drop (k + 1)).map rowD := by rw [List.map_append, List.map_take, List.map_drop]
    have g := rows_fit (pss := pss.take k ++ pss.drop (k + 1)) fun q hq => by
      rcases List.mem_append.mp hq with z | z
      · exact own q (List.mem_of_mem_take z)
      · exact own q (List.mem_of_mem_drop z)
    rw [← e] at g
    have lg : (pss.take k ++ pss.drop (k + 1)).length ≤ 40 := by
      rw [List.length_append, List.length_take, List.length_drop]
      omega
    obtain ⟨ga, gb⟩ := g.parts
    have w1 : PyData.weightAll ((pss.map rowD).take k) + PyData.weightAll ((pss.map rowD).drop (k + 1)) ≤ 4801 * 40 := by
      have := g.2.1
      rw [weight_app] at this
      exact Nat.le_trans this (Nat.mul_le_mul_left _ lg)
    have A : FitL (2 ^ 120) (PyData.weightAll ((pss.map rowD).take k)) 4 ((pss.map rowD).take k) := ⟨ga.1, Nat.le_refl _, Nat.le_trans ga.2.2 (by decide)⟩
    have B : FitL (2 ^ 120) (PyData.weightAll ((pss.map rowD).drop (k + 1))) 4 ((pss.map rowD).drop (k + 1)) := ⟨gb.1, Nat.le_refl _, Nat.le_trans gb.2.2 (by decide)⟩
    exact (Fit.tup ((A.app f).app B)).mono (Nat.le_refl _) (by omega) (by decide)
  · rw [← PyData.tuple.inj e] at hx
    rcases List.mem_append.mp hx with z | z
    · rcases List.mem_append.mp z with z | z
      · exact rows_short own x (List.mem_of_mem_take z) ds ed
      · rw [List.mem_singleton.mp z] at ed
        exact lc ds ed
    · exact rows_short own x (List.mem_of_mem_drop z) ds ed
theorem led_rows {d l : Addr} {n : Int} {H : Hp} {p : Addr} {vs : List V} {qs : List (List Int)} (D : DeckE H d l n) (h : H p = some (.tup vs)) (t : TkAll H vs (qs.map rowD)) (own : ∀ q ∈ qs, OwnP q) (l41 : qs.length ≤ 60) : LedG d l H (.ref p) := by
  have rf := rows_fit own
  exact ⟨.tuple (qs.map rowD), .tup (hidT D h) (t.shE D (noL_rowDs qs)), (Fit.tup rf).mono (Nat.le_refl _) (by omega) (by decide), fun dss e x hx ds ed => by
    rw [← PyData.tuple.inj e] at hx
    exact rows_short own x hx ds ed⟩
theorem LedG.fr {d l : Addr} {H H' : Hp} {v : V} (h : LedG d l H v) (f : Fr d l H H') : LedG d l H' v := by
  obtain ⟨c, a, b⟩ := h
  exact ⟨c, a.same (hidFr f), b⟩
def sp_bent (K : PySem.W.Frag) : Sp := fun vs H Q _ => ∃ (d l : Addr) (n : Int) (p : Addr) (pss : List (List Int)), vs = [.ref d, .ref p] ∧ DeckE H d l n ∧ n < 10000000 ∧ Tk H (.ref p) (.tuple (pss.map rowD)) ∧ (∀ x ∈ pss, OwnP x) ∧ 1 ≤ pss.length ∧ pss.length ≤ 40 ∧ ∀ r H', DeckE H' d l (n + 8) → Fr d l H H' → LedG d l H' r → Q r H'
theorem ok_bent (T : Tx K mg) : FnOk P w K mg base CX0 4 T.f_bent T.fd_bent ["_law_deck_here", "_law_ledger"] (sp_bent K) := by
  refine T.F_bent.ok sc_bent (fun vs H Q E h => ?_) (fun cdv A outer s H vs Q E hr h => ?_)
  · obtain ⟨d, l, n, p, pss, rfl, _⟩ := h
    rfl
  · obtain ⟨d, l, n, p, pss, rfl, D, hn, tp, own, p1, p40, q⟩ := h
    refine ⟨_, (pss_cons (ps_set (i := 2) sc_bent.nd rfl (by first | exact .inl rfl | exact .inr rfl) (pe_call (ok_draw T) (hr.mono (by decide)) (by rfl) T.g_draw T.F_draw.kp T.b_draw .nil pass0 (pa_cons (pv 0) (pa_cons pe_int pa_nil)))) (pss_cons (ps_set (i := 3) sc_bent.nd rfl (by first | exact .inl rfl | exact .inr rfl) (pe_call (ok_draw T) (hr.mono (by decide)) (by rfl) T.g_draw T.F_draw.kp T.b_draw .nil pass0 (pa_cons (pv 0) (pa_cons (pe_callB call_len_seq (by rfl) T.m_len PySem.boot_len (pa_cons (pv 1) pa_nil)) pa_nil)))) (pss_cons (ps_set (i := 4) sc_bent.nd rfl (by first | exact .inl rfl | exact .inr rfl) (pe_call (ok_draw T) (hr.mono (by decide)) (by rfl) T.g_draw T.F_draw.kp T.b_draw .nil pass0 (pa_cons (pv 0) (pa_cons (pe_callB call_len_seq (by rfl) T.m_len PySem.boot_len (pa_cons (pv 1) pa_nil)) pa_nil)))) (pss_cons (ps_set (i := 5) sc_bent.nd rfl (by first | exact .inl rfl | exact .inr rfl) (pe_ix ix_tup (pv 1) (pv 3) (fun _ _ => rfl))) (pss_cons (ps_if (pt_cmpR op_lt (pv 2) pe_int (nomark _)) (pss_one (ps_ret (pe_op op_catA (pe_op op_catA (pe_slice sl_tupA (pv 1) po_none (po_some (pv 3))) (pe_tup (pa_cons (pe_call (ok_number_bent T) (hr.mono (by decide)) (by rfl) T.g_number_bent T.F_number_bent.kp T.b_number_bent .nil pass0 (pa_cons (pv 0) (pa_cons (pv 5) pa_nil))) pa_nil))) (pe_slice sl_tupA (pv 1) (po_some (pe_op op_add (pv 3) pe_int)) po_none)))) pss_nil) (pss_cons (ps_if (pt_cmpR op_eq (pv 2) pe_int (nomark _)) (pss_cons (ps_set (i := 6) sc_bent.nd rfl (by first | exact .inl rfl | exact .inr rfl) (pe_lst (pa_cons (pe_slice sl_tupA (pv 5) po_none (po_some (pe_un un_neg pe_int))) (pa_cons (pe_op op_catA (pv 5) (pe_tup (pa_cons pe_int pa_nil))) (pa_cons (pe_slice sl_tupA (pv 5) (po_some pe_int) po_none) (pa_cons (TupRev.pe_revT (pv 5)) (pa_cons (pe_callTy NumZ.call_listN (by rfl) T.m_list (by decide +kernel) (pa_cons (pv 5) pa_nil)) (pa_cons (pe_tup (pa_cons (pv 5) pa_nil)) (pa_cons (pe_op op_catA (pv 5) (pv 5)) (pa_cons (pe_tup pa_nil) pa_nil)))))))))) (pss_one (ps_ret (pe_op op_catA (pe_op op_catA (pe_slice sl_tupA (pv 1) po_none (po_some (pv 3))) (pe_tup (pa_cons (pe_ix ix_list (pv 6) (pe_call (ok_draw T) (hr.mono (by decide)) (by rfl) T.g_draw T.F_draw.kp T.b_draw .nil pass0 (pa_cons (pv 0) (pa_cons pe_int pa_nil))) (fun _ _ => rfl)) pa_nil))) (pe_slice sl_tupA (pv 1) (po_some (pe_op op_add (pv 3) pe_int)) po_none))))) pss_nil) (pss_cons (ps_if (pt_cmpR op_eq (pv 2) pe_int (nomark _)) (pss_one (ps_ret (pe_ix ix_list (pe_lst (pa_cons (pe_op op_catA (pe_slice sl_tupA (pv 1) po_none (po_some (pv 3))) (pe_slice sl_tupA (pv 1) (po_some (pe_op op_add (pv 3) pe_int)) po_none)) (pa_cons (pe_op op_catA (pe_op op_catA (pe_slice sl_tupA (pv 1) po_none (po_some (pv 3))) (pe_tup (pa_cons (pv 5) pa_nil))) (pe_slice sl_tupA (pv 1) (po_some (pv 3)) po_none)) pa_nil))) (pe_call (ok_draw T) (hr.mono (by decide)) (by rfl) T.g_draw T.F_draw.kp T.b_draw .nil pass0 (pa_cons (pv 0) (pa_cons pe_int pa_nil))) (fun _ _ => rfl)))) pss_nil) (pss_cons (ps_if (pt_cmpR op_eq (pv 2) pe_int (nomark _)) (pss_one (ps_ret (pe_op op_catA (pe_op op_catA (pe_slice sl_tupA (pv 1) po_none (po_some (pv 3))) (pe_tup (pa_cons (pe_ix ix_tup (pv 1) (pv 4) (fun _ _ => rfl)) pa_nil))) (pe_slice sl_tupA (pv 1) (po_some (pe_op op_add (pv 3) pe_int)) po_none)))) pss_nil) (pss_one (ps_ret (pe_ix ix_list (pe_lst (pa_cons (pe_callTy NumZ.call_listN (by rfl) T.m_list (by decide +kernel) (pa_cons (pv 1) pa_nil)) (pa_cons pe_non (pa_cons (pe_tup pa_nil) (pa_cons pe_int (pa_cons pe_str (pa_cons pe_dnewK (pa_cons (pe_callB (SumT.cr_sumT rfl) (by rfl) T.m_sum (by decide +kernel) (pa_cons (pv 1) (pa_cons (pe_tup pa_nil) pa_nil))) (pa_cons (pe_tup (pa_cons (pv 1) pa_nil)) pa_nil))))))))) (pe_call (ok_draw T) (hr.mono (by decide)) (by rfl) T.g_draw T.F_draw.kp T.b_draw .nil pass0 (pa_cons (pv 0) (pa_cons pe_int pa_nil))) (fun _ _ => rfl)))))))))))), ?_⟩
    obtain ⟨p', us, e, hp, tus⟩ := id tp.tup_inv
    cases e
    have lus : us.length = pss.length := by rw [tus.length, List.length_map]
    have rf := rows_fit own
    refine ⟨.ref d, rfl, d, l, 8, _, rfl, D, by omega, by decide, by decide, fun H1 wy D1 fr1 w0 w1 => ?_⟩
    have ts1 := Ts.frE D fr1
    have hp1 := ts1 _ _ hp
    refine ⟨.ref d, rfl, .ref p, rfl, p, us, rfl, .inr (SqT.of hp1), d, l, (us.length : Int), _, rfl, D1, by omega, by omega, by omega, fun H2 k D2 fr2 k0 k1 => ?_⟩
    obtain ⟨k, rfl⟩ := Int.eq_ofNat_of_zero_le k0
    have ts2 := ts1.trans (Ts.frE D1 fr2)
    have hp2 := ts2 _ _ hp
    refine ⟨.ref d, rfl, .ref p, rfl, p, us, rfl, .inr (SqT.of hp2), d, l, (us.length : Int), _, rfl, D2, by omega, by omega, by omega, fun H3 j D3 fr3 j0 j1 => ?_⟩
    obtain ⟨j, rfl⟩ := Int.eq_ofNat_of_zero_le j0
    have ts3 := ts2.trans (Ts.frE D2 fr3)
    have hp3 := ts3 _ _ hp
    have fr03 := (fr1.trans fr2).trans fr3
    obtain ⟨uk, huk⟩ : ∃ uk, us[k]? = some uk := ⟨_, List.getElem?_eq_getElem (by omega)⟩
    obtain ⟨pk, hpk, tpk⟩ := tus.at huk
    obtain ⟨pp, rfl, hpp⟩ := tpk.row_inv
    have ok := own pk (List.mem_of_getElem? hpk)
    refine ⟨.ref p, rfl, .int (k : Nat), rfl, p, us, _, .ref pp, rfl, rfl, SqT.of hp3, atI_nat huk, ?_⟩
    have ts13 : ∀ {B1 : Hp}, Same H3 B1 → Ts H B1 := fun s => ts3.trans (Ts.same s)
    have hpp3 := ts3 _ _ hpp
    refine ⟨.int wy, rfl, _, _, rfl, rfl, _, rfl, ite2 (fun _ => ?_) (fun _ => ?_)⟩
    · skip
      refine ⟨.ref p, rfl, .int (k : Nat), rfl, (k : Int), rfl, slA hp3 fun q1 B1 b1 f1 => ?_⟩
      rw [cut_to] at f1
      have hpp1 := ts13 b1 _ _ hpp
      refine ⟨.ref d, rfl, .ref pp, rfl, d, l, _, pp, pk, rfl, D3.same b1, by omega, hpp1, ok, fun vv C1 DC frC pg => ⟨sl1, fun q2 nq2 => ?_⟩⟩
      have tsC := Ts.frE (D3.same b1) frC
      have b2 := same_upd (o := (HO.tup [vv])) nq2
      have f2 : upd C1 q2 (HO.tup [vv]) q2 = some (HO.tup [vv]) := upd_same
      generalize upd C1 q2 (HO.tup [vv]) = B2 at b2 f2 ⊢
      refine catA (b2 _ _ (tsC _ _ f1)) f2 (by rw [List.length_take]; exact Nat.le_trans (show min k us.length + 1 ≤ 500 by omega) (by decide)) fun q3 B3 b3 f3 => ?_
      refine ⟨.ref p, rfl, _, rfl, _, _, rfl, rfl, ((k + 1 : Nat) : Int), rfl, slAn (b3 _ _ (b2 _ _ (tsC _ _ (b1 _ _ hp3)))) fun q4 B4 b4 f4 => ?_⟩
      rw [cut_from] at f4
      refine catA (b4 _ _ f3) f4 (by rw [List.length_append, List.length_take, List.length_drop]; exact Nat.le_trans (show min k us.length + 1 + (us.length - (k + 1)) ≤ 1000 by omega) (by decide)) fun q5 B5 b5 f5 => ?_
      have b25 := b2.trans (b3.trans (b4.trans b5))
      have D5 := (DC).same b25
      exact q _ B5 (D5.mono (by omega)) (((fr03.trans (Fr.of b1)).trans frC).trans (Fr.of b25)) (led_put D5 f5 (tus.ts (((ts3.trans (Ts.same b1)).trans tsC).trans (Ts.same b25)) (noL_rowDs _)) own p40 (PartG.fr pg (Fr.of b25)))
    refine ⟨.int wy, rfl, rfl, _, rfl, ite2 (fun _ => ?_) (fun _ => ?_)⟩
    · obtain ⟨x1, x4, x13⟩ := id ok
      have lpk : (pk.map V.int).length = pk.length := List.length_map _
      refine ⟨.ref pp, rfl, _, rfl, (-1 : Int), rfl, slA hpp3 fun o1 G1 g1 e1 => ?_⟩
      have e1 : G1 o1 = some (.tup ((pk.take (pk.length - 1)).map V.int)) := by
        rw [e1, cut_lastT, lpk, List.map_take]
      refine ⟨.ref pp, rfl, sl1, fun o0 no0 => ?_⟩
      have g2 := same_upd (o := (HO.tup [V.int 0])) no0
      have e0 : upd G1 o0 (HO.tup [V.int 0]) o0 = some (HO.tup [V.int 0]) := upd_same
      generalize upd G1 o0 (HO.tup [V.int 0]) = G2 at g2 e0 ⊢
      refine catA (g2 _ _ (g1 _ _ hpp3)) e0 (by rw [lpk]; exact Nat.le_trans (show pk.length + 1 ≤ 1000 by omega) (by decide)) fun o2 G3 g3 e2 => ?_
      have g13 := g1.trans (g2.trans g3)
      refine ⟨.ref pp, rfl, (1 : Int), rfl, slAn (g13 _ _ hpp3) fun o3 G4 g4 e3 => ?_⟩
      have e3 : G4 o3 = some (.tup ((pk.drop 1).map V.int)) := by
        rw [e3]
        exact congrArg some (congrArg HO.tup ((cut_from (k := 1)).trans List.map_drop.symm))
      have g14 := g13.trans g4
      refine ⟨.ref pp, rfl, pp, _, rfl, SqT.of (g14 _ _ hpp3), fun o4 no4 => ?_⟩
      have g5 := same_upd (o := (HO.tup (pk.map V.int).reverse)) no4
      have e4 : upd G4 o4 (HO.tup (pk.map V.int).reverse) o4 = some (HO.tup (pk.map V.int).reverse) := upd_same
      generalize upd G4 o4 (HO.tup (pk.map V.int).reverse) = G5 at g5 e4 ⊢
      have g15 := g14.trans g5
      refine ⟨.ref pp, rfl, pp, _, rfl, SqT.of (g15 _ _ hpp3), fun o5 no5 xo5 => ?_⟩
      have g6 := same_upd (o := (HO.lst (pk.map V.int))) no5
      have e5 : upd G5 o5 (HO.lst (pk.map V.int)) o5 = some (HO.lst (pk.map V.int)) := upd_same
      generalize upd G5 o5 (HO.lst (pk.map V.int)) = G6 at g6 e5 ⊢
      have g16 := g15.trans g6
      refine ⟨.ref pp, rfl, sl1, fun o6 no6 => ?_⟩
      have g7 := same_upd (o := (HO.tup [V.ref pp])) no6
      have e6 : upd G6 o6 (HO.tup [V.ref pp]) o6 = some (HO.tup [V.ref pp]) := upd_same
      generalize upd G6 o6 (HO.tup [V.ref pp]) = G7 at g7 e6 ⊢
      have g17 := g16.trans g7
      refine ⟨.ref pp, rfl, .ref pp, rfl, catA (g17 _ _ hpp3) (g17 _ _ hpp3) (by rw [lpk]; exact Nat.le_trans (show pk.length + pk.length ≤ 1000 by omega) (by decide)) fun o7 G8 g8 e7 => ?_⟩
      have g18 := g17.trans g8
      refine ⟨Nat.zero_le _, fun o8 no8 => ?_⟩
      have g9 := same_upd (o := (HO.tup [])) no8
      have e8 : upd G8 o8 (HO.tup []) o8 = some (HO.tup []) := upd_same
      generalize upd G8 o8 (HO.tup []) = G9 at g9 e8 ⊢
      refine ⟨by show 8 ≤ sizeLine; decide, fun gL ngL => ?_⟩
      have gA0 := same_upd (o := (HO.lst [V.ref o1, V.ref o2, V.ref o3, V.ref o4, V.ref o5, V.ref o6, V.ref o7, V.ref o8])) ngL
      have hgL : upd G9 gL (HO.lst [V.ref o1, V.ref o2, V.ref o3, V.ref o4, V.ref o5, V.ref o6, V.ref o7, V.ref o8]) gL = some (HO.lst [V.ref o1, V.ref o2, V.ref o3, V.ref o4, V.ref o5, V.ref o6, V.ref o7, V.ref o8]) := upd_same
      generalize upd G9 gL (HO.lst [V.ref o1, V.ref o2, V.ref o3, V.ref o4, V.ref o5, V.ref o6, V.ref o7, V.ref o8]) = GA at gA0 hgL ⊢
      have s2 := g3.trans (g4.trans (g5.trans (g6.trans (g7.trans (g8.trans (g9.trans gA0))))))
      have gA : Same H3 GA := g18.trans (g9.trans gA0)
      have DG := D3.same gA
      have oG := (D3.same (g18.trans g9)).off ngL
      have o5o := (D3.same g15).off no5
      have hpG := gA _ _ hp3
      have each : ∀ x ∈ [V.ref o1, V.ref o2, V.ref o3, V.ref o4, V.ref o5, V.ref o6, V.ref o7, V.ref o8], PartG d l GA x := by
        intro x hx
        simp only [List.mem_cons, List.not_mem_nil, or_false] at hx
        rcases hx with rfl | rfl | rfl | rfl | rfl | rfl | rfl | rfl
        · exact part_ints' DG ((g2.trans s2) _ _ e1) (fun x hx => x13 x (List.mem_of_mem_take hx)) (by rw [List.length_take]; omega)
        · have e2' : GA o2 = some (.tup ((pk ++ [0]).map V.int)) := by rw [List.map_append]; exact (g4.trans (g5.trans (g6.trans (g7.trans (g8.trans (g9.trans gA0)))))) _ _ e2
          refine part_ints' DG e2' (fun x hx => ?_) (by rw [List.length_append]; show pk.length + 1 ≤ 900; omega)
          rcases List.mem_append.mp hx with z | z
          · exact x13 x z
          · rw [List.mem_singleton.mp z]; omega
        · exact part_ints' DG ((g5.trans (g6.trans (g7.trans (g8.trans (g9.trans gA0))))) _ _ e3) (fun x hx => x13 x (List.mem_of_mem_drop hx)) (by rw [List.length_drop]; omega)
        · have e4' : GA o4 = some (.tup (pk.reverse.map V.int)) := by rw [List.map_reverse]; exact (g6.trans (g7.trans (g8.trans (g9.trans gA0)))) _ _ e4
          exact part_ints' DG e4' (fun x hx => x13 x (List.mem_reverse.mp hx)) (by rw [List.length_reverse]; omega)
        · have f := own_fit x13
          exact ⟨.list (pk.map PyData.int), .lst (hidL ((g7.trans (g8.trans (g9.trans gA0))) _ _ e5) o5o.1 o5o.2) xo5 (sh_ints _ _), (Fit.lst f).mono (Nat.le_refl _) (by omega) (by decide), fun ds e => by cases e⟩
        · have trow : Sh (hid [d, l] GA) (.ref pp) (rowD pk) := .tup (hidT DG (gA _ _ hpp3)) (sh_ints _ _)
          exact ⟨.tuple [rowD pk], .tup (hidT DG ((g8.trans (g9.trans gA0)) _ _ e6)) (.cons trow .nil), (Fit.tup (FitL.one (row_fit ok))).mono (Nat.le_refl _) (by decide) (by decide), fun ds e => by rw [← PyData.tuple.inj e]; show 1 ≤ 4000; decide⟩
        · have e7' : GA o7 = some (.tup ((pk ++ pk).map V.int)) := by rw [List.map_append]; exact (g9.trans gA0) _ _ e7
          refine part_ints' DG e7' (fun x hx => ?_) (by rw [List.length_append]; omega)
          rcases List.mem_append.mp hx with z | z <;> exact x13 x z
        · exact part_ints' (zs := []) DG (gA0 _ _ e8) (fun x hx => by cases hx) (by decide)
      refine ⟨.ref p, rfl, .int (k : Nat), rfl, (k : Int), rfl, slA hpG fun q1 B1 b1 f1 => ?_⟩
      rw [cut_to] at f1
      refine ⟨.ref gL, rfl, .ref d, rfl, d, l, 8, _, rfl, DG.same b1, by omega, by decide, by decide, fun C1 z DC frC z0 z1 => ?_⟩
      have hgl : C1 gL = some (.lst [V.ref o1, V.ref o2, V.ref o3, V.ref o4, V.ref o5, V.ref o6, V.ref o7, V.ref o8]) := frC _ _ oG.1 oG.2 (b1 _ _ hgL)
      obtain ⟨vv, hat, pgv⟩ := pickP each z0 z1
      refine ⟨gL, _, _, vv, rfl, rfl, SqL.of hgl, hat, sl1, fun q2 nq2 => ?_⟩
      have tsC := Ts.frE (DG.same b1) frC
      have pg : PartG d l C1 vv := pgv.fr ((Fr.of b1).trans frC)
      have b2 := same_upd (o := (HO.tup [vv])) nq2
      have f2 : upd C1 q2 (HO.tup [vv]) q2 = some (HO.tup [vv]) := upd_same
      generalize upd C1 q2 (HO.tup [vv]) = B2 at b2 f2 ⊢
      refine catA (b2 _ _ (tsC _ _ f1)) f2 (by rw [List.length_take]; exact Nat.le_trans (show min k us.length + 1 ≤ 500 by omega) (by decide)) fun q3 B3 b3 f3 => ?_
      refine ⟨.ref p, rfl, _, rfl, _, _, rfl, rfl, ((k + 1 : Nat) : Int), rfl, slAn (b3 _ _ (b2 _ _ (tsC _ _ (b1 _ _ hpG)))) fun q4 B4 b4 f4 => ?_⟩
      rw [cut_from] at f4
      refine catA (b4 _ _ f3) f4 (by rw [List.length_append, List.length_take, List.length_drop]; exact Nat.le_trans (show min k us.length + 1 + (us.length - (k + 1)) ≤ 1000 by omega) (by decide)) fun q5 B5 b5 f5 => ?_
      have b25 := b2.trans (b3.trans (b4.trans b5))
      have D5 := (DC).same b25
      exact q _ B5 (D5.mono (by omega)) ((((fr03.trans (Fr.of gA)).trans (Fr.of b1)).trans frC).trans (Fr.of b25)) (led_put D5 f5 (tus.ts ((((ts3.trans (Ts.same gA)).trans (Ts.same b1)).trans tsC).trans (Ts.same b25)) (noL_rowDs _)) own p40 (PartG.fr pg (Fr.of b25)))
    refine ⟨.int wy, rfl, rfl, _, rfl, ite2 (fun _ => ?_) (fun _ => ?_)⟩
    · refine ⟨.ref p, rfl, .int (k : Nat), rfl, (k : Int), rfl, slA hp3 fun q1 B1 b1 f1 => ?_⟩
      rw [cut_to] at f1
      refine ⟨.ref p, rfl, _, rfl, _, _, rfl, rfl, ((k + 1 : Nat) : Int), rfl, slAn (b1 _ _ hp3) fun q2 B2 b2 f2 => ?_⟩
      rw [cut_from] at f2
      refine catA (b2 _ _ f1) f2 (by rw [List.length_take, List.length_drop]; exact Nat.le_trans (show min k us.length + (us.length - (k + 1)) ≤ 1000 by omega) (by decide)) fun q3 B3 b3 f3 => ?_
      have b13 := b1.trans (b2.trans b3)
      refine ⟨.ref p, rfl, .int (k : Nat), rfl, (k : Int), rfl, slA (b13 _ _ hp3) fun q4 B4 b4 f4 => ?_⟩
      rw [cut_to] at f4
      refine ⟨.ref pp, rfl, sl1, fun q5 nq5 => ?_⟩
      have b5 := same_upd (o := (HO.tup [V.ref pp])) nq5
      have f5 : upd B4 q5 (HO.tup [V.ref pp]) q5 = some (HO.tup [V.ref pp]) := upd_same
      generalize upd B4 q5 (HO.tup [V.ref pp]) = B5 at b5 f5 ⊢
      refine catA (b5 _ _ f4) f5 (by rw [List.length_take]; exact Nat.le_trans (show min k us.length + 1 ≤ 1000 by omega) (by decide)) fun q6 B6 b6 f6 => ?_
      have b16 := b13.trans (b4.trans (b5.trans b6))
      refine ⟨.ref p, rfl, .int (k : Nat), rfl, (k : Int), rfl, slAn (b16 _ _ hp3) fun q7 B7 b7 f7 => ?_⟩
      rw [cut_from] at f7
      refine catA (b7 _ _ f6) f7 (by rw [List.length_append, List.length_take, List.length_drop]; exact Nat.le_trans (show min k us.length + 1 + (us.length - k) ≤ 1000 by omega) (by decide)) fun q8 B8 b8 f8 => ?_
      refine ⟨sl2, fun gL ngL => ?_⟩
      have b9 := same_upd (o := (HO.lst [V.ref q3, V.ref q8])) ngL
      have hgL : upd B8 gL (HO.lst [V.ref q3, V.ref q8]) gL = some (HO.lst [V.ref q3, V.ref q8]) := upd_same
      generalize upd B8 gL (HO.lst [V.ref q3, V.ref q8]) = B9 at b9 hgL ⊢
      have b48 := b4.trans (b5.trans (b6.trans (b7.trans (b8.trans b9))))
      have bA : Same H3 B9 := b13.trans b48
      have D9 := D3.same bA
      have oG := (D3.same (b13.trans (b4.trans (b5.trans (b6.trans (b7.trans b8)))))).off ngL
      have tus9 : TkAll B9 us (pss.map rowD) := tus.ts (ts13 bA) (noL_rowDs _)
      refine ⟨.ref d, rfl, d, l, 2, _, rfl, D9, by omega, by decide, by decide, fun C1 z DC frC z0 z1 => ?_⟩
      have each : ∀ x ∈ [V.ref q3, V.ref q8], LedG d l B9 x := by
        intro x hx
        simp only [List.mem_cons, List.not_mem_nil, or_false] at hx
        rcases hx with rfl | rfl
        · have t : TkAll B9 (us.take k ++ us.drop (k + 1)) ((pss.take k ++ pss.drop (k + 1)).map rowD) := by
            rw [List.map_append, List.map_take, List.map_drop]
            exact (tus9.take k).append (TkAll.dropL (k + 1) tus9)
          refine led_rows D9 (b48 _ _ f3) t (fun q hq => ?_) (by rw [List.length_append, List.length_take, List.length_drop]; omega)
          rcases List.mem_append.mp hq with z | z
          · exact own q (List.mem_of_mem_take z)
          · exact own q (List.mem_of_mem_drop z)
        · have tr : Tk B9 (.ref pp) (rowD pk) := tpk.ts (ts13 bA) (noL_row pk)
          have t : TkAll B9 (us.take k ++ [V.ref pp] ++ us.drop k) ((pss.take k ++ [pk] ++ pss.drop k).map rowD) := by
            rw [List.map_append, List.map_append, List.map_take, List.map_drop]
            exact ((tus9.take k).append (.cons tr .nil)).append (TkAll.dropL k tus9)
          refine led_rows D9 (b9 _ _ f8) t (fun q hq => ?_) (by rw [List.length_append, List.length_append, List.length_take, List.length_drop]; show min k pss.length + 1 + (pss.length - k) ≤ 60; omega)
          rcases List.mem_append.mp hq with z | z
          · rcases List.mem_append.mp z with z | z
            · exact own q (List.mem_of_mem_take z)
            · rw [List.mem_singleton.mp z]; exact ok
          · exact own q (List.mem_of_mem_drop z)
      obtain ⟨vv, hat, lg⟩ := pickP each z0 z1
      exact ⟨gL, _, _, vv, rfl, rfl, SqL.of (frC _ _ oG.1 oG.2 hgL), hat, q _ C1 (DC.mono (by omega)) ((fr03.trans (Fr.of bA)).trans frC) (lg.fr frC)⟩
    refine ⟨.int wy, rfl, rfl, _, rfl, ite2 (fun _ => ?_) (fun _ => ?_)⟩
    · skip
      refine ⟨.ref p, rfl, .int (k : Nat), rfl, (k : Int), rfl, slA hp3 fun q1 B1 b1 f1 => ?_⟩
      rw [cut_to] at f1
      obtain ⟨uj, huj⟩ : ∃ uj, us[j]? = some uj := ⟨_, List.getElem?_eq_getElem (by omega)⟩
      obtain ⟨pj, hpj, tpj⟩ := tus.at huj
      refine ⟨.ref p, rfl, .int (j : Nat), rfl, p, us, _, uj, rfl, rfl, SqT.of (b1 _ _ hp3), atI_nat huj, sl1, fun q2 nq2 => ?_⟩
      have pg : PartG d l B1 uj := part_row (D3.same b1) (tpj.ts (ts3.trans (Ts.same b1)) (noL_row pj)) (own pj (List.mem_of_getElem? hpj))
      have b2 := same_upd (o := (HO.tup [uj])) nq2
      have f2 : upd B1 q2 (HO.tup [uj]) q2 = some (HO.tup [uj]) := upd_same
      generalize upd B1 q2 (HO.tup [uj]) = B2 at b2 f2 ⊢
      refine catA (b2 _ _ f1) f2 (by rw [List.length_take]; exact Nat.le_trans (show min k us.length + 1 ≤ 500 by omega) (by decide)) fun q3 B3 b3 f3 => ?_
      refine ⟨.ref p, rfl, _, rfl, _, _, rfl, rfl, ((k + 1 : Nat) : Int), rfl, slAn (b3 _ _ (b2 _ _ (b1 _ _ hp3))) fun q4 B4 b4 f4 => ?_⟩
      rw [cut_from] at f4
      refine catA (b4 _ _ f3) f4 (by rw [List.length_append, List.length_take, List.length_drop]; exact Nat.le_trans (show min k us.length + 1 + (us.length - (k + 1)) ≤ 1000 by omega) (by decide)) fun q5 B5 b5 f5 => ?_
      have b25 := b2.trans (b3.trans (b4.trans b5))
      have D5 := (D3.same b1).same b25
      exact q _ B5 (D5.mono (by omega)) ((fr03.trans (Fr.of b1)).trans (Fr.of b25)) (led_put D5 f5 (tus.ts ((ts3.trans (Ts.same b1)).trans (Ts.same b25)) (noL_rowDs _)) own p40 (PartG.fr pg (Fr.of b25)))
    refine ⟨.ref p, rfl, p, us, rfl, SqT.of hp3, fun L1 m1 xL => ?_⟩
    have g1 := same_upd (o := (HO.lst us)) m1
    have e1 : upd H3 L1 (HO.lst us) L1 = some (HO.lst us) := upd_same
    generalize upd H3 L1 (HO.lst us) = G1 at g1 e1 ⊢
    refine ⟨Nat.zero_le _, fun t1 n1 => ?_⟩
    have g2 := same_upd (o := (HO.tup [])) n1
    have e2 : upd G1 t1 (HO.tup []) t1 = some (HO.tup []) := upd_same
    generalize upd G1 t1 (HO.tup []) = G2 at g2 e2 ⊢
    intro d1 nd1
    have g3 := same_upd (o := (HO.dK [])) nd1
    have e3 : upd G2 d1 (HO.dK []) d1 = some (HO.dK []) := upd_same
    generalize upd G2 d1 (HO.dK []) = G3 at g3 e3 ⊢
    have g13 := g1.trans (g2.trans g3)
    refine ⟨.ref p, rfl, Nat.zero_le _, fun e0 ne0 => ?_⟩
    have g4 := same_upd (o := (HO.tup [])) ne0
    have e4 : upd G3 e0 (HO.tup []) e0 = some (HO.tup []) := upd_same
    generalize upd G3 e0 (HO.tup []) = G4 at g4 e4 ⊢
    have g14 := g13.trans g4
    obtain ⟨bs, ebs, lbs, hbs⟩ := rows_refs (tus.ts (ts13 g14) (noL_rowDs _))
    have fl := flat_len own
    have fle : (pss.map fun q => q.map V.int).flatten = pss.flatten.map V.int := List.map_flatten.symm
    refine ⟨p, e0, bs, pss.map fun q => q.map V.int, rfl, by rw [← ebs]; exact g14 _ _ hp3, e4, by rw [List.length_map]; exact lbs, fun jj bb xx hb hx => ?_, ?_, fun sm G5 g5 e5 => ?_⟩
    · rw [List.getElem?_map] at hx
      obtain ⟨qq, hq, rfl⟩ := Option.map_eq_some_iff.mp hx
      exact hbs jj bb qq hb hq
    · rw [fle, List.length_map]
      exact Nat.le_trans (show pss.flatten.length ≤ 16000 by omega) (by decide)
    rw [fle] at e5
    refine ⟨.ref p, rfl, sl1, fun t6 n6 => ?_⟩
    have g6 := same_upd (o := (HO.tup [V.ref p])) n6
    have e6 : upd G5 t6 (HO.tup [V.ref p]) t6 = some (HO.tup [V.ref p]) := upd_same
    generalize upd G5 t6 (HO.tup [V.ref p]) = G6 at g6 e6 ⊢
    refine ⟨by show 8 ≤ sizeLine; decide, fun gL ngL => ?_⟩
    have g7 := same_upd (o := (HO.lst [V.ref L1, V.non, V.ref t1, V.int 7, V.str (Str.ofString ""), V.ref d1, V.ref sm, V.ref t6])) ngL
    have hgL : upd G6 gL (HO.lst [V.ref L1, V.non, V.ref t1, V.int 7, V.str (Str.ofString ""), V.ref d1, V.ref sm, V.ref t6]) gL = some (HO.lst [V.ref L1, V.non, V.ref t1, V.int 7, V.str (Str.ofString ""), V.ref d1, V.ref sm, V.ref t6]) := upd_same
    generalize upd G6 gL (HO.lst [V.ref L1, V.non, V.ref t1, V.int 7, V.str (Str.ofString ""), V.ref d1, V.ref sm, V.ref t6]) = G7 at g7 hgL ⊢
    have g57 := g6.trans g7
    have g37 := g4.trans (g5.trans g57)
    have gA : Same H3 G7 := g13.trans g37
    have D7 := D3.same gA
    have oG := (D3.same (g14.trans (g5.trans g6))).off ngL
    have oL := D3.off m1
    have oD := (D3.same (g1.trans g2)).off nd1
    have tus7 : TkAll G7 us (pss.map rowD) := tus.ts (ts13 gA) (noL_rowDs _)
    have sus := tus7.shE D7 (noL_rowDs pss)
    have rf40 : FitL (2 ^ 120) (4801 * 40) 1 (pss.map rowD) := ⟨rf.1, Nat.le_trans rf.2.1 (Nat.mul_le_mul_left _ p40), rf.2.2⟩
    refine ⟨.ref d, rfl, d, l, 8, _, rfl, D7, by omega, by decide, by decide, fun C1 z DC frC z0 z1 => ?_⟩
    have each : ∀ x ∈ [V.ref L1, V.non, V.ref t1, V.int 7, V.str (Str.ofString ""), V.ref d1, V.ref sm, V.ref t6], LedG d l G7 x := by
      intro x hx
      simp only [List.mem_cons, List.not_mem_nil, or_false] at hx
      rcases hx with rfl | rfl | rfl | rfl | rfl | rfl | rfl | rfl
      · exact ⟨.list (pss.map rowD), .lst (hidL ((g2.trans (g3.trans g37)) _ _ e1) oL.1 oL.2) xL sus, (Fit.lst rf40).mono (Nat.le_refl _) (by decide) (by decide), fun ds e => by cases e⟩
      · exact ⟨_, .non, ⟨by decide +kernel, by decide +kernel, by decide +kernel⟩, fun ds e => by cases e⟩
      · exact ⟨.tuple [], .tup (hidT D7 ((g3.trans g37) _ _ e2)) .nil, ⟨by decide +kernel, by decide +kernel, by decide +kernel⟩, fun ds e x hx => by
          rw [← PyData.tuple.inj e] at hx
          cases hx⟩
      · exact ⟨_, .int 7, ⟨by decide +kernel, by decide +kernel, by decide +kernel⟩, fun ds e => by cases e⟩
      · exact ⟨_, .str _, ⟨by decide +kernel, by decide +kernel, by decide +kernel⟩, fun ds e => by cases e⟩
      · exact ⟨.dict [], .dic (kvs := []) (ds := []) (hidL (g37 _ _ e3) oD.1 oD.2) .nil, ⟨by decide +kernel, by decide +kernel, by decide +kernel⟩, fun ds e => by cases e⟩
      · have f := own_fit (p := pss.flatten) fun x hx => by
          obtain ⟨q, hq, hxq⟩ := List.mem_flatten.mp hx
          exact (own q hq).2.2 x hxq
        exact ⟨.tuple (pss.flatten.map PyData.int), .tup (hidT D7 (g57 _ _ e5)) (sh_ints _ _), (Fit.tup f).mono (Nat.le_refl _) (by omega) (by decide), fun dss e x hx ds ed => by
          rw [← PyData.tuple.inj e] at hx
          obtain ⟨y, _, rfl⟩ := List.mem_map.mp hx
          cases ed⟩
      · have trow : Sh (hid [d, l] G7) (.ref p) (.tuple (pss.map rowD)) := .tup (hidT D7 (gA _ _ hp3)) sus
        exact ⟨.tuple [.tuple (pss.map rowD)], .tup (hidT D7 (g7 _ _ e6)) (.cons trow .nil), (Fit.tup (FitL.one (Fit.tup rf40))).mono (Nat.le_refl _) (by decide) (by decide), fun dss e x hx ds ed => by
          rw [← PyData.tuple.inj e] at hx
          rw [List.mem_singleton.mp hx] at ed
          rw [← PyData.tuple.inj ed, List.length_map]
          omega⟩
    obtain ⟨vv, hat, lg⟩ := pickP each z0 z1
    exact ⟨gL, _, _, vv, rfl, rfl, SqL.of (frC _ _ oG.1 oG.2 hgL), hat, q _ C1 (DC.mono (by omega)) ((fr03.trans (Fr.of gA)).trans frC) (lg.fr frC)⟩

end
end Gk

set_option Elab.async false
set_option linter.all false
set_option maxRecDepth 100000
set_option maxHeartbeats 1000000
set_option pp.maxSteps 1500
set_option pp.deepTerms false
namespace Gk
open PySem PySem.Spec PyProof.Rows L2
section
variable {P : Program} {w : World} {K : PySem.W.Frag} {mg : Str → Option Value} {base : Heap}
/-! ### the law -/
theorem DeckE.gr {H H' : Hp} {d l : Addr} {n : Int} (D : DeckE H d l n) (s : Gr H H') : DeckE H' d l n := by
  obtain ⟨ne, cs, y, z, hd, hl, r⟩ := D
  exact ⟨ne, cs, y, z, s.1 d _ (fun _ z => by cases z) hd, s.lst hl, r⟩
theorem Tabs.gr {H H' : Hp} {Ps : List Addr} (t : Tabs H Ps) (g : Gr H H') : Tabs H' Ps := fun P hP => g.2 _ (t P hP)
theorem steps_keep : ∀ (gs : List Gt) (l : List Int) (i : Nat), i < l.length → (gs.foldl stepS l).getD i 0 = l.getD i 0
  | [], _, _, _ => rfl
  | g :: r, l, i, h => by
    show (r.foldl stepS (stepS l g)).getD i 0 = _
    rw [steps_keep r (stepS l g) i (by unfold stepS; rw [List.length_append]; omega)]
    unfold stepS
    rw [List.getD_eq_getElem?_getD, List.getElem?_append_left h, List.getD_eq_getElem?_getD]
theorem settled_pre (gs : List Gt) (a : List Int) (n i : Nat) (h : i < a.length + (gs.take n).length) : (settledM (gs.take n) a).getD i 0 = (settledM gs a).getD i 0 := by
  have e : settledM gs a = (gs.drop n).foldl stepS (settledM (gs.take n) a) := by
    unfold settledM
    rw [← List.foldl_append, List.take_append_drop]
  rw [e]
  exact (steps_keep _ _ _ (by rw [settledM_len]; exact h)).symm
theorem NetOk.take {m : Nat} {gs : List Gt} (h : NetOk m gs) (n : Nat) : NetOk m (gs.take n) := fun k g e => by
  refine h k g ?_
  rw [List.getElem?_take] at e
  split at e
  · exact e
  · cases e
theorem own_led {gs : List Gt} {a : List Int} {ns : List Nat} {pss : List (List Int)} (ok : NetOk a.length gs) (o : OwnOk (settledM gs a) gs ns pss) : ledD (settledM (gs.take pss.length) a) (gs.take pss.length) ns (.tuple (pss.map rowD)) = true := by
  have ll : (gs.take pss.length).length = pss.length := by rw [List.length_take]; exact Nat.min_eq_left o.len
  show (decide ((pss.map rowD).length = (gs.take pss.length).length) && (List.range (gs.take pss.length).length).all (partOkD (settledM (gs.take pss.length) a) (gs.take pss.length) ns (pss.map rowD))) = true
  rw [decide_eq_true (by rw [List.length_map, ll]), Bool.true_and]
  refine rangeAll fun k hk => ?_
  rw [ll] at hk
  have hgk : k < gs.length := Nat.lt_of_lt_of_le hk o.len
  obtain ⟨g, hg⟩ : ∃ g, gs[k]? = some g := ⟨_, List.getElem?_eq_getElem hgk⟩
  obtain ⟨p, hp⟩ : ∃ p, pss[k]? = some p := ⟨_, List.getElem?_eq_getElem hk⟩
  have hg' : (gs.take pss.length)[k]? = some g := by rw [List.getElem?_take, if_pos hk]; exact hg
  have hp' : (pss.map rowD)[k]? = some (rowD p) := by rw [List.getElem?_map, hp]; rfl
  unfold partOkD
  rw [hg', hp']
  show partM g.1 (pickI (settledM (gs.take pss.length) a) g.2) (pickN (numD ns (pss.map rowD) k) g.2) (.tuple (p.map PyData.int)) = true
  rw [part_ints, num_rows]
  have ep : pickI (settledM (gs.take pss.length) a) g.2 = pickI (settledM gs a) g.2 := List.map_congr_left fun i hi => settled_pre gs a _ i (by
    have := (ok k g hg).2.2.2 i hi
    rw [ll]
    omega)
  rw [ep]
  exact o.hold k g p hg hp
def sp_law (K : PySem.W.Frag) (Ps : List Addr) : Sp := fun vs H Q _ => ∃ (a : Addr) (ns : List Int), vs = [.ref a] ∧ SqL K H a (ns.map V.int) ∧ ns.length ≤ 63 ∧ Tabs H Ps ∧ ∀ H', Q (.bl true) H'
theorem ok_law (T : Tx K mg) (B : Tb base T) : FnG P w K mg base CX0 6 T.f_law T.fd_law ["_law_script"] (sp_law K T.tabs) := by
  refine okG0 T.F_law sc_law (fun vs H Q E h => ?_) (fun cdv A outer s H vs Q E nothing hr h => ?_)
  · obtain ⟨a, ns, rfl, _⟩ := h
    rfl
  · obtain ⟨a, ns, rfl, hS, hlen, tabs, q⟩ := h
    refine ⟨_, (pss_cons (ps_set (i := 1) sc_law.nd rfl (by first | exact .inl rfl | exact .inr rfl) (pe_call (ok_deck T) (hr.mono (by decide)) (by rfl) T.g_deck T.F_deck.kp T.b_deck .nil pass0 (pa_cons (pv 0) pa_nil))) (pss_cons (ps_for PassesOwn.never rfl (pi_range1 (by rfl) T.m_range (pa_cons (pe_callB (call_max2 rfl) (by rfl) T.m_max (by decide +kernel) (pa_cons pe_int (pa_cons (pe_callB (call_min2 rfl) (by rfl) T.m_min (by decide +kernel) (pa_cons pe_int (pa_cons (pe_callB call_len_seq (by rfl) T.m_len PySem.boot_len (pa_cons (pv 0) pa_nil)) pa_nil))) pa_nil))) pa_nil)) (pg_name (i := 2) sc_law.nd rfl (by first | exact .inl rfl | exact .inr rfl)) (pss_cons (ps_set (i := 3) sc_law.nd rfl (by first | exact .inl rfl | exact .inr rfl) (pe_cmpR op_gt (pe_call (ok_draw T) (hr.mono (by decide)) (by rfl) T.g_draw T.F_draw.kp T.b_draw .nil pass0 (pa_cons (pv 1) (pa_cons pe_int pa_nil))) pe_int (nomark _))) (pss_cons (ps_set (i := 4) sc_law.nd rfl (by first | exact .inl rfl | exact .inr rfl) (pe_call (ok_net T) (hr.mono (by decide)) (by rfl) T.g_net T.F_net.kp T.b_net .nil pass0 (pa_cons (pv 1) (pa_cons (pe_cmpR op_eq (pe_call (ok_draw T) (hr.mono (by decide)) (by rfl) T.g_draw T.F_draw.kp T.b_draw .nil pass0 (pa_cons (pv 1) (pa_cons pe_int pa_nil))) pe_int (nomark _)) (pa_cons pe_bl pa_nil))))) (pss_cons (ps_set (i := 5) sc_law.nd rfl (by first | exact .inl rfl | exact .inr rfl) (pe_call (ok_change T) (hr.mono (by decide)) (by rfl) T.g_change T.F_change.kp T.b_change .nil pass0 (pa_cons (pv 1) (pa_cons (pe_ix ix_tup (pv 4) pe_int (fun _ _ => rfl)) pa_nil)))) (pss_cons (ps_set (i := 6) sc_law.nd rfl (by first | exact .inl rfl | exact .inr rfl) (pe_call (ok_own T) (hr.mono (by decide)) (by rfl) T.g_own T.F_own.kp T.b_own .nil pass0 (pa_cons (pv 1) (pa_cons (pv 4) (pa_cons (pv 5) pa_nil))))) (pss_cons (ps_set (i := 4) sc_law.nd rfl (by first | exact .inl rfl | exact .inr rfl) (pe_tup (pa_cons (pe_ix ix_tup (pv 4) pe_int (fun _ _ => rfl)) (pa_cons (pe_slice sl_tupA (pe_ix ix_tup (pv 4) pe_int (fun _ _ => rfl)) po_none (po_some (pe_callB call_len_seq (by rfl) T.m_len PySem.boot_len (pa_cons (pv 6) pa_nil)))) pa_nil)))) (pss_cons (ps_if (pt_cmpR op_isnot_bl (pe_call (ok_ledger_holds T B) (hr.mono (by decide)) (by rfl) T.g_ledger_holds T.F_ledger_holds.kp T.b_ledger_holds .nil pass0 (pa_cons (pv 4) (pa_cons (pv 5) (pa_cons (pv 6) pa_nil)))) pe_bl (nomark _)) (pss_one (ps_ret pe_bl)) pss_nil) (pss_one (ps_for PassesOwn.never rfl (pi_range1 (by rfl) T.m_range (pa_cons (pe_op op_mul pe_int (pe_callTy call_int1 (by rfl) T.m_int (by decide +kernel) (pa_cons (pv 3) pa_nil))) pa_nil)) (pg_name (i := 7) sc_law.nd rfl (by first | exact .inl rfl | exact .inr rfl)) (pss_cons (ps_set (i := 8) sc_law.nd rfl (by first | exact .inl rfl | exact .inr rfl) (pe_call (ok_bent T) (hr.mono (by decide)) (by rfl) T.g_bent T.F_bent.kp T.b_bent .nil pass0 (pa_cons (pv 1) (pa_cons (pv 6) pa_nil)))) (pss_cons (ps_set (i := 9) sc_law.nd rfl (by first | exact .inl rfl | exact .inr rfl) (pe_callB (call_repr nothing hr.units) (by rfl) T.m_repr (by decide +kernel) (pa_cons (pv 8) pa_nil))) (pss_cons (ps_set (i := 10) sc_law.nd rfl (by first | exact .inl rfl | exact .inr rfl) (pe_call (ok_ledger_holds T B) (hr.mono (by decide)) (by rfl) T.g_ledger_holds T.F_ledger_holds.kp T.b_ledger_holds .nil pass0 (pa_cons (pv 4) (pa_cons (pv 5) (pa_cons (pv 8) pa_nil))))) (pss_one (ps_if (pw_or (pt_not (pt_val (pe_callB call_isi (by rfl) T.m_isinstance (by decide +kernel) (pa_cons (pv 10) (pa_cons (pe_bltn (v := .ty "bool") (u := .type "bool") (by rfl) T.m_bool (by decide +kernel) rfl) pa_nil))))) (pw_or (pt_cmpR op_ne (pv 10) (pe_call (ok_right T) (hr.mono (by decide)) (by rfl) T.g_right T.F_right.kp T.b_right .nil pass0 (pa_cons (pv 4) (pa_cons (pv 5) (pa_cons (pv 8) pa_nil)))) (nomark _)) (pw_or1 (pt_cmpR op_ne (pe_callB (call_repr nothing hr.units) (by rfl) T.m_repr (by decide +kernel) (pa_cons (pv 8) pa_nil)) (pv 9) (nomark _))))).pt (pss_one (ps_ret pe_bl)) pss_nil)))))))))))))) (pss_one (ps_ret pe_bl)))), ?_⟩
    have sub : ∀ P ∈ T.pt, P ∈ T.tabs := fun P h => by simp [Tx.pt] at h; simp [Tx.tabs]; rcases h with h | h | h <;> simp [h]
    have inpt : ∀ {H : Hp}, Tabs H T.tabs → Tabs H T.pt := fun t P h => t P (sub P h)
    have hS0 : ∀ {H' : Hp}, Same H H' → SqL K H' a (ns.map V.int) := fun s => hS.imp (fun r => r.imp (fun e => s _ _ e) (fun ⟨ob, e⟩ => ⟨ob, s _ _ e⟩)) id
    refine ⟨.ref a, rfl, a, ns, rfl, hS, hlen, fun H1 d l s1 D1 => ?_⟩
    refine ⟨.ref a, rfl, a, _, rfl, .inl (hS0 s1), _, _, rfl, _, _, rfl, ?_⟩
    have bN : ∀ x : Int, 2 ≤ (if (if x < 4 then x else 4) > 2 then (if x < 4 then x else 4) else 2) ∧ (if (if x < 4 then x else 4) > 2 then (if x < 4 then x else 4) else 2) ≤ 4 := fun x => by split <;> split <;> omega
    obtain ⟨b0, b1⟩ := bN (((ns.map V.int).length : Nat) : Int)
    revert b0 b1
    generalize (if (if (((ns.map V.int).length : Nat) : Int) < 4 then (((ns.map V.int).length : Nat) : Int) else 4) > 2 then (if (((ns.map V.int).length : Nat) : Int) < 4 then (((ns.map V.int).length : Nat) : Int) else 4) else 2) = N
    intro b0 b1
    refine ⟨N, rfl, by omega, by omega, ?_⟩
    refine for_range (lo := 0) (n := N.toNat) (fun i σ H' => ∃ y2 y3 y4 y5 y6 y7 y8 y9 y10, σ = [some (.ref a), some (.ref d), y2, y3, y4, y5, y6, y7, y8, y9, y10] ∧ DeckE H' d l (3000 * i) ∧ Tabs H' T.tabs) ⟨_, _, _, _, _, _, _, _, _, rfl, D1.mono (by omega), tabs.same s1⟩ ?_ ?_
    rotate_left
    · rintro σ H4 _
      exact q H4
    rintro i σ H2 hi ⟨y2, y3, y4, y5, y6, y7, y8, y9, y10, rfl, D2, t2⟩
    have i4 : (i : Int) ≤ 3 := by have : i < N.toNat := hi; omega
    refine ⟨.ref d, rfl, d, l, 4, _, rfl, D2, by omega, by decide, by decide, fun H3 sx D3 fr3 _ _ => ⟨_, _, rfl, rfl, ?_⟩⟩
    have t3 := (Tt.frE D2 fr3).tabs t2
    refine ⟨.ref d, rfl, .ref d, rfl, d, l, 2, _, rfl, D3, by omega, by decide, by decide, fun H4 gx D4 fr4 _ _ => ⟨rfl, ?_⟩⟩
    have t4 := (Tt.frE D3 fr4).tabs t3
    refine ⟨d, l, _, _, _, rfl, D4, by omega, fun r H5 m gs D5 fr5 tn m1 m6 g40 ok gs1 => ?_⟩
    have t5 := (Tt.frE D4 fr5).tabs t4
    obtain ⟨r', g, xs, e, hn, hg, tg⟩ := id tn.net_inv
    cases e
    refine ⟨.ref d, rfl, .ref r, rfl, r, _, 0, _, rfl, rfl, SqT.of hn, rfl, d, l, _, m, rfl, D5, by omega, m1, m6, fun c H6 ca cb D6 fr6 tc la lb a01 b01 => ?_⟩
    have ts6 := Ts.frE D5 fr6
    have t6 := (Tt.frE D5 fr6).tabs t5
    have nn : ∀ gs : List Gt, noL (netD (m : Int) gs) = true := fun gs => by
      show (true && (noLs (gs.map gD) && true)) = true
      rw [noL_gDs]
      rfl
    have nc : noL (chD ca cb) = true := by
      show (noL (rowD ca) && (noL (rowD cb) && true)) = true
      rw [noL_row, noL_row]
      rfl
    have ok' : NetOk ca.length gs := by rw [la]; exact ok
    have ab : ca.length = cb.length := by omega
    have c16 : ca.length ≤ 16 := by omega
    refine ⟨.ref d, rfl, .ref r, rfl, .ref c, rfl, d, l, _, .ref r, .ref c, m, gs, ca, cb, rfl, D6, by omega, tn.ts ts6 (nn gs), tc, ab, a01, b01, c16, g40, ok', fun o H7 pss D7 ts7 tt7 to own p1 => ?_⟩
    have t7 := tt7.tabs t6
    have ts57 := ts6.trans ts7
    have hn7 := ts57 _ _ hn
    have hg7 := ts57 _ _ hg
    obtain ⟨o', us, e, ho, tus⟩ := id to.tup_inv
    cases e
    have lus : us.length = pss.length := by rw [tus.length, List.length_map]
    have p40 : pss.length ≤ 40 := Nat.le_trans own.len g40
    refine ⟨.ref r, rfl, r, _, 0, _, rfl, rfl, SqT.of hn7, rfl, .ref r, rfl, r, _, 1, _, rfl, rfl, SqT.of hn7, rfl, .ref o, rfl, o, us, rfl, .inr (SqT.of ho), ((us.length : Nat) : Int), rfl, slA hg7 fun c1 H8 s8 h8 => ?_⟩
    rw [cut_to] at h8
    refine ⟨sl2, fun p np => ?_⟩
    have s9 := same_upd (o := (HO.tup [V.int m, V.ref c1])) np
    have h9 : upd H8 p (HO.tup [V.int m, V.ref c1]) p = some (HO.tup [V.int m, V.ref c1]) := upd_same
    generalize upd H8 p (HO.tup [V.int m, V.ref c1]) = H9 at s9 h9 ⊢
    have s79 := s8.trans s9
    have ts59 := ts57.trans (Ts.same s79)
    have t9 := t7.same s79
    have tg9 : TkAll H9 (xs.take us.length) ((gs.take pss.length).map gD) := by
      rw [List.map_take, ← lus]
      exact (TkAll.take us.length (tg.ts ts59 (noL_gDs gs)))
    have tn9 : Tk H9 (.ref p) (netD m (gs.take pss.length)) := .tup h9 (.cons (.int _) (.cons (.tup (s9 _ _ h8) tg9) .nil))
    have tc9 := tc.ts (ts7.trans (Ts.same s79)) nc
    have to9 := to.same s79
    have okk : NetOk ca.length (gs.take pss.length) := ok'.take _
    have l1000 : (gs.take pss.length).length ≤ 1000 := by rw [List.length_take]; omega
    have lp0 : LedP (.tuple (pss.map rowD)) := led_of (Fit.tup (rows_fit own.part)).1 fun dss e x hx ds ed => by
      rw [← PyData.tuple.inj e] at hx
      exact rows_short own.part x hx ds ed
    refine ⟨.ref p, rfl, .ref c, rfl, .ref o, rfl, .ref p, .ref c, .ref o, m, gs.take pss.length, ca, cb, .tuple (pss.map rowD), rfl, tn9, tc9, (to9.shE (D7.same s79) (noL_rowDs pss)).same hid_le, lp0, ab, a01, b01, c16, l1000, okk, inpt t9, fun H10 g10 => ?_⟩
    have gg := g10.gr (inpt t9)
    rw [own_led ok' own]
    refine ⟨_, _, rfl, rfl, _, rfl, iteF ?_⟩
    obtain ⟨z, hz, z0, z1⟩ : ∃ z : Int, (if decide ((0 : Int) < sx) = true then (1 : Int) else 0) = z ∧ 0 ≤ z ∧ z ≤ 1 := ⟨_, rfl, by split <;> decide, by split <;> decide⟩
    refine ⟨.bl (decide ((0 : Int) < sx)), rfl, .inr ⟨decide ((0 : Int) < sx), rfl, ?_⟩⟩
    rw [hz]
    refine ⟨_, _, rfl, rfl, .inl ⟨by decide, by decide⟩, 3 * z, rfl, by omega, by omega, ?_⟩
    refine for_range (lo := 0) (n := (3 * z).toNat) (fun j σ H' => ∃ y7 y8 y9 y10, σ = [some (.ref a), some (.ref d), some (.int (0 + (i : Nat))), some (.bl (decide ((0 : Int) < sx))), some (.ref p), some (.ref c), some (.ref o), y7, y8, y9, y10] ∧ DeckE H' d l (3000 * i + 2500 + 8 * j) ∧ Tabs H' T.tabs ∧ Ts H9 H') ⟨_, _, _, _, rfl, ((D7.same s79).gr gg).mono (by omega), t9.gr gg, Ts.gr gg⟩ ?_ ?_
    rotate_left
    · rintro σ H11 ⟨y7, y8, y9, y10, rfl, D11, t11, _⟩
      exact ⟨_, _, _, _, _, _, _, _, _, rfl, D11.mono (by push_cast; omega), t11⟩
    rintro j σ H11 hj ⟨y7, y8, y9, y10, rfl, D11, t11, ts11⟩
    have j3 : (j : Int) ≤ 2 := by have : j < (3 * z).toNat := hj; omega
    refine ⟨.ref d, rfl, .ref o, rfl, d, l, _, o, pss, rfl, D11, by omega, to9.ts ts11 (noL_rowDs pss), own.part, p1 gs1, p40, fun th H12 D12 fr12 led => ?_⟩
    obtain ⟨x, shx, fx, sx⟩ := led
    have sh12 := shx.same hid_le
    have lp := led_of fx.1 sx
    obtain ⟨f1, f2, f3⟩ := fx.fineG (by decide) (by decide) (by decide)
    have ts12 := ts11.trans (Ts.frE D11 fr12)
    have t12 := (Tt.frE D11 fr12).tabs t11
    refine ⟨th, rfl, th, _, rfl, sh12, f1, f2, f3, ?_⟩
    refine ⟨.ref p, rfl, .ref c, rfl, th, rfl, .ref p, .ref c, th, m, gs.take pss.length, ca, cb, x, rfl, tn9.ts ts12 (nn _), tc9.ts ts12 nc, sh12, lp, ab, a01, b01, c16, l1000, okk, inpt t12, fun H13 g13 => ?_⟩
    have gh := g13.gr (inpt t12)
    have ts13 := ts12.trans (Ts.gr gh)
    have sh13 := sh12.gr gh
    generalize hv : ledD (settledM (gs.take pss.length) ca) (gs.take pss.length) (inN ca cb) x = held
    refine ⟨.bl held, rfl, _, _, _, _, _, rfl, .ty _, (Sh.bl (H := H13) held).ty, kit_ty (kitBool (.bool held)), _, rfl, iteF ?_⟩
    refine ⟨.bl held, rfl, .ref p, rfl, .ref c, rfl, th, rfl, .ref p, .ref c, th, m, gs.take pss.length, ca, cb, x, rfl, tn9.ts ts13 (nn _), tc9.ts ts13 nc, sh13, lp, ab, a01, b01, c16, l1000, okk, fun H14 s14 => ?_⟩
    rw [hv]
    refine ⟨rfl, _, rfl, ?_⟩
    rw [decide_eq_true rfl]
    refine iteF ?_
    refine ⟨th, rfl, th, _, rfl, sh13.same s14, f1, f2, f3, .str _, rfl, rfl, _, rfl, ?_⟩
    rw [decide_eq_true rfl]
    refine iteF ?_
    exact ⟨_, _, _, _, rfl, (((D12.gr gh).same s14).mono (by push_cast; omega)), (t12.gr gh).same s14, ts13.trans (Ts.same s14)⟩

end
def d_is_whole : He.DefD := ⟨("is_whole", none), "is_whole", "is_whole", defArgs s_is_whole, defBody s_is_whole, defScope s_is_whole, [], []⟩
def d_choices_of : He.DefD := ⟨("choices_of", none), "choices_of", "choices_of", defArgs s_choices_of, defBody s_choices_of, defScope s_choices_of, [], []⟩
def d_table_worth : He.DefD := ⟨("table_worth", none), "table_worth", "table_worth", defArgs s_table_worth, defBody s_table_worth, defScope s_table_worth, [], []⟩
def d_settled : He.DefD := ⟨("settled", none), "settled", "settled", defArgs s_settled, defBody s_settled, defScope s_settled, [], []⟩
def d_input_numbers : He.DefD := ⟨("input_numbers", none), "input_numbers", "input_numbers", defArgs s_input_numbers, defBody s_input_numbers, defScope s_input_numbers, [], []⟩
def d_at_wires : He.DefD := ⟨("at_wires", none), "at_wires", "at_wires", defArgs s_at_wires, defBody s_at_wires, defScope s_at_wires, [], []⟩
def d_steps_from : He.DefD := ⟨("steps_from", none), "steps_from", "steps_from", defArgs s_steps_from, defBody s_steps_from, defScope s_steps_from, [], []⟩
def d_worth_by : He.DefD := ⟨("worth_by", none), "worth_by", "worth_by", defArgs s_worth_by, defBody s_worth_by, defScope s_worth_by, [], []⟩
def d_strides_of : He.DefD := ⟨("strides_of", none), "strides_of", "strides_of", defArgs s_strides_of, defBody s_strides_of, defScope s_strides_of, [], []⟩
def d_many_counts : He.DefD := ⟨("many_counts", none), "many_counts", "many_counts", defArgs s_many_counts, defBody s_many_counts, defScope s_many_counts, [], []⟩
def d_ledger_holds : He.DefD := ⟨("ledger_holds", none), "ledger_holds", "ledger_holds", defArgs s_ledger_holds, defBody s_ledger_holds, defScope s_ledger_holds, [], []⟩
def d_part_holds : He.DefD := ⟨("part_holds", none), "part_holds", "part_holds", defArgs s_part_holds, defBody s_part_holds, defScope s_part_holds, [], []⟩
def d_deck : He.DefD := ⟨("_law_deck", none), "_law_deck", "_law_deck", defArgs s_deck, defBody s_deck, defScope s_deck, [], []⟩
def d_draw : He.DefD := ⟨("_law_draw", none), "_law_draw", "_law_draw", defArgs s_draw, defBody s_draw, defScope s_draw, [], []⟩
def d_table : He.DefD := ⟨("_law_table", none), "_law_table", "_law_table", defArgs s_table, defBody s_table, defScope s_table, [], []⟩
def d_worth : He.DefD := ⟨("_law_worth", none), "_law_worth", "_law_worth", defArgs s_worth, defBody s_worth, defScope s_worth, [], []⟩
def d_counts : He.DefD := ⟨("_law_counts", none), "_law_counts", "_law_counts", defArgs s_counts, defBody s_counts, defScope s_counts, [], []⟩
def d_worths : He.DefD := ⟨("_law_worths", none), "_law_worths", "_law_worths", defArgs s_worths, defBody s_worths, defScope s_worths, [], []⟩
def d_fars : He.DefD := ⟨("_law_fars", none), "_law_fars", "_law_fars", defArgs s_fars, defBody s_fars, defScope s_fars, [], []⟩
def d_ins : He.DefD := ⟨("_law_ins", none), "_law_ins", "_law_ins", defArgs s_ins, defBody s_ins, defScope s_ins, [], []⟩
def d_net : He.DefD := ⟨("_law_net", none), "_law_net", "_law_net", defArgs s_net, defBody s_net, defScope s_net, [], []⟩
def d_change : He.DefD := ⟨("_law_change", none), "_law_change", "_law_change", defArgs s_change, defBody s_change, defScope s_change, [], []⟩
def d_l_settled : He.DefD := ⟨("_law_settled", none), "_law_settled", "_law_settled", defArgs s_l_settled, defBody s_l_settled, defScope s_l_settled, [], []⟩
def d_of : He.DefD := ⟨("_law_of", none), "_law_of", "_law_of", defArgs s_of, defBody s_of, defScope s_of, [], []⟩
def d_still : He.DefD := ⟨("_law_still", none), "_law_still", "_law_still", defArgs s_still, defBody s_still, defScope s_still, [], []⟩
def d_size : He.DefD := ⟨("_law_size", none), "_law_size", "_law_size", defArgs s_size, defBody s_size, defScope s_size, [], []⟩
def d_more : He.DefD := ⟨("_law_more", none), "_law_more", "_law_more", defArgs s_more, defBody s_more, defScope s_more, [], []⟩
def d_own : He.DefD := ⟨("_law_own", none), "_law_own", "_law_own", defArgs s_own, defBody s_own, defScope s_own, [], []⟩
def d_part_right : He.DefD := ⟨("_law_part_right", none), "_law_part_right", "_law_part_right", defArgs s_part_right, defBody s_part_right, defScope s_part_right, [], []⟩
def d_right : He.DefD := ⟨("_law_right", none), "_law_right", "_law_right", defArgs s_right, defBody s_right, defScope s_right, [], []⟩
def d_number_bent : He.DefD := ⟨("_law_number_bent", none), "_law_number_bent", "_law_number_bent", defArgs s_number_bent, defBody s_number_bent, defScope s_number_bent, [], []⟩
def d_bent : He.DefD := ⟨("_law_bent", none), "_law_bent", "_law_bent", defArgs s_bent, defBody s_bent, defScope s_bent, [], []⟩
def d_law : He.DefD := ⟨("law", none), "law", "law", defArgs s_law, defBody s_law, defScope s_law, [], []⟩
def fn : List He.DefD := [d_is_whole, d_choices_of, d_table_worth, d_settled, d_input_numbers, d_at_wires, d_steps_from, d_worth_by, d_strides_of, d_many_counts, d_ledger_holds, d_part_holds, d_deck, d_draw, d_table, d_worth, d_counts, d_worths, d_fars, d_ins, d_net, d_change, d_l_settled, d_of, d_still, d_size, d_more, d_own, d_part_right, d_right, d_number_bent, d_bent, d_law]
def fa : List He.Fa := [.glo "is_whole", .glo "choices_of", .glo "table_worth", .glo "settled", .glo "input_numbers", .glo "at_wires", .glo "steps_from", .glo "worth_by", .glo "strides_of", .glo "many_counts", .glo "ledger_holds", .glo "part_holds", .glo "_law_deck", .glo "_law_draw", .glo "_law_table", .glo "_law_worth", .glo "_law_counts", .glo "_law_worths", .glo "_law_fars", .glo "_law_ins", .glo "_law_net", .glo "_law_change", .glo "_law_settled", .glo "_law_of", .glo "_law_still", .glo "_law_size", .glo "_law_more", .glo "_law_own", .glo "_law_part_right", .glo "_law_right", .glo "_law_number_bent", .glo "_law_bent", .glo "law", .free "all", .free "bool", .free "enumerate", .free "int", .free "isinstance", .free "len", .free "list", .free "max", .free "min", .free "range", .free "repr", .free "str", .free "sum", .free "tuple", .free "zip"]
def tf : List He.Defn := [("input_numbers", none), ("at_wires", none), ("part_holds", none)]
abbrev RR : PySem.W.OpenRow := PySem.W.OpenLaw.row PySem.Challenge.rw_glitchnet_k33_ledgers_of_any_hand
def yes : PySem.W.Frag → Bool := fun _ => true
def ts : List He.Tab := []
abbrev hk : PySem.W.Hook := He.hookX 4 fa fn ts tf yes
def ob (s : PySem.W.SharedT) : He.AlX := He.obsX 4 fa fn ts tf yes (HandSHeadRun.getT s)
theorem ob_eq (s : PySem.W.SharedT) : ob s = hk.obs s.abs := He.obsX_eq (HandSHeadRun.getT_eq s)
theorem run (w : World) : HandSHeadRun.RunEq RR (PySem.W.view RR.prog [37]) hk ob 3000 [("is_whole" : PySem.Str), ("choices_of" : PySem.Str), ("table_worth" : PySem.Str), ("settled" : PySem.Str), ("input_numbers" : PySem.Str), ("at_wires" : PySem.Str), ("steps_from" : PySem.Str), ("worth_by" : PySem.Str), ("strides_of" : PySem.Str), ("many_counts" : PySem.Str), ("ledger_holds" : PySem.Str), ("part_holds" : PySem.Str), ("_law_deck" : PySem.Str), ("_law_draw" : PySem.Str), ("_law_table" : PySem.Str), ("_law_worth" : PySem.Str), ("_law_counts" : PySem.Str), ("_law_worths" : PySem.Str), ("_law_fars" : PySem.Str), ("_law_ins" : PySem.Str), ("_law_net" : PySem.Str), ("_law_change" : PySem.Str), ("_law_settled" : PySem.Str), ("_law_of" : PySem.Str), ("_law_still" : PySem.Str), ("_law_size" : PySem.Str), ("_law_more" : PySem.Str), ("_law_own" : PySem.Str), ("_law_part_right" : PySem.Str), ("_law_right" : PySem.Str), ("_law_number_bent" : PySem.Str), ("_law_bent" : PySem.Str)] w := by
  intro os
  kernel_rfl
theorem facts {w : World} {K : PySem.W.Frag} {h : Heap} {mg : Str → Option Value} {f : Addr} (X : K.In h) (G : h.Ns mainGlobals mg) (hfa : mg ("law" : Str) = some (.ref f)) (c : He.SaysX fa fn ts tf yes w h K) : LawAtG PySem.Challenge.rw_glitchnet_k33_ledgers_of_any_hand w K CX0 6 63 "_law_script" mg f h := by
  obtain ⟨fd0, D0⟩ := c.t.d.def_ 0 (d := d_is_whole) rfl
  have F0 : Fun K "is_whole" "is_whole" s_is_whole (He.fAd K ("is_whole", none)) fd0 := fun_of D0
  have b0 := F0.binds (ps := ["thing"]) fun _ _ _ _ _ _ us hl => match us, hl with | [_], _ => rfl
  obtain ⟨fd1, D1⟩ := c.t.d.def_ 1 (d := d_choices_of) rfl
  have F1 : Fun K "choices_of" "choices_of" s_choices_of (He.fAd K ("choices_of", none)) fd1 := fun_of D1
  have b1 := F1.binds (ps := ["lists"]) fun _ _ _ _ _ _ us hl => match us, hl with | [_], _ => rfl
  obtain ⟨fd2, D2⟩ := c.t.d.def_ 2 (d := d_table_worth) rfl
  have F2 : Fun K "table_worth" "table_worth" s_table_worth (He.fAd K ("table_worth", none)) fd2 := fun_of D2
  have b2 := F2.binds (ps := ["table", "worths"]) fun _ _ _ _ _ _ us hl => match us, hl with | [_, _], _ => rfl
  obtain ⟨fd3, D3⟩ := c.t.d.def_ 3 (d := d_settled) rfl
  have F3 : Fun K "settled" "settled" s_settled (He.fAd K ("settled", none)) fd3 := fun_of D3
  have b3 := F3.binds (ps := ["net", "row"]) fun _ _ _ _ _ _ us hl => match us, hl with | [_, _], _ => rfl
  obtain ⟨fd4, D4⟩ := c.t.d.def_ 4 (d := d_input_numbers) rfl
  have F4 : Fun K "input_numbers" "input_numbers" s_input_numbers (He.fAd K ("input_numbers", none)) fd4 := fun_of D4
  have b4 := F4.binds (ps := ["change"]) fun _ _ _ _ _ _ us hl => match us, hl with | [_], _ => rfl
  obtain ⟨fd5, D5⟩ := c.t.d.def_ 5 (d := d_at_wires) rfl
  have F5 : Fun K "at_wires" "at_wires" s_at_wires (He.fAd K ("at_wires", none)) fd5 := fun_of D5
  have b5 := F5.binds (ps := ["row", "wires"]) fun _ _ _ _ _ _ us hl => match us, hl with | [_, _], _ => rfl
  obtain ⟨fd6, D6⟩ := c.t.d.def_ 6 (d := d_steps_from) rfl
  have F6 : Fun K "steps_from" "steps_from" s_steps_from (He.fAd K ("steps_from", none)) fd6 := fun_of D6
  have b6 := F6.binds (ps := ["table", "firsts", "numbers"]) fun _ _ _ _ _ _ us hl => match us, hl with | [_, _, _], _ => rfl
  obtain ⟨fd7, D7⟩ := c.t.d.def_ 7 (d := d_worth_by) rfl
  have F7 : Fun K "worth_by" "worth_by" s_worth_by (He.fAd K ("worth_by", none)) fd7 := fun_of D7
  have b7 := F7.binds (ps := ["table", "firsts", "counts"]) fun _ _ _ _ _ _ us hl => match us, hl with | [_, _, _], _ => rfl
  obtain ⟨fd8, D8⟩ := c.t.d.def_ 8 (d := d_strides_of) rfl
  have F8 : Fun K "strides_of" "strides_of" s_strides_of (He.fAd K ("strides_of", none)) fd8 := fun_of D8
  have b8 := F8.binds (ps := ["numbers"]) fun _ _ _ _ _ _ us hl => match us, hl with | [_], _ => rfl
  obtain ⟨fd9, D9⟩ := c.t.d.def_ 9 (d := d_many_counts) rfl
  have F9 : Fun K "many_counts" "many_counts" s_many_counts (He.fAd K ("many_counts", none)) fd9 := fun_of D9
  have b9 := F9.binds (ps := ["numbers"]) fun _ _ _ _ _ _ us hl => match us, hl with | [_], _ => rfl
  obtain ⟨fd10, D10⟩ := c.t.d.def_ 10 (d := d_ledger_holds) rfl
  have F10 : Fun K "ledger_holds" "ledger_holds" s_ledger_holds (He.fAd K ("ledger_holds", none)) fd10 := fun_of D10
  have b10 := F10.binds (ps := ["net", "change", "thing"]) fun _ _ _ _ _ _ us hl => match us, hl with | [_, _, _], _ => rfl
  obtain ⟨fd11, D11⟩ := c.t.d.def_ 11 (d := d_part_holds) rfl
  have F11 : Fun K "part_holds" "part_holds" s_part_holds (He.fAd K ("part_holds", none)) fd11 := fun_of D11
  have b11 := F11.binds (ps := ["table", "firsts", "numbers", "thing"]) fun _ _ _ _ _ _ us hl => match us, hl with | [_, _, _, _], _ => rfl
  obtain ⟨fd12, D12⟩ := c.t.d.def_ 12 (d := d_deck) rfl
  have F12 : Fun K "_law_deck" "_law_deck" s_deck (He.fAd K ("_law_deck", none)) fd12 := fun_of D12
  have b12 := F12.binds (ps := ["_law_script"]) fun _ _ _ _ _ _ us hl => match us, hl with | [_], _ => rfl
  obtain ⟨fd13, D13⟩ := c.t.d.def_ 13 (d := d_draw) rfl
  have F13 : Fun K "_law_draw" "_law_draw" s_draw (He.fAd K ("_law_draw", none)) fd13 := fun_of D13
  have b13 := F13.binds (ps := ["_law_deck_here", "_law_most"]) fun _ _ _ _ _ _ us hl => match us, hl with | [_, _], _ => rfl
  obtain ⟨fd14, D14⟩ := c.t.d.def_ 14 (d := d_table) rfl
  have F14 : Fun K "_law_table" "_law_table" s_table (He.fAd K ("_law_table", none)) fd14 := fun_of D14
  have b14 := F14.binds (ps := ["_law_deck_here", "_law_many"]) fun _ _ _ _ _ _ us hl => match us, hl with | [_, _], _ => rfl
  obtain ⟨fd15, D15⟩ := c.t.d.def_ 15 (d := d_worth) rfl
  have F15 : Fun K "_law_worth" "_law_worth" s_worth (He.fAd K ("_law_worth", none)) fd15 := fun_of D15
  have b15 := F15.binds (ps := ["_law_table_here", "_law_worths_here"]) fun _ _ _ _ _ _ us hl => match us, hl with | [_, _], _ => rfl
  obtain ⟨fd16, D16⟩ := c.t.d.def_ 16 (d := d_counts) rfl
  have F16 : Fun K "_law_counts" "_law_counts" s_counts (He.fAd K ("_law_counts", none)) fd16 := fun_of D16
  have b16 := F16.binds (ps := ["_law_numbers"]) fun _ _ _ _ _ _ us hl => match us, hl with | [_], _ => rfl
  obtain ⟨fd17, D17⟩ := c.t.d.def_ 17 (d := d_worths) rfl
  have F17 : Fun K "_law_worths" "_law_worths" s_worths (He.fAd K ("_law_worths", none)) fd17 := fun_of D17
  have b17 := F17.binds (ps := ["_law_table_here", "_law_firsts", "_law_rows"]) fun _ _ _ _ _ _ us hl => match us, hl with | [_, _, _], _ => rfl
  obtain ⟨fd18, D18⟩ := c.t.d.def_ 18 (d := d_fars) rfl
  have F18 : Fun K "_law_fars" "_law_fars" s_fars (He.fAd K ("_law_fars", none)) fd18 := fun_of D18
  have b18 := F18.binds (ps := ["_law_numbers"]) fun _ _ _ _ _ _ us hl => match us, hl with | [_], _ => rfl
  obtain ⟨fd19, D19⟩ := c.t.d.def_ 19 (d := d_ins) rfl
  have F19 : Fun K "_law_ins" "_law_ins" s_ins (He.fAd K ("_law_ins", none)) fd19 := fun_of D19
  have b19 := F19.binds (ps := ["_law_deck_here", "_law_wires", "_law_many", "_law_free"]) fun _ _ _ _ _ _ us hl => match us, hl with | [_, _, _, _], _ => rfl
  obtain ⟨fd20, D20⟩ := c.t.d.def_ 20 (d := d_net) rfl
  have F20 : Fun K "_law_net" "_law_net" s_net (He.fAd K ("_law_net", none)) fd20 := fun_of D20
  have b20 := F20.binds (ps := ["_law_deck_here", "_law_formula", "_law_long"]) fun _ _ _ _ _ _ us hl => match us, hl with | [_, _, _], _ => rfl
  obtain ⟨fd21, D21⟩ := c.t.d.def_ 21 (d := d_change) rfl
  have F21 : Fun K "_law_change" "_law_change" s_change (He.fAd K ("_law_change", none)) fd21 := fun_of D21
  have b21 := F21.binds (ps := ["_law_deck_here", "_law_many"]) fun _ _ _ _ _ _ us hl => match us, hl with | [_, _], _ => rfl
  obtain ⟨fd22, D22⟩ := c.t.d.def_ 22 (d := d_l_settled) rfl
  have F22 : Fun K "_law_settled" "_law_settled" s_l_settled (He.fAd K ("_law_settled", none)) fd22 := fun_of D22
  have b22 := F22.binds (ps := ["_law_net_here", "_law_row"]) fun _ _ _ _ _ _ us hl => match us, hl with | [_, _], _ => rfl
  obtain ⟨fd23, D23⟩ := c.t.d.def_ 23 (d := d_of) rfl
  have F23 : Fun K "_law_of" "_law_of" s_of (He.fAd K ("_law_of", none)) fd23 := fun_of D23
  have b23 := F23.binds (ps := ["_law_worths_here", "_law_ins_here"]) fun _ _ _ _ _ _ us hl => match us, hl with | [_, _], _ => rfl
  obtain ⟨fd24, D24⟩ := c.t.d.def_ 24 (d := d_still) rfl
  have F24 : Fun K "_law_still" "_law_still" s_still (He.fAd K ("_law_still", none)) fd24 := fun_of D24
  have b24 := F24.binds (ps := ["_law_table_here", "_law_firsts", "_law_numbers"]) fun _ _ _ _ _ _ us hl => match us, hl with | [_, _, _], _ => rfl
  obtain ⟨fd25, D25⟩ := c.t.d.def_ 25 (d := d_size) rfl
  have F25 : Fun K "_law_size" "_law_size" s_size (He.fAd K ("_law_size", none)) fd25 := fun_of D25
  have b25 := F25.binds (ps := ["_law_numbers"]) fun _ _ _ _ _ _ us hl => match us, hl with | [_], _ => rfl
  obtain ⟨fd26, D26⟩ := c.t.d.def_ 26 (d := d_more) rfl
  have F26 : Fun K "_law_more" "_law_more" s_more (He.fAd K ("_law_more", none)) fd26 := fun_of D26
  have b26 := F26.binds (ps := ["_law_deck_here", "_law_part"]) fun _ _ _ _ _ _ us hl => match us, hl with | [_, _], _ => rfl
  obtain ⟨fd27, D27⟩ := c.t.d.def_ 27 (d := d_own) rfl
  have F27 : Fun K "_law_own" "_law_own" s_own (He.fAd K ("_law_own", none)) fd27 := fun_of D27
  have b27 := F27.binds (ps := ["_law_deck_here", "_law_net_here", "_law_change_here"]) fun _ _ _ _ _ _ us hl => match us, hl with | [_, _, _], _ => rfl
  obtain ⟨fd28, D28⟩ := c.t.d.def_ 28 (d := d_part_right) rfl
  have F28 : Fun K "_law_part_right" "_law_part_right" s_part_right (He.fAd K ("_law_part_right", none)) fd28 := fun_of D28
  have b28 := F28.binds (ps := ["_law_table_here", "_law_firsts", "_law_numbers", "_law_part"]) fun _ _ _ _ _ _ us hl => match us, hl with | [_, _, _, _], _ => rfl
  obtain ⟨fd29, D29⟩ := c.t.d.def_ 29 (d := d_right) rfl
  have F29 : Fun K "_law_right" "_law_right" s_right (He.fAd K ("_law_right", none)) fd29 := fun_of D29
  have b29 := F29.binds (ps := ["_law_net_here", "_law_change_here", "_law_thing"]) fun _ _ _ _ _ _ us hl => match us, hl with | [_, _, _], _ => rfl
  obtain ⟨fd30, D30⟩ := c.t.d.def_ 30 (d := d_number_bent) rfl
  have F30 : Fun K "_law_number_bent" "_law_number_bent" s_number_bent (He.fAd K ("_law_number_bent", none)) fd30 := fun_of D30
  have b30 := F30.binds (ps := ["_law_deck_here", "_law_part"]) fun _ _ _ _ _ _ us hl => match us, hl with | [_, _], _ => rfl
  obtain ⟨fd31, D31⟩ := c.t.d.def_ 31 (d := d_bent) rfl
  have F31 : Fun K "_law_bent" "_law_bent" s_bent (He.fAd K ("_law_bent", none)) fd31 := fun_of D31
  have b31 := F31.binds (ps := ["_law_deck_here", "_law_ledger"]) fun _ _ _ _ _ _ us hl => match us, hl with | [_, _], _ => rfl
  obtain ⟨fd32, D32⟩ := c.t.d.def_ 32 (d := d_law) rfl
  have F32 : Fun K "law" "law" s_law (He.fAd K ("law", none)) fd32 := fun_of D32
  have b32 := F32.binds (ps := ["_law_script"]) fun _ _ _ _ _ _ us hl => match us, hl with | [_], _ => rfl
  have e := hfa.symm.trans (He.glo_ok X G (c.t.d.fact 32 (f := .glo "law") rfl))
  cases e
  let T : Tx K mg := { f_is_whole := _, fd_is_whole := _, F_is_whole := F0, g_is_whole := He.glo_ok X G (c.t.d.fact 0 (f := .glo "is_whole") rfl), b_is_whole := b0, f_choices_of := _, fd_choices_of := _, F_choices_of := F1, g_choices_of := He.glo_ok X G (c.t.d.fact 1 (f := .glo "choices_of") rfl), b_choices_of := b1, f_table_worth := _, fd_table_worth := _, F_table_worth := F2, g_table_worth := He.glo_ok X G (c.t.d.fact 2 (f := .glo "table_worth") rfl), b_table_worth := b2, f_settled := _, fd_settled := _, F_settled := F3, g_settled := He.glo_ok X G (c.t.d.fact 3 (f := .glo "settled") rfl), b_settled := b3, f_input_numbers := _, fd_input_numbers := _, F_input_numbers := F4, g_input_numbers := He.glo_ok X G (c.t.d.fact 4 (f := .glo "input_numbers") rfl), b_input_numbers := b4, c_input_numbers := (He.cT K ("input_numbers", none)).1, P_input_numbers := (He.cT K ("input_numbers", none)).2, cd_input_numbers := code_of F4, f_at_wires := _, fd_at_wires := _, F_at_wires := F5, g_at_wires := He.glo_ok X G (c.t.d.fact 5 (f := .glo "at_wires") rfl), b_at_wires := b5, c_at_wires := (He.cT K ("at_wires", none)).1, P_at_wires := (He.cT K ("at_wires", none)).2, cd_at_wires := code_of F5, f_steps_from := _, fd_steps_from := _, F_steps_from := F6, g_steps_from := He.glo_ok X G (c.t.d.fact 6 (f := .glo "steps_from") rfl), b_steps_from := b6, f_worth_by := _, fd_worth_by := _, F_worth_by := F7, g_worth_by := He.glo_ok X G (c.t.d.fact 7 (f := .glo "worth_by") rfl), b_worth_by := b7, f_strides_of := _, fd_strides_of := _, F_strides_of := F8, g_strides_of := He.glo_ok X G (c.t.d.fact 8 (f := .glo "strides_of") rfl), b_strides_of := b8, f_many_counts := _, fd_many_counts := _, F_many_counts := F9, g_many_counts := He.glo_ok X G (c.t.d.fact 9 (f := .glo "many_counts") rfl), b_many_counts := b9, f_ledger_holds := _, fd_ledger_holds := _, F_ledger_holds := F10, g_ledger_holds := He.glo_ok X G (c.t.d.fact 10 (f := .glo "ledger_holds") rfl), b_ledger_holds := b10, f_part_holds := _, fd_part_holds := _, F_part_holds := F11, g_part_holds := He.glo_ok X G (c.t.d.fact 11 (f := .glo "part_holds") rfl), b_part_holds := b11, c_part_holds := (He.cT K ("part_holds", none)).1, P_part_holds := (He.cT K ("part_holds", none)).2, cd_part_holds := code_of F11, f_deck := _, fd_deck := _, F_deck := F12, g_deck := He.glo_ok X G (c.t.d.fact 12 (f := .glo "_law_deck") rfl), b_deck := b12, f_draw := _, fd_draw := _, F_draw := F13, g_draw := He.glo_ok X G (c.t.d.fact 13 (f := .glo "_law_draw") rfl), b_draw := b13, f_table := _, fd_table := _, F_table := F14, g_table := He.glo_ok X G (c.t.d.fact 14 (f := .glo "_law_table") rfl), b_table := b14, f_worth := _, fd_worth := _, F_worth := F15, g_worth := He.glo_ok X G (c.t.d.fact 15 (f := .glo "_law_worth") rfl), b_worth := b15, f_counts := _, fd_counts := _, F_counts := F16, g_counts := He.glo_ok X G (c.t.d.fact 16 (f := .glo "_law_counts") rfl), b_counts := b16, f_worths := _, fd_worths := _, F_worths := F17, g_worths := He.glo_ok X G (c.t.d.fact 17 (f := .glo "_law_worths") rfl), b_worths := b17, f_fars := _, fd_fars := _, F_fars := F18, g_fars := He.glo_ok X G (c.t.d.fact 18 (f := .glo "_law_fars") rfl), b_fars := b18, f_ins := _, fd_ins := _, F_ins := F19, g_ins := He.glo_ok X G (c.t.d.fact 19 (f := .glo "_law_ins") rfl), b_ins := b19, f_net := _, fd_net := _, F_net := F20, g_net := He.glo_ok X G (c.t.d.fact 20 (f := .glo "_law_net") rfl), b_net := b20, f_change := _, fd_change := _, F_change := F21, g_change := He.glo_ok X G (c.t.d.fact 21 (f := .glo "_law_change") rfl), b_change := b21, f_l_settled := _, fd_l_settled := _, F_l_settled := F22, g_l_settled := He.glo_ok X G (c.t.d.fact 22 (f := .glo "_law_settled") rfl), b_l_settled := b22, f_of := _, fd_of := _, F_of := F23, g_of := He.glo_ok X G (c.t.d.fact 23 (f := .glo "_law_of") rfl), b_of := b23, f_still := _, fd_still := _, F_still := F24, g_still := He.glo_ok X G (c.t.d.fact 24 (f := .glo "_law_still") rfl), b_still := b24, f_size := _, fd_size := _, F_size := F25, g_size := He.glo_ok X G (c.t.d.fact 25 (f := .glo "_law_size") rfl), b_size := b25, f_more := _, fd_more := _, F_more := F26, g_more := He.glo_ok X G (c.t.d.fact 26 (f := .glo "_law_more") rfl), b_more := b26, f_own := _, fd_own := _, F_own := F27, g_own := He.glo_ok X G (c.t.d.fact 27 (f := .glo "_law_own") rfl), b_own := b27, f_part_right := _, fd_part_right := _, F_part_right := F28, g_part_right := He.glo_ok X G (c.t.d.fact 28 (f := .glo "_law_part_right") rfl), b_part_right := b28, f_right := _, fd_right := _, F_right := F29, g_right := He.glo_ok X G (c.t.d.fact 29 (f := .glo "_law_right") rfl), b_right := b29, f_number_bent := _, fd_number_bent := _, F_number_bent := F30, g_number_bent := He.glo_ok X G (c.t.d.fact 30 (f := .glo "_law_number_bent") rfl), b_number_bent := b30, f_bent := _, fd_bent := _, F_bent := F31, g_bent := He.glo_ok X G (c.t.d.fact 31 (f := .glo "_law_bent") rfl), b_bent := b31, f_law := _, fd_law := _, F_law := F32, g_law := He.glo_ok X G (c.t.d.fact 32 (f := .glo "law") rfl), b_law := b32, m_all := He.free_ok X G (c.t.d.fact 33 (f := .free "all") rfl), m_bool := He.free_ok X G (c.t.d.fact 34 (f := .free "bool") rfl), m_enumerate := He.free_ok X G (c.t.d.fact 35 (f := .free "enumerate") rfl), m_int := He.free_ok X G (c.t.d.fact 36 (f := .free "int") rfl), m_isinstance := He.free_ok X G (c.t.d.fact 37 (f := .free "isinstance") rfl), m_len := He.free_ok X G (c.t.d.fact 38 (f := .free "len") rfl), m_list := He.free_ok X G (c.t.d.fact 39 (f := .free "list") rfl), m_max := He.free_ok X G (c.t.d.fact 40 (f := .free "max") rfl), m_min := He.free_ok X G (c.t.d.fact 41 (f := .free "min") rfl), m_range := He.free_ok X G (c.t.d.fact 42 (f := .free "range") rfl), m_repr := He.free_ok X G (c.t.d.fact 43 (f := .free "repr") rfl), m_str := He.free_ok X G (c.t.d.fact 44 (f := .free "str") rfl), m_sum := He.free_ok X G (c.t.d.fact 45 (f := .free "sum") rfl), m_tuple := He.free_ok X G (c.t.d.fact 46 (f := .free "tuple") rfl), m_zip := He.free_ok X G (c.t.d.fact 47 (f := .free "zip") rfl) }
  refine ⟨fd32, tf.map (He.cT K), sp_law K T.tabs, ?_, ?_, ?_, ?_, ?_, ?_⟩
  · rintro p hp
    obtain ⟨d, hd, rfl⟩ := List.mem_map.mp hp
    exact c.empty d hd
  · rintro p hp
    obtain ⟨d, hd, rfl⟩ := List.mem_map.mp hp
    exact c.out d hd
  · rintro p hp
    obtain ⟨d, hd, rfl⟩ := List.mem_map.mp hp
    exact PySem.W.codeHd_of_K X (c.hd d hd)
  · obtain ⟨oc, od, kV, doc, pm, an, cdv, ct, osl, rfl, lk, hcd⟩ := F32.ex
    exact fun s v => .of_eq rfl
  · intro H a ns hl hbits hT hS
    refine ⟨a, ns, rfl, hS, hl, fun P hP => ?_, fun _ => rfl⟩
    have hP : P ∈ (tf.map (He.cT K)).map (·.2) := hP
    obtain ⟨p, hp, rfl⟩ := List.mem_map.mp hP
    exact ⟨#[], hT p hp, by trivial⟩
  · intro base KB GB hTB
    have B : Tb base T := ⟨tab_of (hTB (He.cT K ("input_numbers", none)) (List.mem_map.mpr ⟨_, (show (("input_numbers", none) : He.Defn) ∈ tf by decide), rfl⟩)), tab_of (hTB (He.cT K ("at_wires", none)) (List.mem_map.mpr ⟨_, (show (("at_wires", none) : He.Defn) ∈ tf by decide), rfl⟩)), tab_of (hTB (He.cT K ("part_holds", none)) (List.mem_map.mpr ⟨_, (show (("part_holds", none) : He.Defn) ∈ tf by decide), rfl⟩))⟩
    exact ok_law T B
end Gk
open PySem PySem.W PyProof.Rows
set_option maxRecDepth 100000 in
set_option maxHeartbeats 0 in
theorem PySem.Challenge.cw_glitchnet_k33_ledgers_of_any_hand_holds : PySem.Challenge.rw_glitchnet_k33_ledgers_of_any_hand.Holds := by
  w_on; o_law
  refine HandSHeadRun.head_any (r := OpenLaw.row PySem.Challenge.rw_glitchnet_k33_ledgers_of_any_hand) (q := view (OpenLaw.row PySem.Challenge.rw_glitchnet_k33_ledgers_of_any_hand).prog [37]) (H := Gk.hk) (ob := Gk.ob) (M := 3000) (loose := [("is_whole" : PySem.Str), ("choices_of" : PySem.Str), ("table_worth" : PySem.Str), ("settled" : PySem.Str), ("input_numbers" : PySem.Str), ("at_wires" : PySem.Str), ("steps_from" : PySem.Str), ("worth_by" : PySem.Str), ("strides_of" : PySem.Str), ("many_counts" : PySem.Str), ("ledger_holds" : PySem.Str), ("part_holds" : PySem.Str), ("_law_deck" : PySem.Str), ("_law_draw" : PySem.Str), ("_law_table" : PySem.Str), ("_law_worth" : PySem.Str), ("_law_counts" : PySem.Str), ("_law_worths" : PySem.Str), ("_law_fars" : PySem.Str), ("_law_ins" : PySem.Str), ("_law_net" : PySem.Str), ("_law_change" : PySem.Str), ("_law_settled" : PySem.Str), ("_law_of" : PySem.Str), ("_law_still" : PySem.Str), ("_law_size" : PySem.Str), ("_law_more" : PySem.Str), ("_law_own" : PySem.Str), ("_law_part_right" : PySem.Str), ("_law_right" : PySem.Str), ("_law_number_bent" : PySem.Str), ("_law_bent" : PySem.Str)]) (d := HandSHeadRun.topDef (OpenLaw.row PySem.Challenge.rw_glitchnet_k33_ledgers_of_any_hand).prog 37) (kwd := []) Gk.ob_eq
    (by kernel_rfl) (fun s => by kernel_rfl) Gk.run (by kernel_rfl) (by kernel_rfl) (by kernel_rfl) (by rfl) (by first | assumption | decide +kernel) (by decide +kernel) ⟨rfl, rfl, rfl, rfl, rfl, by decide +kernel⟩ ?hw ?hc
  case hw => w_witness2
  case hc =>
    refine Gk.walk_GT (l := PySem.Challenge.rw_glitchnet_k33_ledgers_of_any_hand) (n := 63) (k := 6) (x := "_law_script") (CX := fun _ => L2.CX0) rfl (by decide) (by kernel_rfl) ⟨rfl, by decide, by decide⟩ ?F (fun _ _ _ _ _ z => z)
    intro w mg fa h Y G hmg0
    obtain ⟨K, KX, c⟩ := Y
    have hmg : mg ("law" : PySem.Str) = some (.ref fa) := by
      have e : (HandSHeadRun.topDef (OpenLaw.row PySem.Challenge.rw_glitchnet_k33_ledgers_of_any_hand).prog 37).name = ("law" : PySem.Str) := by kernel_rfl
      rw [← e]
      exact hmg0
    exact ⟨K, KX, Gk.facts KX G hmg c⟩
