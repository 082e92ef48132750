import PyProof.Rows.All
import Wide.All
import OpenK.AllK
import Wide.FinOn
import HandS.ForMost
import HandS.IsInst
import HandS.TupLe
import HandS.TupAny
import HandS.TupMul
import HandS.More
import HandS.Codes
import HandS.Conv
import HandS.Deep
import HandS.TupSets
import HandS.Style
import HandS.Strs
import HandS.AnyAll
import HandS.GenList
import HandS.JoinGen
import HandS.Zip
import HandS.Rev
import HandS.SetFor
import HandS.FStr
import HandS.Text
import KE.KRevSl
import HandS.RevTup
import HandS.Head0
import HandS.Head1
import HandS.Head2
import HandS.HeadEnd
import HandS.HeadHook1
import HandS.HeadHook2
import HandS.HeadHook3
import HandS.HeadHook4
import HandS.HeadWalk
import HandS.Defaults
import HandS.ReplaceLit
import KE.KUnpackStar
import PyProof.ReprLen
import PyProof.ReprRoads
import PySem.Challenge.RW_glitchnet_k57_waves_of_forms
import HandS.Wide
import HandS.SetKeys
import HandS.SortInts
import HandS.WideBits
import KE.GoesMore
import PyProof.ListStr
import PyProof.TupleOfStr
set_option Elab.async false
set_option linter.all false
set_option maxRecDepth 100000
set_option maxHeartbeats 1000000
namespace Gk
open PySem PySem.Spec PyProof.Rows L2
/-! ### a module's dict with texts as keys -/
namespace KdS
open PySem PySem.Spec PyProof.Rows L2
inductive Kv where
  | i (n : Int)
  | s (x : PySem.Str)
  | r
def Kv.ok : Kv → Value → Bool
  | .i n, .int j _ => decide (j = n)
  | .s x, .str y _ => decide (y = x)
  | .r, .ref _ => true
  | _, _ => false
def kvB : List (PySem.Str × Kv) → List DictEntry → Bool
  | [], [] => true
  | (k, v) :: r, e :: t => (match e.key with
    | .str x _ => decide (x = k)
    | _ => false) && (v.ok e.val && kvB r t)
  | _, _ => false
def kdB (K : PySem.W.Frag) (x : PySem.Str) (kvs : List (PySem.Str × Kv)) : Bool := match K.lookup (He.ga K x) with
  | some ⟨_, _, .dict es _, _⟩ => kvB kvs es.toList
  | _ => false
def find : List (PySem.Str × Kv) → PySem.Str → Option Kv
  | [], _ => none
  | (k, v) :: r, z => if k = z then some v else find r z
/-- what the dict has at a text -/
def At (K : PySem.W.Frag) (a : Addr) (kvs : List (PySem.Str × Kv)) (z : PySem.Str) : Prop := ∃ r : Option Value, PySem.W.nsIn K a z = some r ∧ ((∃ kv u, find kvs z = some kv ∧ r = some u ∧ kv.ok u = true) ∨ (find kvs z = none ∧ r = none))
theorem kv_find : ∀ {kvs : List (PySem.Str × Kv)} {es : List DictEntry}, kvB kvs es = true → ∀ z : PySem.Str, es.any (·.refKey) = false ∧
    ((∃ kv e, find kvs z = some kv ∧ es.find? (·.key.isStr z) = some e ∧ kv.ok e.val = true) ∨ (find kvs z = none ∧ es.find? (·.key.isStr z) = none))
  | [], [], _, z => ⟨rfl, .inr ⟨rfl, rfl⟩⟩
  | [], _ :: _, h, _ => by cases h
  | _ :: _, [], h, _ => by cases h
  | (k, v) :: r, e :: t, h, z => by
    unfold kvB at h
    obtain ⟨h1, h2⟩ := He.ba h
    obtain ⟨h3, h4⟩ := He.ba h2
    obtain ⟨i1, i2⟩ := kv_find h4 z
    obtain ⟨eh, ek, ev⟩ := e
    split at h1
    · rename_i x tk e1
      have e1 : ek = .str x tk := e1
      have h1 : x = k := of_decide_eq_true h1
      subst e1 h1
      refine ⟨?_, ?_⟩
      · rw [List.any_cons, i1, Bool.or_false]
        rfl
      · by_cases hz : x = z
        · refine .inl ⟨v, ⟨eh, .str x tk, ev⟩, if_pos hz, ?_, h3⟩
          rw [List.find?_cons_of_pos]
          show (Value.str x tk).isStr z = true
          subst hz
          exact decide_eq_true rfl
        · have nz : (Value.str x tk).isStr z = false := decide_eq_false hz
          rcases i2 with ⟨kv, e', f1, f2, f3⟩ | ⟨f1, f2⟩
          · refine .inl ⟨kv, e', (if_neg hz).trans f1, ?_, f3⟩
            rw [List.find?_cons_of_neg (by show ¬ (Value.str x tk).isStr z = true; rw [nz]; exact Bool.false_ne_true)]
            exact f2
          · refine .inr ⟨(if_neg hz).trans f1, ?_⟩
            rw [List.find?_cons_of_neg (by show ¬ (Value.str x tk).isStr z = true; rw [nz]; exact Bool.false_ne_true)]
            exact f2
    · cases h1
theorem kdB_ok {K : PySem.W.Frag} {x : PySem.Str} {kvs : List (PySem.Str × Kv)} (h : kdB K x kvs = true) (z : PySem.Str) : At K (He.ga K x) kvs z := by
  unfold kdB at h
  split at h
  · rename_i es n sl e
    obtain ⟨h1, h2⟩ := kv_find h z
    unfold At PySem.W.nsIn
    rw [e]
    dsimp only
    rcases h2 with ⟨kv, e', f1, f2, f3⟩ | ⟨f1, f2⟩
    · rw [f2]
      exact ⟨_, rfl, .inl ⟨kv, _, f1, rfl, f3⟩⟩
    · rw [f2]
      dsimp only
      rw [h1]
      exact ⟨none, rfl, .inr ⟨f1, rfl⟩⟩
  · cases h
end KdS

/-! ### the text -/
def topS (i : Nat) : Stmt := PySem.Challenge.pw_glitchnet_k57_waves_of_forms.main.body.getD i (.Pass ⟨0, 0, 0, 0⟩)
abbrev s_inner_of : Stmt := topS 2
abbrev s_still_worth : Stmt := topS 3
abbrev s_choices_of : Stmt := topS 5
abbrev s_table_worth : Stmt := topS 6
abbrev s_pairs_of : Stmt := topS 8
abbrev s_pair_by : Stmt := topS 9
abbrev s_pairs_for : Stmt := topS 10
abbrev s_input_wave : Stmt := topS 12
abbrev s_later : Stmt := topS 13
abbrev s_gate_wave : Stmt := topS 14
abbrev s_turns_of : Stmt := topS 15
abbrev s_input_delay : Stmt := topS 17
abbrev s_form_word : Stmt := topS 19
abbrev s_most_of : Stmt := topS 20
abbrev s_about : Stmt := topS 21
abbrev s_most_of_and : Stmt := topS 22
abbrev s_form_wave : Stmt := topS 23
abbrev s_wave_from : Stmt := topS 24
abbrev s_form_table : Stmt := topS 25
abbrev s_form_shown : Stmt := topS 26
abbrev s_lates_by : Stmt := topS 27
abbrev s_deck : Stmt := topS 29
abbrev s_mixed : Stmt := topS 30
abbrev s_take : Stmt := topS 31
abbrev s_form : Stmt := topS 32
abbrev s_inner : Stmt := topS 33
abbrev s_count : Stmt := topS 34
abbrev s_some_form : Stmt := topS 35
abbrev s_tower : Stmt := topS 36
abbrev s_worth : Stmt := topS 37
abbrev s_pairs : Stmt := topS 38
abbrev s_word : Stmt := topS 39
abbrev s_leaves : Stmt := topS 40
abbrev s_change : Stmt := topS 41
abbrev s_read_at : Stmt := topS 42
abbrev s_wave : Stmt := topS 43
abbrev s_far : Stmt := topS 44
abbrev s_delays : Stmt := topS 45
abbrev s_shown_right : Stmt := topS 46
abbrev s_law : Stmt := topS 47
theorem sc_inner_of : FnScope ["form"] ["form"] (defScope s_inner_of) := ⟨rfl, rfl, rfl, by decide +kernel, rfl, by decide +kernel, by decide +kernel⟩
theorem sc_still_worth : FnScope ["form"] ["form"] (defScope s_still_worth) := ⟨rfl, rfl, rfl, by decide +kernel, rfl, by decide +kernel, by decide +kernel⟩
theorem sc_choices_of : FnScope ["lists", "choices", "options", "choice", "option"] ["lists"] (defScope s_choices_of) := ⟨rfl, rfl, rfl, by decide +kernel, rfl, by decide +kernel, by decide +kernel⟩
theorem sc_table_worth : FnScope ["table", "worths", "place", "worth"] ["table", "worths"] (defScope s_table_worth) := ⟨rfl, rfl, rfl, by decide +kernel, rfl, by decide +kernel, by decide +kernel⟩
theorem sc_pairs_of : FnScope ["word", "first", "last", "fro"] ["word"] (defScope s_pairs_of) := ⟨rfl, rfl, rfl, by decide +kernel, rfl, by decide +kernel, by decide +kernel⟩
theorem sc_pair_by : FnScope ["table", "pairs", "p", "q"] ["table", "pairs"] (defScope s_pair_by) := ⟨rfl, rfl, rfl, by decide +kernel, rfl, by decide +kernel, by decide +kernel⟩
theorem sc_pairs_for : FnScope ["table", "options", "wanted", "pairs"] ["table", "options", "wanted"] (defScope s_pairs_for) := ⟨rfl, rfl, rfl, by decide +kernel, rfl, by decide +kernel, by decide +kernel⟩
theorem sc_input_wave : FnScope ["before", "after", "times"] ["before", "after"] (defScope s_input_wave) := ⟨rfl, rfl, rfl, by decide +kernel, rfl, by decide +kernel, by decide +kernel⟩
theorem sc_later : FnScope ["wave", "delay", "first", "times", "time"] ["wave", "delay"] (defScope s_later) := ⟨rfl, rfl, rfl, by decide +kernel, rfl, by decide +kernel, by decide +kernel⟩
theorem sc_gate_wave : FnScope ["table", "waves", "worths", "first", "now", "times", "time", "places", "place"] ["table", "waves"] (defScope s_gate_wave) := ⟨rfl, rfl, rfl, by decide +kernel, rfl, by decide +kernel, by decide +kernel⟩
theorem sc_turns_of : FnScope ["waves", "places_at", "place", "first", "times", "time"] ["waves"] (defScope s_turns_of) := ⟨rfl, rfl, rfl, by decide +kernel, rfl, by decide +kernel, by decide +kernel⟩
theorem sc_input_delay : FnScope ["word", "pair", "worth"] ["word", "pair"] (defScope s_input_delay) := ⟨rfl, rfl, rfl, by decide +kernel, rfl, by decide +kernel, by decide +kernel⟩
theorem sc_form_word : FnScope ["form", "change", "first", "number"] ["form", "change"] (defScope s_form_word) := ⟨rfl, rfl, rfl, by decide +kernel, rfl, by decide +kernel, by decide +kernel⟩
theorem sc_most_of : FnScope ["form", "change", "a", "b", "head", "still", "parts", "part"] ["form", "change"] (defScope s_most_of) := ⟨rfl, rfl, rfl, by decide +kernel, rfl, by decide +kernel, by decide +kernel⟩
theorem sc_about : FnScope ["most", "first", "number"] ["most"] (defScope s_about) := ⟨rfl, rfl, rfl, by decide +kernel, rfl, by decide +kernel, by decide +kernel⟩
theorem sc_most_of_and : FnScope ["parts", "first", "last", "ups", "spells", "begin", "number", "up"] ["parts"] (defScope s_most_of_and) := ⟨rfl, rfl, rfl, by decide +kernel, rfl, by decide +kernel, by decide +kernel⟩
theorem sc_form_wave : FnScope ["form", "delays", "change"] ["form", "delays", "change"] (defScope s_form_wave) := ⟨rfl, rfl, rfl, by decide +kernel, rfl, by decide +kernel, by decide +kernel⟩
theorem sc_wave_from : FnScope ["form", "lates", "change", "a", "b", "still", "part"] ["form", "lates", "change"] (defScope s_wave_from) := ⟨rfl, rfl, rfl, by decide +kernel, rfl, by decide +kernel, by decide +kernel⟩
theorem sc_form_table : FnScope ["form", "rest"] ["form"] (defScope s_form_table) := ⟨rfl, rfl, rfl, by decide +kernel, rfl, by decide +kernel, by decide +kernel⟩
theorem sc_form_shown : FnScope ["form", "change", "first", "last", "fro"] ["form", "change"] (defScope s_form_shown) := ⟨rfl, rfl, rfl, by decide +kernel, rfl, by decide +kernel, by decide +kernel⟩
theorem sc_lates_by : FnScope ["form", "change", "pair", "inner", "options", "lates", "part", "wanted"] ["form", "change", "pair"] (defScope s_lates_by) := ⟨rfl, rfl, rfl, by decide +kernel, rfl, by decide +kernel, by decide +kernel⟩
theorem sc_deck : FnScope ["_law_script"] ["_law_script"] (defScope s_deck) := ⟨rfl, rfl, rfl, by decide +kernel, rfl, by decide +kernel, by decide +kernel⟩
theorem sc_mixed : FnScope ["_law_cell", "_law_k", "_law_number"] ["_law_cell", "_law_k"] (defScope s_mixed) := ⟨rfl, rfl, rfl, by decide +kernel, rfl, by decide +kernel, by decide +kernel⟩
theorem sc_take : FnScope ["_law_deck_here", "_law_most", "_law_cells", "_law_cell"] ["_law_deck_here", "_law_most"] (defScope s_take) := ⟨rfl, rfl, rfl, by decide +kernel, rfl, by decide +kernel, by decide +kernel⟩
theorem sc_form : FnScope ["_law_deck_here", "_law_many", "_law_deep", "_law_left", "_law_way", "_law_fixed", "_law_word_here", "_law_parts", "_law_k"] ["_law_deck_here", "_law_many", "_law_deep", "_law_left"] (defScope s_form) := ⟨rfl, rfl, rfl, by decide +kernel, rfl, by decide +kernel, by decide +kernel⟩
theorem sc_inner : FnScope ["_law_form_here"] ["_law_form_here"] (defScope s_inner) := ⟨rfl, rfl, rfl, by decide +kernel, rfl, by decide +kernel, by decide +kernel⟩
theorem sc_count : FnScope ["_law_form_here", "_law_part"] ["_law_form_here"] (defScope s_count) := ⟨rfl, rfl, rfl, by decide +kernel, rfl, by decide +kernel, by decide +kernel⟩
theorem sc_some_form : FnScope ["_law_deck_here", "_law_many", "_law_way", "_law_found"] ["_law_deck_here", "_law_many"] (defScope s_some_form) := ⟨rfl, rfl, rfl, by decide +kernel, rfl, by decide +kernel, by decide +kernel⟩
theorem sc_tower : FnScope ["_law_deck_here", "_law_many", "_law_found", "_law_k", "_law_way", "_law_leaf", "_law_third", "_law_some"] ["_law_deck_here", "_law_many"] (defScope s_tower) := ⟨rfl, rfl, rfl, by decide +kernel, rfl, by decide +kernel, by decide +kernel⟩
theorem sc_worth : FnScope ["_law_form_here", "_law_row", "_law_word_here", "_law_told", "_law_part"] ["_law_form_here", "_law_row"] (defScope s_worth) := ⟨rfl, rfl, rfl, by decide +kernel, rfl, by decide +kernel, by decide +kernel⟩
theorem sc_pairs : FnScope ["_law_form_here", "_law_change_here", "_law_word_here", "_law_first", "_law_last", "_law_told", "_law_found", "_law_pairs_here", "_law_more", "_law_one", "_law_other", "_law_part", "_law_k", "_law_pair", "_law_there", "_law_then"] ["_law_form_here", "_law_change_here"] (defScope s_pairs) := ⟨rfl, rfl, rfl, by decide +kernel, rfl, by decide +kernel, by decide +kernel⟩
theorem sc_word : FnScope ["_law_form_here", "_law_change_here", "_law_first", "_law_last", "_law_pairs_here", "_law_pair"] ["_law_form_here", "_law_change_here"] (defScope s_word) := ⟨rfl, rfl, rfl, by decide +kernel, rfl, by decide +kernel, by decide +kernel⟩
theorem sc_leaves : FnScope ["_law_form_here", "_law_part"] ["_law_form_here"] (defScope s_leaves) := ⟨rfl, rfl, rfl, by decide +kernel, rfl, by decide +kernel, by decide +kernel⟩
theorem sc_change : FnScope ["_law_deck_here", "_law_many", "_law_row", "_law_way", "_law_at", "_law_k", "_law_one"] ["_law_deck_here", "_law_many"] (defScope s_change) := ⟨rfl, rfl, rfl, by decide +kernel, rfl, by decide +kernel, by decide +kernel⟩
theorem sc_read_at : FnScope ["_law_form_here", "_law_change_here", "_law_delays_here", "_law_time", "_law_word_here", "_law_told", "_law_part", "_law_worth_here"] ["_law_form_here", "_law_change_here", "_law_delays_here", "_law_time"] (defScope s_read_at) := ⟨rfl, rfl, rfl, by decide +kernel, rfl, by decide +kernel, by decide +kernel⟩
theorem sc_wave : FnScope ["_law_form_here", "_law_change_here", "_law_delays_here", "_law_first", "_law_here", "_law_times", "_law_time", "_law_there"] ["_law_form_here", "_law_change_here", "_law_delays_here"] (defScope s_wave) := ⟨rfl, rfl, rfl, by decide +kernel, rfl, by decide +kernel, by decide +kernel⟩
theorem sc_far : FnScope ["_law_deck_here"] ["_law_deck_here"] (defScope s_far) := ⟨rfl, rfl, rfl, by decide +kernel, rfl, by decide +kernel, by decide +kernel⟩
theorem sc_delays : FnScope ["_law_deck_here", "_law_many", "_law_way", "_law_far_here", "_law_k"] ["_law_deck_here", "_law_many"] (defScope s_delays) := ⟨rfl, rfl, rfl, by decide +kernel, rfl, by decide +kernel, by decide +kernel⟩
theorem sc_shown_right : FnScope ["_law_form_here", "_law_change_here", "_law_told", "_law_one"] ["_law_form_here", "_law_change_here"] (defScope s_shown_right) := ⟨rfl, rfl, rfl, by decide +kernel, rfl, by decide +kernel, by decide +kernel⟩
theorem sc_law : FnScope ["_law_script", "_law_deck_here", "_law_turn", "_law_many", "_law_form_here", "_law_changes", "_law_again", "_law_delays_here", "_law_due", "_law_k", "_law_change_here"] ["_law_script"] (defScope s_law) := ⟨rfl, rfl, rfl, by decide +kernel, rfl, by decide +kernel, by decide +kernel⟩
structure Tx (w : World) (K : PySem.W.Frag) (mg : Str → Option Value) where
  f_inner_of : Addr
  fd_inner_of : FuncData
  F_inner_of : Fun K "inner_of" "inner_of" s_inner_of f_inner_of fd_inner_of
  g_inner_of : mg "inner_of" = some (.ref f_inner_of)
  b_inner_of : Binds K fd_inner_of ["form"] []
  f_still_worth : Addr
  fd_still_worth : FuncData
  F_still_worth : Fun K "still_worth" "still_worth" s_still_worth f_still_worth fd_still_worth
  g_still_worth : mg "still_worth" = some (.ref f_still_worth)
  b_still_worth : Binds K fd_still_worth ["form"] []
  f_choices_of : Addr
  fd_choices_of : FuncData
  F_choices_of : Fun K "choices_of" "choices_of" s_choices_of f_choices_of fd_choices_of
  g_choices_of : mg "choices_of" = some (.ref f_choices_of)
  b_choices_of : Binds K fd_choices_of ["lists"] []
  f_table_worth : Addr
  fd_table_worth : FuncData
  F_table_worth : Fun K "table_worth" "table_worth" s_table_worth f_table_worth fd_table_worth
  g_table_worth : mg "table_worth" = some (.ref f_table_worth)
  b_table_worth : Binds K fd_table_worth ["table", "worths"] []
  f_pairs_of : Addr
  fd_pairs_of : FuncData
  F_pairs_of : Fun K "pairs_of" "pairs_of" s_pairs_of f_pairs_of fd_pairs_of
  g_pairs_of : mg "pairs_of" = some (.ref f_pairs_of)
  b_pairs_of : Binds K fd_pairs_of ["word"] []
  f_pair_by : Addr
  fd_pair_by : FuncData
  F_pair_by : Fun K "pair_by" "pair_by" s_pair_by f_pair_by fd_pair_by
  g_pair_by : mg "pair_by" = some (.ref f_pair_by)
  b_pair_by : Binds K fd_pair_by ["table", "pairs"] []
  f_pairs_for : Addr
  fd_pairs_for : FuncData
  F_pairs_for : Fun K "pairs_for" "pairs_for" s_pairs_for f_pairs_for fd_pairs_for
  g_pairs_for : mg "pairs_for" = some (.ref f_pairs_for)
  b_pairs_for : Binds K fd_pairs_for ["table", "options", "wanted"] []
  f_input_wave : Addr
  fd_input_wave : FuncData
  F_input_wave : Fun K "input_wave" "input_wave" s_input_wave f_input_wave fd_input_wave
  g_input_wave : mg "input_wave" = some (.ref f_input_wave)
  b_input_wave : Binds K fd_input_wave ["before", "after"] []
  f_later : Addr
  fd_later : FuncData
  F_later : Fun K "later" "later" s_later f_later fd_later
  g_later : mg "later" = some (.ref f_later)
  b_later : Binds K fd_later ["wave", "delay"] []
  c_later : Addr
  P_later : Addr
  cd_later : fd_later.code = .ref c_later
  f_gate_wave : Addr
  fd_gate_wave : FuncData
  F_gate_wave : Fun K "gate_wave" "gate_wave" s_gate_wave f_gate_wave fd_gate_wave
  g_gate_wave : mg "gate_wave" = some (.ref f_gate_wave)
  b_gate_wave : Binds K fd_gate_wave ["table", "waves"] []
  f_turns_of : Addr
  fd_turns_of : FuncData
  F_turns_of : Fun K "turns_of" "turns_of" s_turns_of f_turns_of fd_turns_of
  g_turns_of : mg "turns_of" = some (.ref f_turns_of)
  b_turns_of : Binds K fd_turns_of ["waves"] []
  f_input_delay : Addr
  fd_input_delay : FuncData
  F_input_delay : Fun K "input_delay" "input_delay" s_input_delay f_input_delay fd_input_delay
  g_input_delay : mg "input_delay" = some (.ref f_input_delay)
  b_input_delay : Binds K fd_input_delay ["word", "pair"] []
  c_input_delay : Addr
  P_input_delay : Addr
  cd_input_delay : fd_input_delay.code = .ref c_input_delay
  f_form_word : Addr
  fd_form_word : FuncData
  F_form_word : Fun K "form_word" "form_word" s_form_word f_form_word fd_form_word
  g_form_word : mg "form_word" = some (.ref f_form_word)
  b_form_word : Binds K fd_form_word ["form", "change"] []
  f_most_of : Addr
  fd_most_of : FuncData
  F_most_of : Fun K "most_of" "most_of" s_most_of f_most_of fd_most_of
  g_most_of : mg "most_of" = some (.ref f_most_of)
  b_most_of : Binds K fd_most_of ["form", "change"] []
  f_about : Addr
  fd_about : FuncData
  F_about : Fun K "about" "about" s_about f_about fd_about
  g_about : mg "about" = some (.ref f_about)
  b_about : Binds K fd_about ["most"] []
  f_most_of_and : Addr
  fd_most_of_and : FuncData
  F_most_of_and : Fun K "most_of_and" "most_of_and" s_most_of_and f_most_of_and fd_most_of_and
  g_most_of_and : mg "most_of_and" = some (.ref f_most_of_and)
  b_most_of_and : Binds K fd_most_of_and ["parts"] []
  c_most_of_and : Addr
  P_most_of_and : Addr
  cd_most_of_and : fd_most_of_and.code = .ref c_most_of_and
  f_form_wave : Addr
  fd_form_wave : FuncData
  F_form_wave : Fun K "form_wave" "form_wave" s_form_wave f_form_wave fd_form_wave
  g_form_wave : mg "form_wave" = some (.ref f_form_wave)
  b_form_wave : Binds K fd_form_wave ["form", "delays", "change"] []
  f_wave_from : Addr
  fd_wave_from : FuncData
  F_wave_from : Fun K "wave_from" "wave_from" s_wave_from f_wave_from fd_wave_from
  g_wave_from : mg "wave_from" = some (.ref f_wave_from)
  b_wave_from : Binds K fd_wave_from ["form", "lates", "change"] []
  f_form_table : Addr
  fd_form_table : FuncData
  F_form_table : Fun K "form_table" "form_table" s_form_table f_form_table fd_form_table
  g_form_table : mg "form_table" = some (.ref f_form_table)
  b_form_table : Binds K fd_form_table ["form"] []
  f_form_shown : Addr
  fd_form_shown : FuncData
  F_form_shown : Fun K "form_shown" "form_shown" s_form_shown f_form_shown fd_form_shown
  g_form_shown : mg "form_shown" = some (.ref f_form_shown)
  b_form_shown : Binds K fd_form_shown ["form", "change"] []
  f_lates_by : Addr
  fd_lates_by : FuncData
  F_lates_by : Fun K "lates_by" "lates_by" s_lates_by f_lates_by fd_lates_by
  g_lates_by : mg "lates_by" = some (.ref f_lates_by)
  b_lates_by : Binds K fd_lates_by ["form", "change", "pair"] []
  f_deck : Addr
  fd_deck : FuncData
  F_deck : Fun K "_law_deck" "_law_deck" s_deck f_deck fd_deck
  g_deck : mg "_law_deck" = some (.ref f_deck)
  b_deck : Binds K fd_deck ["_law_script"] []
  f_mixed : Addr
  fd_mixed : FuncData
  F_mixed : Fun K "_law_mixed" "_law_mixed" s_mixed f_mixed fd_mixed
  g_mixed : mg "_law_mixed" = some (.ref f_mixed)
  b_mixed : Binds K fd_mixed ["_law_cell", "_law_k"] []
  f_take : Addr
  fd_take : FuncData
  F_take : Fun K "_law_take" "_law_take" s_take f_take fd_take
  g_take : mg "_law_take" = some (.ref f_take)
  b_take : Binds K fd_take ["_law_deck_here", "_law_most"] []
  f_form : Addr
  fd_form : FuncData
  F_form : Fun K "_law_form" "_law_form" s_form f_form fd_form
  g_form : mg "_law_form" = some (.ref f_form)
  b_form : Binds K fd_form ["_law_deck_here", "_law_many", "_law_deep", "_law_left"] []
  f_inner : Addr
  fd_inner : FuncData
  F_inner : Fun K "_law_inner" "_law_inner" s_inner f_inner fd_inner
  g_inner : mg "_law_inner" = some (.ref f_inner)
  b_inner : Binds K fd_inner ["_law_form_here"] []
  f_count : Addr
  fd_count : FuncData
  F_count : Fun K "_law_count" "_law_count" s_count f_count fd_count
  g_count : mg "_law_count" = some (.ref f_count)
  b_count : Binds K fd_count ["_law_form_here"] []
  f_some_form : Addr
  fd_some_form : FuncData
  F_some_form : Fun K "_law_some_form" "_law_some_form" s_some_form f_some_form fd_some_form
  g_some_form : mg "_law_some_form" = some (.ref f_some_form)
  b_some_form : Binds K fd_some_form ["_law_deck_here", "_law_many"] []
  f_tower : Addr
  fd_tower : FuncData
  F_tower : Fun K "_law_tower" "_law_tower" s_tower f_tower fd_tower
  g_tower : mg "_law_tower" = some (.ref f_tower)
  b_tower : Binds K fd_tower ["_law_deck_here", "_law_many"] []
  f_worth : Addr
  fd_worth : FuncData
  F_worth : Fun K "_law_worth" "_law_worth" s_worth f_worth fd_worth
  g_worth : mg "_law_worth" = some (.ref f_worth)
  b_worth : Binds K fd_worth ["_law_form_here", "_law_row"] []
  f_pairs : Addr
  fd_pairs : FuncData
  F_pairs : Fun K "_law_pairs" "_law_pairs" s_pairs f_pairs fd_pairs
  g_pairs : mg "_law_pairs" = some (.ref f_pairs)
  b_pairs : Binds K fd_pairs ["_law_form_here", "_law_change_here"] []
  f_word : Addr
  fd_word : FuncData
  F_word : Fun K "_law_word" "_law_word" s_word f_word fd_word
  g_word : mg "_law_word" = some (.ref f_word)
  b_word : Binds K fd_word ["_law_form_here", "_law_change_here"] []
  f_leaves : Addr
  fd_leaves : FuncData
  F_leaves : Fun K "_law_leaves" "_law_leaves" s_leaves f_leaves fd_leaves
  g_leaves : mg "_law_leaves" = some (.ref f_leaves)
  b_leaves : Binds K fd_leaves ["_law_form_here"] []
  f_change : Addr
  fd_change : FuncData
  F_change : Fun K "_law_change" "_law_change" s_change f_change fd_change
  g_change : mg "_law_change" = some (.ref f_change)
  b_change : Binds K fd_change ["_law_deck_here", "_law_many"] []
  f_read_at : Addr
  fd_read_at : FuncData
  F_read_at : Fun K "_law_read_at" "_law_read_at" s_read_at f_read_at fd_read_at
  g_read_at : mg "_law_read_at" = some (.ref f_read_at)
  b_read_at : Binds K fd_read_at ["_law_form_here", "_law_change_here", "_law_delays_here", "_law_time"] []
  f_wave : Addr
  fd_wave : FuncData
  F_wave : Fun K "_law_wave" "_law_wave" s_wave f_wave fd_wave
  g_wave : mg "_law_wave" = some (.ref f_wave)
  b_wave : Binds K fd_wave ["_law_form_here", "_law_change_here", "_law_delays_here"] []
  f_far : Addr
  fd_far : FuncData
  F_far : Fun K "_law_far" "_law_far" s_far f_far fd_far
  g_far : mg "_law_far" = some (.ref f_far)
  b_far : Binds K fd_far ["_law_deck_here"] []
  f_delays : Addr
  fd_delays : FuncData
  F_delays : Fun K "_law_delays" "_law_delays" s_delays f_delays fd_delays
  g_delays : mg "_law_delays" = some (.ref f_delays)
  b_delays : Binds K fd_delays ["_law_deck_here", "_law_many"] []
  f_shown_right : Addr
  fd_shown_right : FuncData
  F_shown_right : Fun K "_law_shown_right" "_law_shown_right" s_shown_right f_shown_right fd_shown_right
  g_shown_right : mg "_law_shown_right" = some (.ref f_shown_right)
  b_shown_right : Binds K fd_shown_right ["_law_form_here", "_law_change_here"] []
  f_law : Addr
  fd_law : FuncData
  F_law : Fun K "law" "law" s_law f_law fd_law
  g_law : mg "law" = some (.ref f_law)
  b_law : Binds K fd_law ["_law_script"] []
  m_bool : mg "bool" = none
  m_enumerate : mg "enumerate" = none
  m_int : mg "int" = none
  m_isinstance : mg "isinstance" = none
  m_len : mg "len" = none
  m_list : mg "list" = none
  m_max : mg "max" = none
  m_min : mg "min" = none
  m_range : mg "range" = none
  m_repr : mg "repr" = none
  m_reversed : mg "reversed" = none
  m_set : mg "set" = none
  m_sorted : mg "sorted" = none
  m_sum : mg "sum" = none
  m_tuple : mg "tuple" = none
  m_zip : mg "zip" = none
  A_STILL : Addr
  gA_STILL : mg "STILL" = some (.ref A_STILL)
  kd_STILL : ∃ es n, KDict K w A_STILL es n
  kv_STILL : ∀ z : PySem.Str, KdS.At K A_STILL [(("one" : PySem.Str), KdS.Kv.i 1), (("nought" : PySem.Str), KdS.Kv.i 0)] z
structure Tb (base : Heap) {w : World} {K : PySem.W.Frag} {mg : Str → Option Value} (T : Tx w K mg) : Prop where
  TB_later : GxR.TabB base mg T.c_later T.P_later
  TB_input_delay : GxR.TabB base mg T.c_input_delay T.P_input_delay
  TB_most_of_and : GxR.TabB base mg T.c_most_of_and T.P_most_of_and
def Tx.tabs {w : World} {K : PySem.W.Frag} {mg : Str → Option Value} (T : Tx w K mg) : List Addr := [T.P_later, T.P_input_delay, T.P_most_of_and]
/-! ### generator expressions whose elements may call -/
theorem inv_moved {X : Cx} {cp : List (Addr × Obj)} {σ : L2.St} {H : Hp} {s s' : Shared} (I : Inv X cp σ H s) (os : s'.os = s.os) (bare : AllBare s'.gens) (k : ∀ b o, s.heap.get? b = some o → s'.heap.get? b = some o) : Inv X cp σ H s' :=
  I.call' (ch := []) os (Un.kept k) (I.hok.kept k) bare fun b hb => absurd hb (by simp)
/-- the context of a generator expression's frame: C its frame, s, H the entry, fp its iterator's objects -/
abbrev gblk (X : Cx) (A : Around) (s : Shared) (H : Hp) (cenv : Env) (fp : List Addr) : Cx :=
  { X with A := A, s_0 := s, H_0 := H, env := cenv, outer := X.stack, stack := cenv :: X.stack, ex := fp, fn := fun _ => false, pn := [], xe := fun _ _ => False }
section
variable {X : Cx} {pins : List (Addr × Obj)} {σ : L2.St} {H : Hp} {s : Shared}
theorem gen_start {scope : Scope} {own : List (Str × Nat)} {fp : List Addr} {A : Around} {code it : Value} {s5 : Shared} {cp : List (Addr × Obj)}
    (I : Inv X pins σ H s) (ok : BlkOk X.N X.env.scope scope own) (nocell : ∀ y ∈ scope.names, y.2 ≠ .cell) (hN : X.N.Nodup) (hfp : ∀ b ∈ fp, FpOk X pins H b ∧ b < s.heap.objs.size)
    (hh : A.handled = none) (hfr : A.frames = some (genEnv scope (cloFrom X.env.cells scope.names []) s.heap.objs.size code builtinsNs X.env :: X.stack))
    (os : s5.os = s.os) (bare : AllBare s5.gens) (kp : ∀ b o, s.heap.get? b = some o → s5.heap.get? b = some o)
    (hns : s5.heap.Ns s.heap.objs.size fun y => if y = ".0" then some it else none)
    (hcp : ∀ p ∈ cp, s.heap.objs.size < p.1 ∧ s5.heap.get? p.1 = some p.2 ∧ ∀ v, p.2.data ≠ .cell v) :
    Inv (gblk X A s H (genEnv scope (cloFrom X.env.cells scope.names []) s.heap.objs.size code builtinsNs X.env) fp) cp (wipe σ (own.map (·.2))) H s5 := by
  have hfree : ∀ y ∈ scope.names, y.2 = .free → ∃ c, X.env.cells.lookup y.1 = some c := fun y hy e => by
    rcases ok.free y hy e with k | k
    · exact I.ok.has _ (.inl k)
    · exact I.ok.has _ (.inr k)
  generalize hcenv : genEnv scope (cloFrom X.env.cells scope.names []) s.heap.objs.size code builtinsNs X.env = cenv at hfr ⊢
  have hL : cenv.locals = s.heap.objs.size := by rw [← hcenv]; rfl
  have hcl : cenv.cells = cloFrom X.env.cells scope.names [] := by rw [← hcenv]; rfl
  have hsc : cenv.scope = scope := by rw [← hcenv]; rfl
  have cm : ∀ {y c}, (y, c) ∈ cloFrom X.env.cells scope.names [] → X.env.cells.lookup y = some c ∧ c < s.heap.objs.size := fun {y c} hm => by
    rcases cloFrom_mem hm with hm | ⟨h1, rfl⟩
    · cases hm
    · obtain ⟨c, hc⟩ := hfree _ h1 rfl
      rw [hc]
      obtain ⟨w, z⟩ := I.cell _ _ hc
      exact ⟨rfl, z.lt⟩
  have mem : ∀ {y c}, cenv.cells.lookup y = some c → X.env.cells.lookup y = some c ∧ c < s.heap.objs.size := fun {y c} e => by
    rw [hcl] at e
    exact cm (PySem.mem_of_lookup e)
  have look : ∀ {y}, scope.names.lookup y = some .free → ∃ c, cenv.cells.lookup y = some c ∧ X.env.cells.lookup y = some c := fun {y} hl => by
    have hy : (y, NameKind.free) ∈ scope.names := PySem.mem_of_lookup hl
    obtain ⟨c', e'⟩ := mem_lookup (cloFrom_has (cells := X.env.cells) (acc := []) hy)
    rw [← hcl] at e'
    exact ⟨c', e', (mem e').1⟩
  have okB : (gblk X A s H cenv fp).Ok := by
    refine ⟨I.ok.mod, by show cenv.scope.kind = _; rw [hsc]; exact ok.kind, by show cenv.globals = _; rw [← hcenv]; exact I.ok.glob, by show cenv.builtins = _; rw [← hcenv]; rfl, by show s.heap.objs.size ≤ cenv.locals; rw [hL]; exact Nat.le_refl _,
      fun y z c e1 e2 => I.ok.inj y z c (mem e1).1 (mem e2).1, fun y hy => ?_, fun y c z e => (by cases z), fun _ => hh, hfr, .inr ⟨rfl, by show cenv.frame = some cenv.locals; rw [← hcenv]; rfl⟩, fun b hb => ⟨?_, fun y c e z => ?_⟩, I.bs, Nat.le_trans I.ok.bsz I.sz, fun b o e hb => ?_, fun b hb z => ?_, I.stack, I.stkFree⟩
    · have hy' : scope.names.lookup y = some .cell ∨ scope.names.lookup y = some .free := by
        rw [← hsc]
        exact hy
      rcases hy' with e | e
      · exact absurd rfl (nocell _ (PySem.mem_of_lookup e))
      · obtain ⟨c, h1, _⟩ := look e
        exact ⟨c, h1⟩
    · show b ≠ cenv.locals
      rw [hL]; exact Nat.ne_of_lt (hfp b hb).2
    · exact (hfp b hb).1.2.2.2.2.1 y c (mem e).1 z
    · rcases (hfp b hb).1.2.2.2.1 with z | z
      · exact I.ok.noex b o e z
      · exact absurd (Nat.lt_of_lt_of_le (Heap.lt_size e) (Nat.le_trans I.ok.bsz z)) (Nat.lt_irrefl _)
    · rcases List.mem_cons.mp (I.stkSub b z) with z | z
      · exact (hfp b hb).1.2.1 z
      · exact (hfp b hb).1.2.2.1 z
  refine ⟨okB, os, bare, Un.kept kp, ⟨_, (by show s5.heap.Ns cenv.locals _; rw [hL]; exact hns), fun i y av e1 e2 e3 => ?_⟩, fun y c e => ?_, ?_, fun y c e => I.freeC y c (mem e).1, fun p hp => ?_, I.hok.kept kp, by rw [wipe_length]; exact I.len⟩
  · obtain ⟨e2, hne⟩ := wipe_some e2
    have e3 : Vis scope y := by rw [← hsc]; exact e3
    have no : ∀ k, scope.names.lookup y = some k → ¬ (k = .local ∨ k = .cell) := fun k e hh => by
      rcases ok.own _ (PySem.mem_of_lookup e) hh with e' | e'
      · obtain ⟨p, hp, hpy⟩ := List.mem_map.mp e'
        have e3 := ok.ix p hp
        have : p.1 = y := hpy
        rw [this] at e3
        exact hne (List.mem_map.mpr ⟨p, hp, nodup_ix hN e3 e1⟩)
      · exact e' (List.mem_of_getElem? e1)
    have hfr2 : scope.names.lookup y = some .free := by
      rcases e3 with e | e | e
      · exact absurd (.inl rfl) (no _ e)
      · exact absurd (.inr rfl) (no _ e)
      · exact e
    obtain ⟨m, hn, hl⟩ := I.loc
    have hvis : Vis X.env.scope y := (ok.free _ (PySem.mem_of_lookup hfr2) rfl).elim (fun k => .inr (.inl k)) (fun k => .inr (.inr k))
    obtain ⟨w, r, q⟩ := hl i y av e1 e2 hvis
    refine ⟨w, r, .inr ⟨.inr (by show cenv.scope.names.lookup y = some .free; rw [hsc]; exact hfr2), ?_⟩⟩
    obtain ⟨c, h1, h2⟩ := look hfr2
    rcases q with ⟨k, _⟩ | ⟨_, c', e', z⟩
    · have k : X.env.scope.names.lookup y = some .local := k
      rcases ok.free _ (PySem.mem_of_lookup hfr2) rfl with k' | k' <;> rw [show X.env.scope.names.lookup y = _ from k'] at k <;> cases k
    · rw [h2] at e'; cases e'
      exact ⟨c, h1, z.keeps kp⟩
  · obtain ⟨w, z⟩ := I.cell y c (mem e).1
    exact ⟨w, z.keeps kp⟩
  · show H cenv.locals = none
    rw [hL]; exact I.hok.fresh (Nat.le_refl _)
  · have hp : p ∈ cp := by simpa using hp
    obtain ⟨h1, h2, h3⟩ := hcp p hp
    refine ⟨h2, I.hok.fresh (Nat.le_of_lt h1), by show p.1 ≠ cenv.locals; rw [hL]; exact Nat.ne_of_gt h1, fun z => ?_, h3⟩
    rcases List.mem_cons.mp (I.stkSub _ z) with z | z
    · exact absurd (Nat.lt_trans I.lt h1) (by rw [z]; exact Nat.lt_irrefl _)
    · exact I.nofs (Nat.le_of_lt h1) z
end
/-! ### the talk of a generator and who asks it -/
section
variable {α : Type}
/-- handed out: x; the asker's state a (laid down in the pins cp) goes to one with Nx -/
def YG (Xg : Cx) (fp : List Addr) (tn : Nat → Heap → Prop) (AC : α → List (Addr × Obj) → Prop) (Yd : α → V → Hp → (α → Hp → Prop) → Prop) : Protocol := fun _ s0 v s kap =>
  ∃ (a : α) (x : V) (σ : L2.St) (H : Hp) (i : Nat) (cp : List (Addr × Obj)) (Nx : α → Hp → Prop), RelV x v ∧ AC a cp ∧ (∀ p ∈ cp, s0.heap.get? p.1 = some p.2) ∧ Inv Xg cp σ H s ∧ tn i s.heap ∧ (∀ b ∈ fp, H b = none) ∧ Yd a x H Nx ∧
    ∀ a' cp' s', Nx a' H → AC a' cp' → Inv Xg cp' σ H s' → tn i s'.heap → kap (.send .none) s'
def RG (Xg : Cx) (AC : α → List (Addr × Obj) → Prop) (End : α → Hp → Prop) : GenEnd := fun _ s0 r s =>
  ((r = .ok (.ret .none) ∨ r = .ok .next) ∧ ∃ (a : α) (σ : L2.St) (H : Hp) (cp : List (Addr × Obj)), AC a cp ∧ (∀ p ∈ cp, s0.heap.get? p.1 = some p.2) ∧ Inv Xg cp σ H s ∧ End a H) ∨ ∃ e, r = .error e ∧ False
/-- a generator's turns -/
def tGx (J : It) (g : TG) (tt : TT) (te : TE) (σ0 : L2.St) (vs : List Nat) (End : α → Hp → Prop) (Yd : α → V → Hp → (α → Hp → Prop) → Prop) (W : Nat → Nat → α → Hp → Prop) : Prop :=
  ∀ i m a H, W i m a H → (J.stop i H ∧ End a H) ∨ (J.go i H ∧ ∃ Nx : α → Hp → Prop, (∀ a' H', Nx a' H' → ∃ m', m' < m ∧ W (i + 1) m' a' H') ∧
    ∀ x H', J.yld i H x H' → g x σ0 H' fun σ2 H2 => wipe σ2 vs = σ0 ∧ tt σ2 H2 fun b H3 => if b = true then te σ2 H3 fun y H4 => Yd a y H4 Nx else Nx a H3)
theorem wipe_wipe_some {σ σ2 : L2.St} {vs : List Nat} (h : wipe σ2 vs = σ) : ∀ (j : Nat) v, σ[j]? = some (some v) → σ2[j]? = some (some v) := fun j v e => by
  rw [← h] at e
  exact (wipe_some e).1
theorem seg_gx {X : Cx} {A A' : Around} {s_0 : Shared} {H_0 : Hp} {elt tg iter : Expr} {ifs : List Expr} {scope : Scope} {pos : Pos} {it : Addr} {fp : List Addr} {tn : Nat → Heap → Prop} {J : It} {cenv : Env} {g : TG} {tt : TT} {te : TE} {σ0 : L2.St} {vs : List Nat}
    {AC : α → List (Addr × Obj) → Prop} {End : α → Hp → Prop} {Yd : α → V → Hp → (α → Hp → Prop) → Prop} {W : Nat → Nat → α → Hp → Prop}
    (hA : A.over (.compLoop (.GeneratorExp elt [⟨tg, iter, ifs, 0⟩] scope pos) 0 (.ref it) .none cenv) [] = A') (hc : X.calm = true) (hco : cenv.scope.isCoroutine = false)
    (T : Turn X.prog X.w X.K tg J fp it tn) (pg : PG (gblk X A' s_0 H_0 cenv fp) tg g) (pt : PTs (gblk X A' s_0 H_0 cenv fp) ifs tt) (pe : PE (gblk X A' s_0 H_0 cenv fp) elt te)
    (hAC : ∀ a cp, AC a cp → ∀ p ∈ cp, ∀ b ∈ fp, p.1 ≠ b) (turn : tGx J g tt te σ0 vs End Yd W) :
    ∀ (m n i : Nat) (a : α) (H : Hp) (s₀ s : Shared) (cp : List (Addr × Obj)), m < n → W i m a H → AC a cp → (∀ p ∈ cp, s₀.heap.get? p.1 = some p.2) → Inv (gblk X A' s_0 H_0 cenv fp) cp σ0 H s → tn i s.heap → (∀ b ∈ fp, H b = none) →
      Seg (model X.prog X.w) A (RG (gblk X A' s_0 H_0 cenv fp) AC End) (YG (gblk X A' s_0 H_0 cenv fp) fp tn AC Yd) n s₀
        (.compLoop (.GeneratorExp elt [⟨tg, iter, ifs, 0⟩] scope pos) 0 (.ref it) .none cenv)
        ((model X.prog X.w).den (.compLoop (.GeneratorExp elt [⟨tg, iter, ifs, 0⟩] scope pos) 0 (.ref it) .none cenv)) [] s := by
  have stat : ∀ {a : α} {cp : List (Addr × Obj)} {σ' : L2.St} {H' : Hp} {s' : Shared}, AC a cp → Inv (gblk X A' s_0 H_0 cenv fp) cp σ' H' s' → (∀ b ∈ fp, H' b = none) → ∀ b ∈ fp, FpOk (gblk X A' s_0 H_0 cenv fp) cp H' b := fun {a cp σ' H' s'} hac I' hn b hb =>
    ⟨hn b hb, (I'.ok.exf b hb).1, I'.ok.exfs b hb, .inl hb, fun x c e => (I'.ok.exf b hb).2 x c e, fun p hp => hAC a cp hac p (by simpa using hp) b hb⟩
  intro m
  induction m using Nat.strongRecOn with
  | ind m ih =>
    intro n i a H s₀ s cp hmn w hac tie I st nf
    show Seg _ A _ _ _ s₀ _ ((compTurn (.GeneratorExp elt [⟨tg, iter, ifs, 0⟩] scope pos) 0 (.ref it) .none cenv).onRaise (leaving cenv)) [] s
    rw [compTurn_gen, Sem.onRaise_eq_wrap]
    refine seg_bind_wrap (wpAny_standAt ?_)
    rcases turn i m a H w with ⟨stop, hend⟩ | ⟨go, Nx, hNx, step⟩
    · refine seg_bind_wrap ?_
      rw [hA]
      refine thnF (T.done (gblk X A' s_0 H_0 cenv fp) rfl rfl rfl hc i cp s σ0 H (fun _ _ => False) I (stat hac I nf) st stop) fun r s1 ⟨hr, I1⟩ => ?_
      subst hr
      exact seg_end (.ok .next) (.inl ⟨.inr rfl, a, _, H, cp, hac, tie, I1, hend⟩)
    · refine seg_bind_wrap ?_
      rw [hA]
      refine thnF (T.item (gblk X A' s_0 H_0 cenv fp) rfl rfl rfl hc i cp s σ0 H (fun _ _ => False) I (stat hac I nf) st go) fun r s1 ⟨u, hr, h1⟩ => ?_
      subst hr
      refine seg_bind_wrap ?_
      rw [hA]
      refine thnF h1 fun _ s2 ⟨x, H2, I2, r2, y2, st2, n2⟩ => ?_
      have I2' := I2.pinned (stat hac I2 n2) (T.obj _ _ st2)
      refine seg_bind_wrap ?_
      rw [hA]
      refine thnF (pg.run _ s2 _ H2 x u _ I2' r2 (step x H2 y2)) fun _ s3 ⟨σ3, H3, I3, hw3, q3⟩ => ?_
      refine seg_bind_wrap ?_
      rw [hA]
      refine thnF (pt.run _ s3 σ3 H3 _ I3 q3) fun b s4 ⟨H4, I4, q4⟩ => ?_
      have hl : σ0.length = σ3.length := by rw [← hw3, wipe_length]
      have fin : ∀ {s' : Shared} {H' : Hp}, Inv (gblk X A' s_0 H_0 cenv fp) (cp ++ pinsAt fp s2.heap) σ3 H' s' → Inv (gblk X A' s_0 H_0 cenv fp) cp σ0 H' s' ∧ tn (i + 1) s'.heap ∧ ∀ b ∈ fp, H' b = none := fun {s' H'} I' => by
        have pin' : ∀ b ∈ fp, ∀ o, s2.heap.get? b = some o → s'.heap.get? b = some o ∧ H' b = none := fun b hb o e =>
          let z := I'.pin (b, o) (List.mem_append_right _ (List.mem_append_right _ (mem_pinsAt hb e)))
          ⟨z.1, z.2.1⟩
        refine ⟨(I'.unpinned (pins := cp)).weak hl (wipe_wipe_some hw3), T.keep _ _ _ st2 fun b hb o e => (pin' b hb o e).1, fun b hb => ?_⟩
        obtain ⟨o, e, _⟩ := T.obj _ _ st2 b hb
        exact (pin' b hb o e).2
      cases b with
      | false =>
        simp only [Bool.false_eq_true, if_false] at q4 ⊢
        obtain ⟨m', hm, w'⟩ := hNx a H4 q4
        obtain ⟨J1, J2, J3⟩ := fin I4
        exact seg_again rfl (ih m' hm n (i + 1) a H4 s₀ s4 cp (by omega) w' hac tie J1 J2 J3)
      | true =>
        simp only [if_true] at q4 ⊢
        have hy : ∀ v, yieldOut cenv v = yieldValue v := fun v => by simp only [yieldOut, hco, Bool.false_eq_true, if_false]
        simp only [hy]
        rw [Sem.bind_eq_wrap', Sem.bind_eq_wrap', Sem.wrap_wrap, Sem.wrap_wrap]
        refine seg_wrap ?_
        rw [hA]
        refine thnF (pe.run _ s4 σ3 H4 _ I4 q4) fun yv s5 ⟨y, H5, I5, r5, q5⟩ => ?_
        obtain ⟨J1, J2, J3⟩ := fin I5
        -- at least one more
        cases n with
        | zero => exact absurd hmn (Nat.not_lt_zero _)
        | succ n =>
          refine seg_at (seg_yield rfl rfl rfl ⟨a, y, σ0, H5, i + 1, cp, Nx, r5, hac, tie, J1, J2, J3, q5, fun a' cp' s' nx hac' I' st' => ?_⟩)
          obtain ⟨m', hm, w'⟩ := hNx a' H5 nx
          exact seg_again rfl (ih m' hm n (i + 1) a' H5 s' s' cp' (by omega) w' hac' (fun p hp => (I'.pin p (List.mem_append_right _ hp)).1) I' st' J3)
end
/-! ### a generator that is made -/
section
variable {X : Cx} {pins : List (Addr × Obj)} {σ : L2.St} {H : Hp} {s : Shared}
def GenObj (o : Obj) (g : Nat) : Prop := ∃ nm qn, o.cls = .type "generator" ∧ o.data = .fields #[.int g 0, nm, qn] ∧ o.slots = #[]
theorem GenObj.isGen {o : Obj} {g : Nat} (h : GenObj o g) {a : Addr} {hp : Heap} (e : hp.get? a = some o) : hp.IsGen a g := by
  obtain ⟨nm, qn, h1, h2, h3⟩ := h
  exact ⟨o, nm, qn, e, h1, h2, h3⟩
/-- the generator u, made and not begun, in the state s5 -/
def Gx (X : Cx) (pins : List (Addr × Obj)) (σ : L2.St) (A : Around) (J : It) (g : TG) (tt : TT) (te : TE) (vs : List Nat) (H4 : Hp) (u : Value) (s5 : Shared) : Prop :=
  ∃ (A' : Around) (s_0 : Shared) (H_0 : Hp) (cenv : Env) (fp : List Addr) (ga : Addr) (gn : Nat) (go : Obj) (tn : Nat → Heap → Prop) (gs : GenState),
    u = .ref ga ∧ GenObj go gn ∧ s5.gens[gn]? = some gs ∧ gs.bare = true ∧ Inv (gblk X A' s_0 H_0 cenv fp) [(ga, go)] (wipe σ vs) H4 s5 ∧ tn 0 s5.heap ∧ (∀ b ∈ fp, H4 b = none) ∧ (∀ b ∈ fp, b < ga) ∧
    (∀ i h h', tn i h → (∀ b ∈ fp, ∀ o, h.get? b = some o → h'.get? b = some o) → tn i h') ∧ (∀ cp σ' H' s', Inv (gblk X A' s_0 H_0 cenv fp) cp σ' H' s' → Inv X pins σ H' s') ∧
    ∀ (α : Type) (AC : α → List (Addr × Obj) → Prop) (End : α → Hp → Prop) (Yd : α → V → Hp → (α → Hp → Prop) → Prop) (W : Nat → Nat → α → Hp → Prop) (m n : Nat) (a : α) (cp : List (Addr × Obj)) (s' : Shared),
      tGx J g tt te (wipe σ vs) vs End Yd W → W 0 m a H4 → m < n → (∀ a cp, AC a cp → ∀ p ∈ cp, ∀ b ∈ fp, p.1 ≠ b) → AC a cp → Inv (gblk X A' s_0 H_0 cenv fp) cp (wipe σ vs) H4 s' → tn 0 s'.heap →
      gs.Goes (model X.prog X.w) A (RG (gblk X A' s_0 H_0 cenv fp) AC End) (YG (gblk X A' s_0 H_0 cenv fp) fp tn AC Yd) n (.send .none) s'
/-- what stands about an asker -/
structure Near (A B : Around) : Prop where
  hd : B.handled = A.handled
  fr : B.frames = A.frames
  gd : B.guards = A.guards
  dp : B.depth = A.depth
  un : B.units ≤ A.units + 8
theorem gx_make {c P : Addr} {elt tg iter : Expr} {ifs : List Expr} {gpos : Pos} {scope : Scope} {own : List (Str × Nat)} {wi : TI} {g : TG} {tt : TT} {te : TE} {k : Nat} {Q' : Value → Shared → Prop} {R : It → Hp → Prop} {A : Around}
    (hr : Room (k + 1) X.A) (near : Near X.A A) (hc : X.calm = true) (hN : X.N.Nodup) (TB : GxR.TabB X.base X.mg c P) (hcode : X.env.code = .ref c) (hco : scope.isCoroutine = false) (hdot : scope.names.lookup (".0" : Str) = some NameKind.local)
    (nocell : ∀ y ∈ scope.names, y.2 ≠ .cell) (ok : BlkOk X.N X.env.scope scope own) (hi : PI X tg iter wi)
    (hg : ∀ (A' : Around) (s : Shared) (H : Hp) (C : Addr) (cl : List (Str × Addr)) (code : Value) (fp : List Addr), Room k A' → A'.guards = X.A.guards → PG (gblk X A' s H (genEnv scope cl C code builtinsNs X.env) fp) tg g)
    (ht : ∀ (A' : Around) (s : Shared) (H : Hp) (C : Addr) (cl : List (Str × Addr)) (code : Value) (fp : List Addr), Room k A' → A'.guards = X.A.guards → PTs (gblk X A' s H (genEnv scope cl C code builtinsNs X.env) fp) ifs tt)
    (he : ∀ (A' : Around) (s : Shared) (H : Hp) (C : Addr) (cl : List (Str × Addr)) (code : Value) (fp : List Addr), Room k A' → A'.guards = X.A.guards → PE (gblk X A' s H (genEnv scope cl C code builtinsNs X.env) fp) elt te)
    (hs : ∀ v, genFold iter X.env v = pure v) (I : Inv X pins σ H s) (h : wi σ H fun J H1 => GxR.TabG H1 P ∧ R J H1)
    (hQ : ∀ J H1 H2 u s5, R J H1 → GxR.Tabbed P H1 H2 → Gx X pins σ A J g tt te (own.map (·.2)) H2 u s5 → Q' u s5) :
    wpAny (model X.prog X.w) X.A (eval (.GeneratorExp elt [⟨tg, iter, ifs, 0⟩] scope gpos) X.env) Q' X.xe s := by
  have hfree : ∀ y ∈ scope.names, y.2 = .free → ∃ c, X.env.cells.lookup y.1 = some c := fun y hy e => by
    rcases ok.free y hy e with k | k
    · exact I.ok.has _ (.inl k)
    · exact I.ok.has _ (.inr k)
  refine wpAny_GeneratorExp_make hco (closure_ok hfree) nocell hdot ok.kind (by have := hr.dp; omega) ?_ hs
  refine thn (hi.run pins s σ H _ I h) fun xv s1 hx => thn hx fun itv s2 h2 => ?_
  obtain ⟨it, fp, tn, J, H2, rfl, I2, T, st2, f2, ⟨ps, hP, ht3⟩, q⟩ := h2
  refine ⟨I2.nolimit, ?_⟩
  have hPs : s2.heap.get? P = some { cls := .none, data := .fields ps } := I2.hok P _ hP
  have cd : PySem.W.CodeHd s2.heap c P := TB.code.keeps fun b u e => I2.bk b u e
  have nP : ∀ b, H2 b = none → b ≠ P := fun b e z => by
    rw [z, hP] at e
    cases e
  have cont : ∀ (code : Value) (h3 : Heap) (tk : Nat) (ps' : Array Value), Heap.ExtBut P s2.heap h3 → s2.heap.objs.size ≤ h3.objs.size → h3.get? P = some { cls := .none, data := .fields ps' } → (∃ more, ps' = ps ++ more) → TriplesOk ps'.toList →
      wpAny (model X.prog X.w) X.A (builtinsFor X.env.globals X.env.builtins) (fun bi s₄ =>
        ∀ h', h'.Ns s₄.heap.objs.size (fun y => if y = ".0" then some (Value.ref it) else none) → Heap.SameBut s₄.heap.objs.size (s₄.heap.push { cls := .type "frame", data := .dict #[] }) h' →
          Q' (.ref h'.objs.size) { s₄ with
            gens := s₄.gens.push (.fresh (.compStart (.GeneratorExp elt [⟨tg, iter, ifs, 0⟩] scope gpos) 0 (.ref it) .none (genEnv scope (cloFrom X.env.cells scope.names []) s₄.heap.objs.size code bi X.env))),
            toks := s₄.toks + 1 + 1 + 1,
            heap := h'.push { cls := .type "generator", data := .fields #[.int s₄.gens.size 0, .str "<genexpr>" (s₄.toks + 1), .str (X.env.qual ++ "<genexpr>") (s₄.toks + 1 + 1)] } }) X.xe { s2 with heap := h3, toks := tk } := by
    rintro code h3 tk ps' hx hsz hP3 ⟨more, rfl⟩ ht4
    obtain ⟨bm, ob, e1, e2, e3, e4, e5, e6, e7, e8⟩ := TB.bm
    refine wpAny_builtinsFor (m := X.mg) (by rw [I2.ok.glob]; exact (I2.mod.glob.keeps I2.bk).extBut hx TB.gP) e1 e2 (hx _ _ e4 (I2.bk _ _ e5)) e6 e7 e8 ?_
    intro h' hns hsb
    have I3 : Inv X pins σ (upd H2 P (.tbl (ps ++ more))) { s2 with heap := h3, toks := tk } := GxR.inv_tab (g' := s2.gens) (d' := s2.drawn) I2 hP (fun b o hb e => hx b o hb e) hP3 I2.bare
    have lt2 : ∀ b ∈ fp, b < s2.heap.objs.size := fun b hb => by
      obtain ⟨o, e, _⟩ := T.obj _ _ st2 b hb
      exact Heap.lt_size e
    have f3 : ∀ b ∈ fp, FpOk X pins (upd H2 P (.tbl (ps ++ more))) b ∧ b < ({ s2 with heap := h3, toks := tk } : Shared).heap.objs.size := fun b hb => by
      refine ⟨⟨?_, (f2 b hb).2⟩, Nat.lt_of_lt_of_le (lt2 b hb) hsz⟩
      rw [upd_ne (nP b (f2 b hb).1)]
      exact (f2 b hb).1
    have st3 : tn 0 h3 := T.keep _ _ _ st2 fun b hb o e => hx b o (nP b (f2 b hb).1) e
    generalize hs4 : ({ s2 with heap := h3, toks := tk } : Shared) = s4 at I3 f3 hns hsb ⊢
    have h4 : s4.heap = h3 := by rw [← hs4]
    have hsz4 : h'.objs.size = s4.heap.objs.size + 1 := by rw [hsb.1, Heap.size_push]
    have keep' : ∀ b o, s4.heap.get? b = some o → h'.get? b = some o := fun b o e => hsb.extBut b o (Nat.ne_of_lt (Heap.lt_size e)) (Heap.get?_push_of_some _ e)
    generalize hgo : ({ cls := .type "generator", data := .fields #[.int s4.gens.size 0, .str "<genexpr>" (s4.toks + 1), .str (X.env.qual ++ "<genexpr>") (s4.toks + 1 + 1)] } : Obj) = go
    have hGO : GenObj go s4.gens.size := by rw [← hgo]; exact ⟨_, _, rfl, rfl, rfl⟩
    have k5 : ∀ b o, s4.heap.get? b = some o → (h'.push go).get? b = some o := fun b o e => Heap.get?_push_of_some _ (keep' b o e)
    have pg := fun A' => hg A' s4 (upd H2 P (.tbl (ps ++ more))) s4.heap.objs.size (cloFrom X.env.cells scope.names []) code fp
    have pt := fun A' => ht A' s4 (upd H2 P (.tbl (ps ++ more))) s4.heap.objs.size (cloFrom X.env.cells scope.names []) code fp
    have pe := fun A' => he A' s4 (upd H2 P (.tbl (ps ++ more))) s4.heap.objs.size (cloFrom X.env.cells scope.names []) code fp
    generalize hce : genEnv scope (cloFrom X.env.cells scope.names []) s4.heap.objs.size code builtinsNs X.env = cenv at pg pt pe ⊢
    have hscn : cenv.scope = scope := by rw [← hce]; rfl
    generalize hA' : A.over (.compLoop (.GeneratorExp elt [⟨tg, iter, ifs, 0⟩] scope gpos) 0 (.ref it) .none cenv) [] = A'
    have hfrA : A'.frames = some (cenv :: X.stack) := by
      rw [← hA']
      show pushEnvs [cenv] A.frames = _
      rw [near.fr, I2.ok.frames]
      rfl
    have hhd : A'.handled = none := by
      rw [← hA']
      show A.handled = none
      rw [near.hd]
      exact hr.hd
    have rm : Room k A' := by
      refine ⟨hhd, ?_, ?_⟩
      · have := hr.dp
        have := near.dp
        rw [← hA']
        show A.depth + 0 + 1 + 3 * k + 5 < _
        omega
      · have := hr.un
        have := near.un
        rw [← hA']
        show A.units + 0 + 3 + 16 * k + 200 < _
        omega
    have gdA : A'.guards = X.A.guards := by
      rw [← hA']
      show pushGuards [] A.guards = _
      rw [near.gd]
      rfl
    have I5 : Inv (gblk X A' s4 (upd H2 P (.tbl (ps ++ more))) cenv fp) [(h'.objs.size, go)] (wipe σ (own.map (·.2))) (upd H2 P (.tbl (ps ++ more)))
        { s4 with gens := s4.gens.push (.fresh (.compStart (.GeneratorExp elt [⟨tg, iter, ifs, 0⟩] scope gpos) 0 (.ref it) .none cenv)), toks := s4.toks + 1 + 1 + 1, heap := h'.push go } := by
      subst hce
      refine gen_start (it := .ref it) I3 ok nocell hN f3 hhd hfrA rfl (I3.bare.push rfl) k5 (hns.push _) fun p hp => ?_
      have e : p = (h'.objs.size, go) := by simpa using hp
      subst e
      refine ⟨by show s4.heap.objs.size < h'.objs.size; omega, Heap.get?_push_size _ (by rw [← hgo]; rfl), fun v z => ?_⟩
      rw [← hgo] at z
      cases z
    refine hQ J H2 _ _ _ q ⟨⟨_, upd_same, ht4⟩, fun b hb => upd_ne hb⟩ ⟨A', s4, _, cenv, fp, h'.objs.size, s4.gens.size, go, tn, _, rfl, hGO, Array.getElem?_push_size .., rfl, I5, ?_, fun b hb => (f3 b hb).1.1, fun b hb => ?_, T.keep, fun cp σ' H' s' I' => ?_, ?_⟩
    · exact T.keep _ _ _ st3 fun b _ o e => k5 b o (by rw [h4]; exact e)
    · have := (f3 b hb).2
      rw [hsz4]
      exact Nat.lt_succ_of_lt this
    · exact I3.call' (ch := fp) I'.os I'.base I'.hok I'.bare fun b hb => ⟨(f3 b hb).1.2.2.2.1, (f3 b hb).1.2.1, (f3 b hb).1.2.2.2.2.1, (f3 b hb).1.2.2.2.2.2⟩
    · intro α AC End Yd W m n a cp s' turn w hmn hAC hac I' st'
      refine ⟨rfl, ?_⟩
      have loop := seg_gx (A := A) (pos := gpos) (iter := iter) (scope := scope) hA' hc (by rw [hscn]; exact hco) T (pg A' rm gdA) (pt A' rm gdA) (pe A' rm gdA) hAC turn m n 0 a _ s' s' cp hmn w hac (fun p hp => (I'.pin p (List.mem_append_right _ hp)).1) I' st' fun b hb => (f3 b hb).1.1
      show Seg _ A _ _ _ s' _ ((compStart (.GeneratorExp elt [⟨tg, iter, ifs, 0⟩] scope gpos) 0 (.ref it) .none cenv).onRaise (leaving cenv)) [] s'
      unfold compStart
      rw [Sem.onRaise_eq_wrap]
      show Seg _ A _ _ _ s' _ ((ask >>= _).wrap _ _ _ _) [] s'
      refine seg_bind_wrap (wpAny_askSetting ?_)
      split
      · exact seg_again rfl loop
      · first
          | exact seg_bind_wrap (wpAny_rule (seg_bind_wrap (wpAny_standAt (seg_bind_wrap (T.self _ 0 s' _ _ st' (seg_again rfl loop))))))
          | (refine seg_bind_wrap (wpAny_rule ?_); show Seg _ A _ _ _ s' _ ((standAt iter.pos >>= _).wrap _ _ _ _) [] s'; exact seg_bind_wrap (wpAny_standAt (seg_bind_wrap (T.self _ 0 s' _ _ st' (seg_again rfl loop)))))
  cases hf : codeAmong gpos ps.toList with
  | none =>
    refine wpAny_genexprCodeX hcode (cd.code hPs ht3) (cd.tab hPs) hf fun c' h' tk hx hge hlt hco' _ htab' _ => ?_
    obtain ⟨o1, vs, f1, tf, fl, tg, inF, tx, tt, op, _, _, _, _, _, _, _, _, _, htr, _⟩ := hco'
    exact cont _ h' tk _ hx (Nat.le_trans hge (Nat.le_of_lt hlt)) htab'.2 ⟨_, rfl⟩ htr
  | some cv =>
    refine wpAny_genexprCode_hit hcode (cd.code hPs ht3) hf ?_
    exact cont cv s2.heap s2.toks ps (Heap.ExtBut.refl _ _) (Nat.le_refl _) hPs ⟨#[], by simp⟩ ht3
end
/-! ### asking -/
section
variable {α : Type} {X : Cx} {A A' : Around} {s_0 : Shared} {H_0 : Hp} {cenv : Env} {fp : List Addr} {tn : Nat → Heap → Prop} {AC : α → List (Addr × Obj) → Prop} {End : α → Hp → Prop} {Yd : α → V → Hp → (α → Hp → Prop) → Prop} {ga : Addr} {gn n : Nat} {go : Obj}
theorem next_gx2 {gs : GenState} {s : Shared} {Q : Option Value → Shared → Prop} {E : Value → Shared → Prop} (hh : A.handled = none) (hroom : A.depth < recursionLimit) (hl : s.heap.NoLimit) (hG : GenObj go gn) (e : s.heap.get? ga = some go) (hgs : s.gens[gn]? = some gs)
    (hgo : gs.Goes (model X.prog X.w) A.in1 (RG (gblk X A' s_0 H_0 cenv fp) AC End) (YG (gblk X A' s_0 H_0 cenv fp) fp tn AC Yd) n (.send .none) (s.setGen gn .running))
    (item : ∀ (a : α) (x : V) (σ : L2.St) (H : Hp) (i : Nat) (cp : List (Addr × Obj)) (Nx : α → Hp → Prop) (v : Value) (s1 : Shared) (gs' : GenState), RelV x v → AC a cp → (∀ p ∈ cp, s.heap.get? p.1 = some p.2) → Inv (gblk X A' s_0 H_0 cenv fp) cp σ H s1 → tn i s1.heap → Yd a x H Nx → s1.gens[gn]? = some gs' →
      (∀ a' cp' s', Nx a' H → AC a' cp' → Inv (gblk X A' s_0 H_0 cenv fp) cp' σ H s' → tn i s'.heap → ∃ m, n = m + 1 ∧ gs'.Goes (model X.prog X.w) A.in1 (RG (gblk X A' s_0 H_0 cenv fp) AC End) (YG (gblk X A' s_0 H_0 cenv fp) fp tn AC Yd) m (.send .none) s') → Q (some v) s1)
    (done : ∀ (a : α) (σ : L2.St) (H : Hp) (cp : List (Addr × Obj)) (s1 : Shared), AC a cp → (∀ p ∈ cp, s.heap.get? p.1 = some p.2) → Inv (gblk X A' s_0 H_0 cenv fp) cp σ H s1 → End a H → Q none s1) :
    wpAny (model X.prog X.w) A (pyNext (.ref ga)) Q E s := by
  have hgl : gn < s.gens.size := (Array.getElem?_eq_some_iff.mp hgs).1
  refine GenW.wpAny_gsz (n := gn + 1) hgl (next_genG (Er := fun _ _ => False) hh hl hroom (hG.isGen e) hgs hgo (fun v s₁ gs' hbare hv => ?_) (fun s₁ hp h' hk => ?_) fun e s₁ he => he.elim)
  · intro hsz
    obtain ⟨a, x, σ, H, i, cp, Nx, r, hac, tie, I, st, nf, hy, kap⟩ := hv
    have hsz1 : gn < s₁.gens.size := by
      have q : (s₁.setGen gn gs').gens.size = s₁.gens.size := GenW.setGen_size _ _ _
      have hsz' : gn + 1 ≤ (s₁.setGen gn gs').gens.size := hsz
      omega
    refine item a x σ H i cp Nx v (s₁.setGen gn gs') gs' r hac tie (inv_moved I rfl (allBare_setGen I.bare hbare) fun _ _ q => q) st hy (setGen_at hsz1) fun a' cp' s' nx hac' I' st' => ?_
    have z := kap a' cp' s' nx hac' I' st'
    cases n with
    | zero => exact z.elim
    | succ m => exact ⟨m, rfl, z⟩
  · intro _
    obtain ⟨a, σ, H, cp, hac, tie, I, q⟩ := hp
    exact done a σ H cp _ hac tie (inv_moved I rfl (allBare_setGen I.bare rfl) hk) q
theorem next_gx {gs : GenState} {s : Shared} {Q : Option Value → Shared → Prop} {E : Value → Shared → Prop} (hh : A.handled = none) (hroom : A.depth < recursionLimit) (hl : s.heap.NoLimit) (hG : GenObj go gn) (e : s.heap.get? ga = some go) (hgs : s.gens[gn]? = some gs)
    (hgo : gs.Goes (model X.prog X.w) A.in1 (RG (gblk X A' s_0 H_0 cenv fp) AC End) (YG (gblk X A' s_0 H_0 cenv fp) fp tn AC Yd) n (.send .none) (s.setGen gn .running))
    (item : ∀ (a : α) (x : V) (σ : L2.St) (H : Hp) (i : Nat) (cp : List (Addr × Obj)) (Nx : α → Hp → Prop) (v : Value) (s1 : Shared) (gs' : GenState), RelV x v → AC a cp → Inv (gblk X A' s_0 H_0 cenv fp) cp σ H s1 → tn i s1.heap → Yd a x H Nx → s1.gens[gn]? = some gs' →
      (∀ a' cp' s', Nx a' H → AC a' cp' → Inv (gblk X A' s_0 H_0 cenv fp) cp' σ H s' → tn i s'.heap → ∃ m, n = m + 1 ∧ gs'.Goes (model X.prog X.w) A.in1 (RG (gblk X A' s_0 H_0 cenv fp) AC End) (YG (gblk X A' s_0 H_0 cenv fp) fp tn AC Yd) m (.send .none) s') → Q (some v) s1)
    (done : ∀ (a : α) (σ : L2.St) (H : Hp) (cp : List (Addr × Obj)) (s1 : Shared), AC a cp → Inv (gblk X A' s_0 H_0 cenv fp) cp σ H s1 → End a H → Q none s1) :
    wpAny (model X.prog X.w) A (pyNext (.ref ga)) Q E s :=
  next_gx2 hh hroom hl hG e hgs hgo (fun a x σ H i cp Nx v s1 gs' r hac _ I st hy at_ kap => item a x σ H i cp Nx v s1 gs' r hac I st hy at_ kap) fun a σ H cp s1 hac _ I q => done a σ H cp s1 hac I q
/-- all(..) asks on -/
theorem all_gx {R : Result → Shared → Prop} {Stop : Hp → Prop} {End : Unit → Hp → Prop} (hh : A.handled = none) (hroom : A.depth < recursionLimit) (hG : GenObj go gn)
    (yes : ∀ (σ : L2.St) (H : Hp) (cp : List (Addr × Obj)) (s1 : Shared), Inv (gblk X A' s_0 H_0 cenv fp) cp σ H s1 → End () H → R (.ok (.ret (.bool true))) s1)
    (no : ∀ (σ : L2.St) (H : Hp) (cp : List (Addr × Obj)) (s1 : Shared), Inv (gblk X A' s_0 H_0 cenv fp) cp σ H s1 → Stop H → R (.ok (.ret (.bool false))) s1) :
    ∀ (n : Nat) (s : Shared), s.heap.NoLimit → s.heap.get? ga = some go → (∃ gs, s.gens[gn]? = some gs ∧ gs.Goes (model X.prog X.w) A.in1.in1 (RG (gblk X A' s_0 H_0 cenv fp) (fun _ cp => cp = [(ga, go)]) End)
      (YG (gblk X A' s_0 H_0 cenv fp) fp tn (fun _ cp => cp = [(ga, go)]) (fun _ y H Nx => ∃ b : Bool, y = .bl b ∧ if b = true then Nx () H else Stop H)) n (.send .none) (s.setGen gn .running)) →
      codeAny (model X.prog X.w) A (.builtin "all.loop" ⟨[.ref ga], []⟩) R s := by
  intro n
  induction n with
  | zero =>
    rintro s hl e ⟨gs, hgs, hgo⟩
    refine codeAny_builtin F.entry_all_loop ?_
    rw [Around.under_plainId F.plain_all_loop _]
    show wpAny _ A.in1 (pyNext (.ref ga) >>= _) _ _ s
    refine wpAny_bind (next_gx (A := A.in1) hh hroom hl hG e hgs hgo (fun a x σ H i cp Nx v s1 gs' r hac I st hy at_ kap => ?_) fun a σ H cp s1 hac I q => ?_)
    · obtain ⟨b, rfl, hb⟩ := hy
      cases (show v = Value.bool b from r)
      refine wpAny_bind (wpAny_holding (wpAny_truthy_bool ?_))
      refine wpAny_bind (wpAny_letGo ?_)
      cases b with
      | true =>
        obtain ⟨m, hm, _⟩ := kap () cp s1 hb hac I st
        cases hm
      | false =>
        simp only [Bool.false_eq_true, if_false] at hb ⊢
        exact wpAny_bind (wpAny_rule (wpAny_pure (no σ H cp s1 I hb)))
    · exact wpAny_bind (wpAny_rule (wpAny_pure (yes σ H cp s1 I q)))
  | succ n ih =>
    rintro s hl e ⟨gs, hgs, hgo⟩
    refine codeAny_builtin F.entry_all_loop ?_
    rw [Around.under_plainId F.plain_all_loop _]
    show wpAny _ A.in1 (pyNext (.ref ga) >>= _) _ _ s
    refine wpAny_bind (next_gx (A := A.in1) hh hroom hl hG e hgs hgo (fun a x σ H i cp Nx v s1 gs' r hac I st hy at_ kap => ?_) fun a σ H cp s1 hac I q => ?_)
    · obtain ⟨b, rfl, hb⟩ := hy
      cases (show v = Value.bool b from r)
      refine wpAny_bind (wpAny_holding (wpAny_truthy_bool ?_))
      refine wpAny_bind (wpAny_letGo ?_)
      cases b with
      | true =>
        simp only [if_true] at hb ⊢
        subst hac
        refine wpAny_pure ⟨plainId_quiet F.plain_all_loop _, ih s1 I.nolimit (I.pin (ga, go) (List.mem_append_right _ List.mem_cons_self)).1 ⟨gs', at_, ?_⟩⟩
        obtain ⟨m, hm, z⟩ := kap () [(ga, go)] (s1.setGen gn .running) hb rfl (inv_moved I rfl (allBare_setGen I.bare rfl) fun _ _ q => q) st
        cases hm
        exact z
      | false =>
        simp only [Bool.false_eq_true, if_false] at hb ⊢
        exact wpAny_bind (wpAny_rule (wpAny_pure (no σ H cp s1 I hb)))
    · exact wpAny_bind (wpAny_rule (wpAny_pure (yes σ H cp s1 I q)))
end
section
variable {X : Cx}
/-- all(elt for tg in iter ..) -/
def tAllX (P : Addr) (wi : TI) (g : TG) (tt : TT) (te : TE) (vs : List Nat) : TE := fun σ H Q => wi σ H fun J H1 => GxR.TabG H1 P ∧ ∀ H2, GxR.Tabbed P H1 H2 → ∃ W : Nat → Nat → Unit → Hp → Prop, (∃ m, W 0 m () H2) ∧
  tGx J g tt te (wipe σ vs) vs (fun _ H => Q (.bl true) H) (fun _ y H Nx => ∃ b : Bool, y = .bl b ∧ if b = true then Nx () H else Q (.bl false) H) W
theorem pe_allX {c P : Addr} {elt tg iter : Expr} {ifs : List Expr} {p pos gpos : Pos} {scope : Scope} {own : List (Str × Nat)} {wi : TI} {g : TG} {tt : TT} {te : TE} {k : Nat}
    (hr : Room (k + 1) X.A) (hc : X.calm = true) (hN : X.N.Nodup) (hgl : Gl X "all") (hm : X.mg "all" = none) (hb : bootBuiltins "all" = some (.builtin "all")) (TB : GxR.TabB X.base X.mg c P) (hcode : X.env.code = .ref c)
    (hco : scope.isCoroutine = false) (hdot : scope.names.lookup (".0" : Str) = some NameKind.local) (nocell : ∀ y ∈ scope.names, y.2 ≠ .cell) (ok : BlkOk X.N X.env.scope scope own) (hi : PI X tg iter wi)
    (hg : ∀ (A' : Around) (s : Shared) (H : Hp) (C : Addr) (cl : List (Str × Addr)) (code : Value) (fp : List Addr), Room k A' → A'.guards = X.A.guards → PG (gblk X A' s H (genEnv scope cl C code builtinsNs X.env) fp) tg g)
    (ht : ∀ (A' : Around) (s : Shared) (H : Hp) (C : Addr) (cl : List (Str × Addr)) (code : Value) (fp : List Addr), Room k A' → A'.guards = X.A.guards → PTs (gblk X A' s H (genEnv scope cl C code builtinsNs X.env) fp) ifs tt)
    (he : ∀ (A' : Around) (s : Shared) (H : Hp) (C : Addr) (cl : List (Str × Addr)) (code : Value) (fp : List Addr), Room k A' → A'.guards = X.A.guards → PE (gblk X A' s H (genEnv scope cl C code builtinsNs X.env) fp) elt te)
    (hs : ∀ v, genFold iter X.env v = pure v)
    (hst : starEach [.GeneratorExp elt [⟨tg, iter, ifs, 0⟩] scope gpos] X.env = (false, eval (.GeneratorExp elt [⟨tg, iter, ifs, 0⟩] scope gpos) X.env) :: starEach [] X.env := by rfl) :
    PE X (.Call (.Name "all" p) [.GeneratorExp elt [⟨tg, iter, ifs, 0⟩] scope gpos] [] pos) (tAllX P wi g tt te (own.map (·.2))) := by
  refine ⟨fun pins s σ H Q I h => ?_⟩
  refine wpAny_Call_Name_kw (ld_blt I hgl hm hb ?_)
  refine PyProof.Rows.callWith_builtin1 ?_ hst (by rfl)
  rw [hst]
  show wpAny _ _ (spliced ((false, eval (.GeneratorExp elt [⟨tg, iter, ifs, 0⟩] scope gpos) X.env) :: backTo pos (starEach [] X.env))) _ _ s
  refine Calls.spliced_cons (gx_make (A := X.A.in1.in1) hr ⟨rfl, rfl, rfl, rfl, (by show X.A.units + 1 + 1 ≤ _; omega)⟩ hc hN TB hcode hco hdot nocell ok hi hg ht he hs I h fun J H1 H2 u s5 hR hT hG => ?_)
  obtain ⟨A', s_0, H_0, cenv, fp, ga, gn, go, tn, gs, rfl, hGO, hgs, hbare, I5, st5, nf, hlt, keep, back, goes⟩ := hG
  obtain ⟨W, ⟨m, w0⟩, turn⟩ := hR H2 hT
  refine Calls.spliced_nil ?_
  have pin5 := (I5.pin (ga, go) (List.mem_append_right _ List.mem_cons_self)).1
  refine call_function_tree F.kind_all F.plain_all F.entry_all (F.args_all1 _) ?_
  unfold Builtin.«all»
  refine wpAny_bind (m := oneArg "all" _) (wpAny_pure ?_)
  refine wpAny_bind (wpAny_pyIter_gen (hGO.isGen pin5) ?_)
  refine wpAny_pure ⟨plainId_quiet F.plain_all_loop _, all_gx (A' := A') (s_0 := s_0) (H_0 := H_0) (cenv := cenv) (fp := fp) (tn := tn) (go := go) (gn := gn) (Stop := fun H => Q (.bl false) H) (End := fun _ H => Q (.bl true) H) hr.hd hr.depth hGO
    (fun σ' H' cp s1 I1 q => ⟨.bl true, H', back _ _ _ _ I1, rfl, q⟩) (fun σ' H' cp s1 I1 q => ⟨.bl false, H', back _ _ _ _ I1, rfl, q⟩) (m + 1) s5 I5.nolimit pin5 ⟨gs, hgs, ?_⟩⟩
  refine goes Unit _ _ _ W m (m + 1) () [(ga, go)] _ turn w0 (Nat.lt_succ_self _) (fun a cp hac p hp b hb z => ?_) rfl (inv_moved I5 rfl (allBare_setGen I5.bare rfl) fun _ _ q => q) st5
  subst hac
  have e : p = (ga, go) := by simpa using hp
  subst e
  exact absurd (hlt b hb) (by rw [← z]; exact Nat.lt_irrefl _)
end
/-! ### tuple(..) -/
section
variable {X : Cx} {A A' : Around} {s_0 : Shared} {H_0 : Hp} {cenv : Env} {fp : List Addr} {tn : Nat → Heap → Prop} {ga S : Addr} {gn n : Nat} {go : Obj}
/-- the asker's list S holds what is out -/
def ACl (ga : Addr) (go : Obj) (S : Addr) (ys : List V) (cp : List (Addr × Obj)) : Prop := ∃ (acc : Array Value) (c : Nat), cp = [(ga, go), (S, lstObj acc c)] ∧ Vals ys acc.toList
def YdL (ys : List V) (y : V) (H : Hp) (Nx : List V → Hp → Prop) : Prop := ys.length < sizeLine ∧ Nx (ys ++ [y]) H
theorem ext_gx {R : Result → Shared → Prop} {End : List V → Hp → Prop} {res : Value} (hh : A.handled = none) (hroom : A.depth < recursionLimit) (hG : GenObj go gn) (hSa : S ≠ ga) (far : (gblk X A' s_0 H_0 cenv fp).s_0.heap.objs.size ≤ S) (hSc : ∀ x c, cenv.cells.lookup x = some c → c ≠ S)
    (keep : ∀ i h h', tn i h → (∀ b ∈ fp, ∀ o, h.get? b = some o → h'.get? b = some o) → tn i h') (hSf : ∀ b ∈ fp, b ≠ S)
    (yes : ∀ (σ : L2.St) (H : Hp) (ys : List V) (acc : Array Value) (c : Nat) (s1 : Shared), Inv (gblk X A' s_0 H_0 cenv fp) [(ga, go), (S, lstObj acc c)] σ H s1 → Vals ys acc.toList → End ys H → R (.ok (.ret res)) s1) :
    ∀ (n : Nat) (s : Shared), s.heap.NoLimit → s.heap.get? ga = some go → (∃ gs, s.gens[gn]? = some gs ∧ gs.Goes (model X.prog X.w) A.in1.in1 (RG (gblk X A' s_0 H_0 cenv fp) (ACl ga go S) End)
      (YG (gblk X A' s_0 H_0 cenv fp) fp tn (ACl ga go S) YdL) n (.send .none) (s.setGen gn .running)) →
      codeAny (model X.prog X.w) A (.builtin "list.extend.loop" ⟨[.ref S, .ref ga, res], []⟩) R s := by
  intro n
  induction n with
  | zero =>
    rintro s hl e ⟨gs, hgs, hgo⟩
    refine codeAny_builtin F.entry_extend_loop ?_
    rw [Around.under_plainId F.plain_extend_loop _]
    show wpAny _ A.in1 (pyNext (.ref ga) >>= _) _ _ s
    refine wpAny_bind (next_gx (A := A.in1) hh hroom hl hG e hgs hgo (fun ys x σ H i cp Nx v s1 gs' r hac I st hy at_ kap => ?_) fun ys σ H cp s1 hac I q => ?_)
    · obtain ⟨acc, c, rfl, rv⟩ := hac
      have pS := I.pin (S, lstObj acc c) (List.mem_append_right _ (List.mem_cons_of_mem _ List.mem_cons_self))
      have I0 : Inv (gblk X A' s_0 H_0 cenv fp) [(ga, go)] σ H s1 := I.pins_of fun p hp => I.pin p (List.mem_append_right _ (by rw [List.mem_singleton.mp hp]; exact List.mem_cons_self))
      have I1 := I0.turned (t' := s1.toks) (h' := s1.heap.update S (Obj.mapSeq (·.push v))) (it := S) (fun b o hb q => (Heap.get?_update_other _ _ (Ne.symm hb)).trans q) pS.2.1 pS.2.2.1 (.inr far) hSc (fun p hp => by rw [List.mem_singleton.mp (show p ∈ [(ga, go)] by simpa using hp)]; exact Ne.symm hSa)
      have e2 := Heap.get?_update_self (Obj.mapSeq (·.push v)) pS.1 rfl
      obtain ⟨m, hm, _⟩ := kap (ys ++ [x]) [(ga, go), (S, _)] _ hy.2 ⟨acc.push v, _, rfl, by rw [Array.toList_push]; exact rv.append (.cons r .nil)⟩ (I1.pins_of fun p hp => by
        rcases List.mem_cons.mp hp with z | z
        · rw [z]; exact I1.pin (ga, go) (List.mem_append_right _ List.mem_cons_self)
        · rw [List.mem_singleton.mp z]; exact ⟨e2, pS.2.1, pS.2.2.1, pS.2.2.2.1, fun v q => by cases q⟩) (keep _ _ _ st fun b hb o q => (Heap.get?_update_other _ _ (Ne.symm (hSf b hb))).trans q)
      cases hm
    · obtain ⟨acc, c, rfl, rv⟩ := hac
      exact wpAny_pure (yes σ H ys acc c s1 I rv q)
  | succ n ih =>
    rintro s hl e ⟨gs, hgs, hgo⟩
    refine codeAny_builtin F.entry_extend_loop ?_
    rw [Around.under_plainId F.plain_extend_loop _]
    show wpAny _ A.in1 (pyNext (.ref ga) >>= _) _ _ s
    refine wpAny_bind (next_gx (A := A.in1) hh hroom hl hG e hgs hgo (fun ys x σ H i cp Nx v s1 gs' r hac I st hy at_ kap => ?_) fun ys σ H cp s1 hac I q => ?_)
    · obtain ⟨acc, c, rfl, rv⟩ := hac
      have pS := I.pin (S, lstObj acc c) (List.mem_append_right _ (List.mem_cons_of_mem _ List.mem_cons_self))
      have I0 : Inv (gblk X A' s_0 H_0 cenv fp) [(ga, go)] σ H s1 := I.pins_of fun p hp => I.pin p (List.mem_append_right _ (by rw [List.mem_singleton.mp hp]; exact List.mem_cons_self))
      have I1 := I0.turned (t' := s1.toks) (h' := s1.heap.update S (Obj.mapSeq (·.push v))) (it := S) (fun b o hb q => (Heap.get?_update_other _ _ (Ne.symm hb)).trans q) pS.2.1 pS.2.2.1 (.inr far) hSc (fun p hp => by rw [List.mem_singleton.mp (show p ∈ [(ga, go)] by simpa using hp)]; exact Ne.symm hSa)
      have e2 := Heap.get?_update_self (Obj.mapSeq (·.push v)) pS.1 rfl
      have hln := rv.length
      have hlt : acc.size < sizeLine := by
        have := hy.1
        rw [hln] at this
        simpa using this
      have pG := I1.pin (ga, go) (List.mem_append_right _ List.mem_cons_self)
      show wpAny _ A.in1 (updateSeq S (·.push v) >>= _) _ _ _
      refine wpAny_bind ?_
      refine wpAny_updateSeq pS.1 rfl (wpAny_pure ⟨plainId_quiet F.plain_extend_loop _, ih _ I1.nolimit pG.1 ⟨gs', at_, ?_⟩⟩) (Nat.le_of_lt hlt) (by show (acc.push v).size ≤ sizeLine + 1; rw [Array.size_push]; omega)
      obtain ⟨m, hm, z⟩ := kap (ys ++ [x]) [(ga, go), (S, _)] (({ s1 with heap := s1.heap.update S (Obj.mapSeq (·.push v)) } : Shared).setGen gn .running) hy.2 ⟨acc.push v, _, rfl, by rw [Array.toList_push]; exact rv.append (.cons r .nil)⟩ (inv_moved (I1.pins_of fun p hp => by
        rcases List.mem_cons.mp hp with z | z
        · rw [z]; exact pG
        · rw [List.mem_singleton.mp z]; exact ⟨e2, pS.2.1, pS.2.2.1, pS.2.2.2.1, fun v q => by cases q⟩) rfl (allBare_setGen (s := { s1 with heap := s1.heap.update S (Obj.mapSeq (·.push v)) }) I1.bare rfl) fun _ _ q => q) (keep _ _ _ st fun b hb o q => (Heap.get?_update_other _ _ (Ne.symm (hSf b hb))).trans q)
      cases hm
      exact z
    · obtain ⟨acc, c, rfl, rv⟩ := hac
      exact wpAny_pure (yes σ H ys acc c s1 I rv q)
end
section
variable {X : Cx} {pins : List (Addr × Obj)} {σ : L2.St} {s5 : Shared} {J : It} {g : TG} {tt : TT} {te : TE} {vs : List Nat} {H4 : Hp} {u : Value}
/-- all that a generator hands out, in a list of the asker's own -/
theorem collect_gx {A : Around} {E : Value → Shared → Prop} {Q : List Value → Shared → Prop} {End : List V → Hp → Prop} {W : Nat → Nat → List V → Hp → Prop} {m : Nat} (hh : A.handled = none) (hroom : A.depth < recursionLimit) (G : Gx X pins σ A.in1.in1 J g tt te vs H4 u s5)
    (w0 : W 0 m [] H4) (turn : tGx J g tt te (wipe σ vs) vs End YdL W)
    (hQ : ∀ (s' : Shared) (acc : Array Value) (ys : List V) (H' : Hp), Inv X pins σ H' s' → Vals ys acc.toList → End ys H' → Q acc.toList s') : wpAny (model X.prog X.w) A (collect u) Q E s5 := by
  obtain ⟨A', s_0, H_0, cenv, fp, ga, gn, go, tn, gs, rfl, hGO, hgs, hbare, I5, st5, nf, hlt, keep, back, goes⟩ := G
  have pin5 := I5.pin (ga, go) (List.mem_append_right _ List.mem_cons_self)
  have glt : ga < s5.heap.objs.size := Heap.lt_size pin5.1
  have hSI : s5.heap.objs.size ≠ ga := Nat.ne_of_gt glt
  unfold collect
  refine wpAny_bind (wpAny_runValue (codeAny_builtin F.entry_proto_collect ?_))
  rw [Around.under_plainId F.plain_proto_collect _]
  show wpAny _ A.in1 (newList [] >>= fun l => again (.builtin "list.__iadd__" ⟨[l, .ref ga], []⟩)) _ _ s5
  refine wpAny_bind (wpAny_newObj_type ?_)
  refine wpAny_pure ⟨plainId_quiet F.plain_list_iadd _, codeAny_builtin F.entry_list_iadd ?_⟩
  rw [Around.under_plainId F.plain_list_iadd _]
  show wpAny _ A.in1 (Builtin.List.listExtendWith (.ref s5.heap.objs.size) (.ref ga) (.ref s5.heap.objs.size)) _ _ _
  unfold Builtin.List.listExtendWith
  have k1 : ∀ b o, s5.heap.get? b = some o → (s5.heap.push { cls := .type "list", data := .seq ([] : List Value).toArray }).get? b = some o := fun b o e => Heap.get?_push_of_some _ e
  have hT : Shared.TypeIs { s5 with heap := s5.heap.push { cls := .type "list", data := .seq ([] : List Value).toArray } } (.ref ga) "generator" := Heap.IsGen.typeIs (s := { s5 with heap := _ }) (hGO.isGen (k1 _ _ pin5.1))
  refine wpAny_bind (wpAny_typeOf hT ?_)
  have h1 : Builtin.List.listSameRef (.ref s5.heap.objs.size) (.ref ga) = false := by simp [Builtin.List.listSameRef, hSI]
  have h2 : (Value.type "generator" == Value.type "list") = false := by decide
  have h3 : (Value.type "generator" == Value.type "tuple") = false := by decide
  simp only [h1, h2, h3, Bool.or_false, Bool.false_eq_true, if_false]
  refine wpAny_bind (wpAny_pyIter_gen (s := { s5 with heap := _ }) (hGO.isGen (k1 _ _ pin5.1)) ?_)
  refine wpAny_bind (wpAny_holding ?_)
  unfold Builtin.List.listLengthHint
  refine wpAny_bind (wpAny_specialOf hT F.gen_no_len ?_)
  show wpAny _ A.in1 (specialOf (Value.ref ga) (Str.ofString "__length_hint__") >>= _) _ _ _
  refine wpAny_bind (wpAny_specialOf hT F.gen_no_hint ?_)
  refine wpAny_pure ?_
  show wpAny _ A.in1 (rule "list.extend.makes-room" >>= fun _ => Builtin.List.listTouch (.ref s5.heap.objs.size) >>= fun _ =>
    again (.builtin "list.extend.loop" ⟨[.ref s5.heap.objs.size, .ref ga, .ref s5.heap.objs.size], []⟩)) _ _ _
  refine wpAny_bind (wpAny_rule ?_)
  have hS₁ : (s5.heap.push { cls := .type "list", data := .seq ([] : List Value).toArray }).get? s5.heap.objs.size = some { cls := .type "list", data := .seq ([] : List Value).toArray } := Heap.get?_push_size _ rfl
  refine wpAny_bind ?_
  show wpAny _ A.in1 (updateSeq s5.heap.objs.size (·.push .none) >>= fun _ => updateSeq s5.heap.objs.size (·.pop)) _ _ _
  refine wpAny_bind (wpAny_updateSeq hS₁ rfl ?_)
  have hS₂ := Heap.get?_update_self (Obj.mapSeq (·.push Value.none)) hS₁ rfl
  refine wpAny_updateSeq hS₂ rfl ?_
  have hS₃ := Heap.get?_update_self (Obj.mapSeq (·.pop)) hS₂ rfl
  obtain ⟨c3, hS₄⟩ : ∃ c, (((s5.heap.push { cls := .type "list", data := .seq ([] : List Value).toArray }).update s5.heap.objs.size (Obj.mapSeq (·.push Value.none))).update s5.heap.objs.size (Obj.mapSeq (·.pop))).get? s5.heap.objs.size = some (lstObj #[] c) := ⟨_, hS₃⟩
  have k3 : ∀ b o, s5.heap.get? b = some o → (((s5.heap.push { cls := .type "list", data := .seq ([] : List Value).toArray }).update s5.heap.objs.size (Obj.mapSeq (·.push Value.none))).update s5.heap.objs.size (Obj.mapSeq (·.pop))).get? b = some o :=
    fun b o e => (Heap.get?_update_other _ _ (Ne.symm (Nat.ne_of_lt (Heap.lt_size e)))).trans ((Heap.get?_update_other _ _ (Ne.symm (Nat.ne_of_lt (Heap.lt_size e)))).trans (k1 b o e))
  have fS : FpOk (gblk X A' s_0 H_0 cenv fp) [(ga, go)] H4 s5.heap.objs.size := I5.fpOk (Nat.le_refl _) (I5.hok.fresh (Nat.le_refl _))
  have hfS : ∀ b ∈ fp, b ≠ s5.heap.objs.size := fun b hb => Nat.ne_of_lt (Nat.lt_trans (hlt b hb) glt)
  have I6 := inv_moved (s' := { s5 with heap := ((s5.heap.push { cls := .type "list", data := .seq ([] : List Value).toArray }).update s5.heap.objs.size (Obj.mapSeq (·.push Value.none))).update s5.heap.objs.size (Obj.mapSeq (·.pop)) }) I5 rfl I5.bare k3
  refine wpAny_pure ⟨plainId_quiet F.plain_extend_loop _, ext_gx (A := A) (A' := A') (s_0 := s_0) (H_0 := H_0) (cenv := cenv) (fp := fp) (tn := tn) (go := go) (gn := gn) (End := End) hh hroom hGO hSI ?_ fS.2.2.2.2.1 keep hfS
    (fun σ' H' ys acc c s1 I1 rv q => ?_) (m + 1) _ I6.nolimit (k3 _ _ pin5.1) ⟨gs, hgs, ?_⟩⟩
  · exact Nat.le_trans I5.sz (Nat.le_refl _)
  · show wpAny _ A (load s5.heap.objs.size >>= _) _ _ s1
    have pS := (I1.pin (s5.heap.objs.size, lstObj acc c) (List.mem_append_right _ (List.mem_cons_of_mem _ List.mem_cons_self))).1
    refine wpAny_bind (wpAny_load pS ?_)
    exact wpAny_pure (hQ s1 acc ys H' (back _ _ _ _ I1) rv q)
  · refine goes (List V) (ACl ga go s5.heap.objs.size) End YdL W m (m + 1) [] [(ga, go), (s5.heap.objs.size, lstObj #[] c3)] _ turn w0 (Nat.lt_succ_self _) (fun ys cp hac p hp b hb z => ?_) ⟨#[], c3, rfl, .nil⟩
      (inv_moved (I6.pins_of fun p hp => ?_) rfl (allBare_setGen (s := { s5 with heap := _ }) I5.bare rfl) fun _ _ q => q) (keep _ _ _ st5 fun b hb o q => k3 b o q)
    · obtain ⟨acc, c, rfl, _⟩ := hac
      rcases List.mem_cons.mp hp with e | e
      · rw [e] at z
        exact absurd (hlt b hb) (by rw [← z]; exact Nat.lt_irrefl _)
      · rw [List.mem_singleton.mp e] at z
        exact hfS b hb z.symm
    · rcases List.mem_cons.mp hp with e | e
      · rw [e]
        exact I6.pin (ga, go) (List.mem_append_right _ List.mem_cons_self)
      · rw [List.mem_singleton.mp e]
        exact ⟨hS₄, fS.1, fS.2.1, fS.2.2.1, fun v q => by cases q⟩
end
section
variable {X : Cx}
/-- tuple(elt for tg in iter ..) -/
def tTupX (P : Addr) (wi : TI) (g : TG) (tt : TT) (te : TE) (vs : List Nat) : TE := fun σ H Q => wi σ H fun J H1 => GxR.TabG H1 P ∧ ∀ H2, GxR.Tabbed P H1 H2 → ∃ W : Nat → Nat → List V → Hp → Prop, (∃ m, W 0 m [] H2) ∧
  tGx J g tt te (wipe σ vs) vs (fun ys H => ys.length ≤ sizeLine ∧ ∀ p, H p = none → Q (.ref p) (upd H p (.tup ys))) YdL W
theorem pe_tupX {c P : Addr} {elt tg iter : Expr} {ifs : List Expr} {p pos gpos : Pos} {scope : Scope} {own : List (Str × Nat)} {wi : TI} {g : TG} {tt : TT} {te : TE} {k : Nat}
    (hr : Room (k + 1) X.A) (hc : X.calm = true) (hN : X.N.Nodup) (hgl : Gl X "tuple") (hm : X.mg "tuple" = none) (hb : bootBuiltins "tuple" = some (.type "tuple")) (TB : GxR.TabB X.base X.mg c P) (hcode : X.env.code = .ref c)
    (hco : scope.isCoroutine = false) (hdot : scope.names.lookup (".0" : Str) = some NameKind.local) (nocell : ∀ y ∈ scope.names, y.2 ≠ .cell) (ok : BlkOk X.N X.env.scope scope own) (hi : PI X tg iter wi)
    (hg : ∀ (A' : Around) (s : Shared) (H : Hp) (C : Addr) (cl : List (Str × Addr)) (code : Value) (fp : List Addr), Room k A' → A'.guards = X.A.guards → PG (gblk X A' s H (genEnv scope cl C code builtinsNs X.env) fp) tg g)
    (ht : ∀ (A' : Around) (s : Shared) (H : Hp) (C : Addr) (cl : List (Str × Addr)) (code : Value) (fp : List Addr), Room k A' → A'.guards = X.A.guards → PTs (gblk X A' s H (genEnv scope cl C code builtinsNs X.env) fp) ifs tt)
    (he : ∀ (A' : Around) (s : Shared) (H : Hp) (C : Addr) (cl : List (Str × Addr)) (code : Value) (fp : List Addr), Room k A' → A'.guards = X.A.guards → PE (gblk X A' s H (genEnv scope cl C code builtinsNs X.env) fp) elt te)
    (hs : ∀ v, genFold iter X.env v = pure v)
    (hst : starEach [.GeneratorExp elt [⟨tg, iter, ifs, 0⟩] scope gpos] X.env = (false, eval (.GeneratorExp elt [⟨tg, iter, ifs, 0⟩] scope gpos) X.env) :: starEach [] X.env := by rfl) :
    PE X (.Call (.Name "tuple" p) [.GeneratorExp elt [⟨tg, iter, ifs, 0⟩] scope gpos] [] pos) (tTupX P wi g tt te (own.map (·.2))) := by
  refine ⟨fun pins s σ H Q I h => ?_⟩
  refine wpAny_Call_Name_kw (ld_blt I hgl hm hb ?_)
  refine PyProof.Rows.callWith_type1 ?_ hst (by rfl)
  rw [hst]
  show wpAny _ _ (spliced ((false, eval (.GeneratorExp elt [⟨tg, iter, ifs, 0⟩] scope gpos) X.env) :: backTo pos (starEach [] X.env))) _ _ s
  refine Calls.spliced_cons (gx_make (A := X.A.in1.in1.in1.in1) hr ⟨rfl, rfl, rfl, rfl, (by show X.A.units + 1 + 1 + 1 + 1 ≤ _; omega)⟩ hc hN TB hcode hco hdot nocell ok hi hg ht he hs I h fun J H1 H2 u s5 hR hT hG => ?_)
  obtain ⟨W, ⟨m, w0⟩, turn⟩ := hR H2 hT
  refine Calls.spliced_nil ?_
  have ⟨A', s_0, H_0, cenv, fp, ga, gn, go, tn, gs, eu, hGO, hgs, hbare, I5, st5, nf, hlt, keep, back, goes⟩ := hG
  have pin5 := (I5.pin (ga, go) (List.mem_append_right _ List.mem_cons_self)).1
  rw [eu] at hG ⊢
  refine callType_codes (Q₁ := fun obj s₁ => s₁.TypeIs obj "tuple" ∧ EP X pins σ Q obj s₁) F.called_tuple (F.typeCall_tuple_1 _) F.entry_object_init ?_ fun obj s₁ h₁ =>
    ⟨h₁.1, F.args_object_init_2 obj _, object_init_meets F.called_tuple.init.lookup F.called_tuple.made (by decide) X.prog X.w X.A.in1 _ s₁ ⟨h₁.1, rfl, h₁.2⟩⟩
  refine codeAny_of_tree ?_
  show wpAny _ X.A.in1.in1 (do checkBuiltinCall "tuple.__new__" ⟨[.type "tuple", .ref ga], []⟩; again (.builtin "tuple.__new__" ⟨[.type "tuple", .ref ga], []⟩)) _ _ s5
  refine wpAny_bind (wpAny_of_eq (F.newCall_tuple_1 _) (wpAny_pure ⟨plainId_quiet F.plain_tuple_new _, codeAny_builtin F.entry_tuple_new ?_⟩))
  rw [Around.under_plainId F.plain_tuple_new _]
  have hsub := sub_tuple_self
  have hinit := init_tuple_lookup
  have hmh := madeHere_tuple
  have hTI : s5.TypeIs (.ref ga) "generator" := (hGO.isGen pin5).typeIs
  have col : ∀ {Q0 : List Value → Shared → Prop} {E0 : Value → Shared → Prop}, (∀ (s' : Shared) (acc : Array Value), (∃ (ys : List V) (H' : Hp), Inv X pins σ H' s' ∧ Vals ys acc.toList ∧ ys.length ≤ sizeLine ∧ ∀ p, H' p = none → Q (.ref p) (upd H' p (.tup ys))) → Q0 acc.toList s') →
      wpAny (model X.prog X.w) X.A.in1.in1 (collect (.ref ga)) Q0 E0 s5 := fun hq => collect_gx hr.hd hr.depth hG w0 turn (fun s' acc ys H' I' rv q => hq s' acc ⟨ys, H', I', rv, q.1, q.2⟩)
  wp_walk using wpAny_typeOf hTI, col
  rintro s' acc ⟨ys, H', I', rv, small, q⟩
  show wpAny _ _ (Builtin.Tuple.tupleExact acc.toList.toArray >>= fun v => ret v) _ _ _
  unfold Builtin.Tuple.tupleExact
  refine wpAny_bind (wpAny_newObj_type ?_ (by show acc.toList.toArray.size ≤ sizeLine; rw [List.size_toArray, ← rv.length]; exact small))
  refine wpAny_pure ?_
  have free : H' s'.heap.objs.size = none := I'.hok.fresh (Nat.le_refl _)
  refine ⟨⟨_, Heap.get?_push_size _ rfl, rfl⟩, .ref s'.heap.objs.size, upd H' s'.heap.objs.size (.tup ys), I'.laid (t' := s'.toks) (fun b u z => Heap.get?_push_of_some _ z) (Nat.le_refl _) ⟨small, acc.toList, rv, ?_⟩, rfl, q _ free⟩
  exact ⟨_, Heap.get?_push_size _ rfl, rfl, 0, rfl⟩
end
/-! ### a def by its body, its code object known -/
theorem okC {P : Program} {w : World} {K : PySem.W.Frag} {mg : Str → Option Value} {base : Heap} {x qual : Str} {st : Stmt} {f : Addr} {fd : FuncData} {N ps : List Str} {k : Nat} {sp : Sp} (F : Fun K x qual st f fd) (S : FnScope N ps (defScope st)) (len : ∀ vs H Q E, sp vs H Q E → vs.length = ps.length)
    (body : ∀ (A : Around) (outer : List Env) (s : Shared) (H : Hp) (vs : List V) (Q : VK) (E : XK), Room k (A.deeper (envOfC qual (defScope st) s.heap.objs.size f fd.code)) → sp vs H Q E →
      ∃ t, PSs (cxOf CX0 P w K mg base N qual (defScope st) f fd.code A outer s H E).nox (defBody st) t ∧ t { nx := fun _ H' => Q .non H', rt := Q } (start N vs) H) : FnOk P w K mg base CX0 (k + 1) f fd ps sp := by
  obtain ⟨oc, od, kV, doc, pm, an, cdv, ct, osl, rfl, lk, hcd⟩ := F.ex
  refine fn_of lk hcd S len fun A outer s H vs Q E hr hsp => ?_
  obtain ⟨t, h, q⟩ := body A outer s H vs Q E hr hsp
  exact ⟨t, h.nox, q⟩
/-! ### from the head's facts -/
theorem fun_of {K : PySem.W.Frag} {x qual : Str} {st : Stmt} {f : Addr} {fd : FuncData} (F : FunD K x qual (defArgs st) (defBody st) (defScope st) [] [] f fd) : Fun K x qual st f fd := by
  obtain ⟨oc, od, dV, kV, doc, pm, an, cdv, ct, osl, rfl, lk, hcd, hd, _⟩ := F.ex
  rcases hd with ⟨_, rfl⟩ | ⟨z, _⟩
  · exact ⟨⟨oc, od, kV, doc, pm, an, cdv, ct, osl, rfl, lk, hcd⟩, F.kp⟩
  · exact absurd rfl z
theorem code_of {K : PySem.W.Frag} {x qual : Str} {st : Stmt} {p : He.Defn} {fd : FuncData} (F : Fun K x qual st (He.fAd K p) fd) : fd.code = .ref (He.cT K p).1 := by
  obtain ⟨oc, od, kV, doc, pm, an, cdv, ct, osl, rfl, lk, hcd⟩ := F.ex
  obtain ⟨c, rfl⟩ := He.codeIn_ref hcd
  show Value.ref c = Value.ref (He.codeOf K p)
  rw [He.codeOf_eq lk rfl]
theorem tab_of {base : Heap} {mg : Str → Option Value} {c P : Addr} (h : LamX.TabB base mg c P) : GxR.TabB base mg c P := ⟨h.code, h.bm, h.gP⟩
/-! ### heaps whose tables grow -/
def Tabs (H : Hp) (Ps : List Addr) : Prop := ∀ P ∈ Ps, GxR.TabG H P
/-- what is no table stays; tables stay tables -/
def Gr (H H' : Hp) : Prop := (∀ b o, (∀ ps, o ≠ HO.tbl ps) → H b = some o → H' b = some o) ∧ ∀ b, GxR.TabG H b → GxR.TabG H' b
theorem Gr.refl {H : Hp} : Gr H H := ⟨fun _ _ _ e => e, fun _ e => e⟩
theorem Gr.trans {H H1 H2 : Hp} (a : Gr H H1) (b : Gr H1 H2) : Gr H H2 := ⟨fun c o n e => b.1 c o n (a.1 c o n e), fun c e => b.2 c (a.2 c e)⟩
theorem Gr.of {H H' : Hp} (h : ∀ b o, H b = some o → H' b = some o) : Gr H H' := ⟨fun b o _ e => h b o e, fun b ⟨ps, e, t⟩ => ⟨ps, h _ _ e, t⟩⟩
theorem Gr.tab {P : Addr} {H H' : Hp} (t : GxR.TabG H P) (h : GxR.Tabbed P H H') : Gr H H' := by
  obtain ⟨ps, e, _⟩ := t
  refine ⟨fun b o n q => ?_, fun b q => ?_⟩
  · by_cases hb : b = P
    · rw [hb, e] at q
      exact absurd (Option.some.inj q).symm (n ps)
    · rw [h.2 b hb]; exact q
  · by_cases hb : b = P
    · rw [hb]; exact h.1
    · obtain ⟨ps', e', t'⟩ := q
      exact ⟨ps', by rw [h.2 b hb]; exact e', t'⟩
theorem Gr.tup {H H' : Hp} (g : Gr H H') {a : Addr} {xs : List V} (h : H a = some (.tup xs)) : H' a = some (.tup xs) := g.1 a _ (fun _ z => by cases z) h
theorem Gr.lst {H H' : Hp} (g : Gr H H') {a : Addr} {xs : List V} (h : H a = some (.lst xs)) : H' a = some (.lst xs) := g.1 a _ (fun _ z => by cases z) h
theorem Gr.tabs {H H' : Hp} (g : Gr H H') {Ps : List Addr} (h : Tabs H Ps) : Tabs H' Ps := fun P hP => g.2 P (h P hP)
theorem Gr.none {H : Hp} {a : Addr} {o : HO} (n : H a = Option.none) : Gr H (upd H a o) := Gr.of fun b u e => by
  rw [upd_ne (ne_of_none e n)]
  exact e
namespace CwR
/-- behind it a token is out -/
def PEp (X : Cx) (e : Expr) (t : TE) : Prop := ∀ (pins : List (Addr × Obj)) (s : Shared) (σ : L2.St) (H : Hp) (Q : VK), Inv X pins σ H s → t σ H Q → wpAny (model X.prog X.w) X.A (eval e X.env) (fun u s' => 1 ≤ s'.toks ∧ EP X pins σ Q u s') X.xe s
theorem pep_ix {X : Cx} {a : Expr} {i : Int} {j : Nat} {p pos : Pos} {ta : TE} {r : R2} (hr : IxR X r) (ha : PE X a ta) (hs : PlainIx (.Constant (.int i) j p)) : PEp X (.Subscript a (.Constant (.int i) j p) pos) (tOp r ta (tC (.int i))) := by
  intro pins s σ H Q I h
  refine Subscript_ (thn (ha.run pins s σ H _ I h) fun v s1 ⟨x, H1, I1, r1, q1⟩ => wpAny_Constant_int ?_)
  refine wpAny_mono (PySem.wpAny_toks (hr a _ pins { s1 with toks := s1.toks + 1 } σ H1 x (.int i) v (.int i s1.toks) Q (I1.tok _) r1 ⟨_, rfl⟩ q1 (hs _ _))) (fun u s2 q => ⟨?_, q.2⟩) fun _ _ z => z.2
  have h1 : s1.toks + 1 ≤ s2.toks := q.1
  omega
theorem pep_repl {X : Cx} {o : Expr} {to : TE} {y z : Str} {j k : Nat} {c0 c1 apos pos : Pos} (ho : PEp X o to) (hyz : (y == z) = false := by decide)
    (hst : starEach [.Constant (.str y) j c0, .Constant (.str z) k c1] X.env = [(false, eval (.Constant (.str y) j c0) X.env), (false, eval (.Constant (.str z) k c1) X.env)] := by rfl)
    (hbase : attributeBase o "replace" X.env (eval o X.env) = eval o X.env := by rfl) (hline : (apos.endLine == pos.line) = true := by rfl) :
    PEp X (.Call (.Attribute o "replace" apos) [.Constant (.str y) j c0, .Constant (.str z) k c1] [] pos) (CwR.tReplC to y z) := by
  intro pins s σ H Q I h
  refine PySem.Call_method2 hbase hst hline (wpAny_mono (ho pins s σ H _ I h) (fun v s1 q => ?_) fun _ _ z => z)
  obtain ⟨hk, v', H1, I1, r1, x, e1, hb, q⟩ := q
  subst e1
  obtain ⟨tx, e2⟩ := r1
  subst e2
  refine ⟨"str", _, PySem.F.plainAttrs_str, PySem.F.slot_str_replace, PySem.F.type_str_replace, typeIs_str _ _ _, (fun _ e => nomatch e), Calls.callWith_builtin rfl (Calls.evalArgs_plain (Calls.spliced_cons ?_))⟩
  refine Calls.Constant_str (Calls.spliced_cons (Calls.Constant_str (Calls.spliced_nil ?_)))
  refine wpAny_mono (PySem.wpAny_toks (PySem.SC.replace (Q := fun u s' => EP X pins σ Q u s') (by show s1.toks ≠ 0; omega) (by show s1.toks + 1 ≠ 0; omega) (by show s1.toks ≠ s1.toks + 1; omega) hyz hb fun t' k => ⟨.str (Txt.replace x y z), H1, I1.tok k, ⟨t', rfl⟩, q⟩)) (fun u s2 q => ⟨?_, q.2⟩) fun _ _ z => z.2
  have h1 : s1.toks + 1 + 1 ≤ s2.toks := q.1
  omega
theorem pe_replP {X : Cx} {e : Expr} {t : TE} (h : PEp X e t) : PE X e t := ⟨fun pins s σ H Q I q => wpAny_mono (h pins s σ H Q I q) (fun _ _ z => z.2) fun _ _ z => z⟩
end CwR

/-! ### list(reversed(a list)) -/
namespace RevL
open RT PySem.Calls
section
variable {prog : Program} {w : World} {A : Around} {E : Value → Shared → Prop} {s : Shared}
theorem grows_rev {it l S : Addr} {c0 : Nat} {xs : Array Value} {R : Result → Shared → Prop} {res : Value} (quiet : A.handled = none) (rev : s.heap.IsRevIter it l ((xs.size : Int) - 1)) (src : s.heap.IsList l xs) (apart : l ≠ it) (few : xs.size ≤ sizeLine)
    (tgt : s.heap.get? S = some { cls := .type "list", data := .seq #[] c0 }) (n1 : S ≠ it) (n2 : S ≠ l)
    (fin : ∀ (hp : Heap) (tk : Nat) (acc : Array Value) (c : Nat), (∀ b o, b ≠ it → b ≠ S → s.heap.get? b = some o → hp.get? b = some o) → hp.get? S = some { cls := .type "list", dict := none, data := .seq acc c, slots := #[] } → ItemsOf (fun i v => xs[xs.size - 1 - i]? = some v) acc xs.size → R (.ok (.ret res)) { s with heap := hp, toks := tk }) :
    wpAny (model prog w) A.in1 (Builtin.List.listExtendWith (.ref S) (.ref it) res)
      (fun f st => match f with | .done g => R (.ok g) st | .again c => c.quiet = true ∧ codeAny (model prog w) A c R st) (fun e st => R (.error e) st) s := by
  have walk := (Walks.listRev (prog := prog) (w := w) (A := A.in1) quiet it l apart xs).toS
  have notIn : S ∉ [it, l] := by
    intro h
    rcases List.mem_cons.mp h with h | h
    · exact n1 h
    · exact n2 (List.mem_singleton.mp h)
  have ty : s.TypeIs (.ref it) "list_reverseiterator" := rev.typeIs
  have unlike : Builtin.List.listSameRef (.ref S) (.ref it) = false := by simp [Builtin.List.listSameRef, n1]
  unfold Builtin.List.listExtendWith
  refine wpAny_bind (wpAny_typeOf ty (?_))
  rw [if_neg (show ¬ _ by rw [unlike]; decide)]
  refine wpAny_bind (wpAny_pyIter_revIter rev (wpAny_bind (wpAny_holding ?_)))
  unfold Builtin.List.listLengthHint
  refine wpAny_bind (wpAny_specialOf ty nolen_lri (?_))
  show wpAny _ _ (specialOf (Value.ref it) (Str.ofString "__length_hint__") >>= _) _ _ _
  refine wpAny_bind (wpAny_specialOf ty hint_lri (?_))
  generalize name : ("list_reverseiterator.__length_hint__" : String) = nm
  wp_delta
  rw [show splitId nm = some ("list_reverseiterator", "__length_hint__") by rw [← name]; decide +kernel]
  rw [← name]
  refine wpAny_bind (wpAny_isInstance (b := true) ty (by rw [isSubtype_type]; kernel_rfl) (wpAny_pure ?_))
  rw [if_neg (show ¬ _ by decide)]
  have first : ((xs.size : Nat) : Int) - 1 - ((0 : Nat) : Int) = (xs.size : Int) - 1 := by omega
  refine wpAny_pure ⟨plainId_quiet F.plain_extend_loop _, codeAny_extend_loopS walk few _ notIn _ xs.size 0 _ _ _ rfl (Nat.zero_le _) ⟨Nat.zero_le _, by rw [first]; exact rev, src⟩ tgt (ItemsOf.nil _) fun st acc c moved hS got => ?_⟩
  rw [Moved.eq_with moved]
  refine fin st.heap st.toks acc c (fun b o b1 b2 e => moved.heap b o (fun h => ?_) e) hS got
  rcases List.mem_cons.mp h with h | h
  · exact b2 h
  · exact b1 (List.mem_singleton.mp h)
theorem call_list_rev {it l : Addr} {xs : Array Value} {Q : Value → Shared → Prop} (quiet : A.handled = none) (rev : s.heap.IsRevIter it l ((xs.size : Int) - 1)) (src : s.heap.IsList l xs) (apart : l ≠ it) (few : xs.size ≤ sizeLine)
    (fin : ∀ (hp : Heap) (tk : Nat) (acc : Array Value) (c : Nat), (∀ b o, b ≠ it → s.heap.get? b = some o → hp.get? b = some o) → hp.get? s.heap.objs.size = some { cls := .type "list", dict := none, data := .seq acc c, slots := #[] } → ItemsOf (fun i v => xs[xs.size - 1 - i]? = some v) acc xs.size → Q (.ref s.heap.objs.size) { s with heap := hp, toks := tk }) :
    wpAny (model prog w) A (call (.type "list") [.ref it]) Q E s := by
  have newAt : ∀ {b : Addr} {o : Obj}, s.heap.get? b = some o → b ≠ s.heap.objs.size := fun e => Nat.ne_of_lt (Heap.lt_size e)
  have itNew : s.heap.objs.size ≠ it := by
    obtain ⟨o, e, _⟩ := id rev
    exact (newAt e).symm
  have lNew : s.heap.objs.size ≠ l := by
    obtain ⟨o, e, _⟩ := id src
    exact (newAt e).symm
  refine callType_codes (Q₁ := fun v st => v = .ref s.heap.objs.size ∧ st = { s with heap := s.heap.push { cls := .type "list", data := .seq #[] } }) F.called_list (F.typeCall_list_1 _) F.entry_list_init (code_list_new _ ⟨rfl, rfl⟩) ?_
  rintro v st ⟨rfl, rfl⟩
  have made : (s.heap.push { cls := .type "list", data := .seq #[] }).get? s.heap.objs.size = some { cls := .type "list", data := .seq #[] } := Heap.get?_push_size _ rfl
  refine ⟨⟨_, made, rfl⟩, F.args_list_init_2 _ _, ?_⟩
  show wpAny _ A.in1.in1 (do let was ← Builtin.List.listItems (.ref s.heap.objs.size); Builtin.List.listUpdate (.ref s.heap.objs.size) (fun _ => #[]); letGo was.toList.reverse; Builtin.List.listExtendWith (.ref s.heap.objs.size) (.ref it) .none) _ _ _
  refine wpAny_bind ?_
  unfold Builtin.List.listItems
  refine wpAny_bind (wpAny_seqItems made rfl (wpAny_pure (wpAny_bind ?_)))
  show wpAny _ _ (updateSeq s.heap.objs.size (fun _ => (#[] : Array Value))) _ _ _
  refine wpAny_updateSeq made rfl (wpAny_bind (wpAny_letGo ?_))
  have emptied := Heap.get?_update_self (Obj.mapSeq (fun _ => (#[] : Array Value))) made rfl
  have stays : ∀ b o, s.heap.get? b = some o → ((s.heap.push { cls := .type "list", data := .seq #[] }).update s.heap.objs.size (Obj.mapSeq (fun _ => (#[] : Array Value)))).get? b = some o := fun b o e =>
    (Heap.get?_update_other _ _ (newAt e).symm).trans (Heap.get?_push_of_some _ e)
  refine grows_rev (A := A.in1) quiet (rev.at fun o e => stays _ _ e) (by obtain ⟨o, e, r⟩ := id src; exact ⟨o, stays _ _ e, r⟩) apart few emptied itNew lNew fun hp tk acc c keep hS got => ?_
  exact ⟨rfl, fin hp tk acc c (fun b o b1 e => keep b o b1 (newAt e) (stays b o e)) hS got⟩
def tLstRev (K : PySem.W.Frag) (te : TE) : TE := fun σ H Q => te σ H fun v H1 => ∃ (a : Addr) (xs : List V), v = .ref a ∧ SqL K H1 a xs ∧ ∀ q, H1 q = none → Q (.ref q) (upd H1 q (.lst xs.reverse))
theorem pe_lstRev {X : Cx} {e : Expr} {te : TE} {p1 p2 pos pos2 : Pos} (calm : X.calm = true) (g1 : Gl X "list") (m1 : X.mg "list" = none) (g2 : Gl X "reversed") (m2 : X.mg "reversed" = none) (he : PE X e te)
    (st1 : starEach [e] X.env = (false, eval e X.env) :: starEach [] X.env := by rfl)
    (st2 : starEach [.Call (.Name "reversed" p2) [e] [] pos2] X.env = (false, eval (.Call (.Name "reversed" p2) [e] [] pos2) X.env) :: starEach [] X.env := by rfl) :
    PE X (.Call (.Name "list" p1) [.Call (.Name "reversed" p2) [e] [] pos2] [] pos) (tLstRev X.K te) := by
  refine ⟨fun pins s σ H Q I told => ?_⟩
  refine Call_ (ld_blt I g1 m1 boot_list (PyProof.Rows.callWith_type1 (args_cons (Call_ (ld_blt I g2 m2 PyProof.Rows.boot_reversed (PyProof.Rows.callWith_type1 (args_cons (thn (he.run pins s σ H _ I told) ?_) st1) st1 rfl))) st2) st2 rfl))
  rintro u s1 ⟨v, H1, I1, r1, a, xs, rfl, list, q⟩
  refine args_nil ?_
  cases (show u = Value.ref a from r1)
  obtain ⟨us, rv, plain, few⟩ := I1.list list
  have src := plain.isList
  refine call_reversed_list src (args_nil ?_)
  have apart : a ≠ s1.heap.objs.size := by
    obtain ⟨o, e, _⟩ := id src
    exact Nat.ne_of_lt (Heap.lt_size e)
  have few2 : us.toArray.size ≤ sizeLine := by
    rw [List.size_toArray, ← rv.length]
    exact few
  refine call_list_rev (s := { s1 with heap := s1.heap.push (revObj a ((us.toArray.size : Int) - 1)) }) (I1.ok.hd calm) ⟨_, Heap.get?_push_size _ rfl, rfl, rfl⟩ (src.push _) apart few2 fun hp tk acc c keep hS got => ?_
  have size2 : s1.heap.objs.size ≤ (s1.heap.push (revObj a ((us.toArray.size : Int) - 1))).objs.size := by
    rw [Heap.size_push]
    exact Nat.le_succ _
  refine ⟨.ref _, upd H1 _ (.lst xs.reverse), I1.laid (t' := tk) (fun b o e => keep b o (Nat.ne_of_lt (Heap.lt_size e)) (Heap.get?_push_of_some _ e)) size2 ⟨by rw [List.length_reverse]; exact few, acc.toList, c, vals_rev rv got, ?_⟩, rfl, q _ (I1.hok.fresh size2)⟩
  rw [Array.toArray_toList]
  exact hS
end
end RevL

/-! ### heaps -/
theorem same_upd {H : Hp} {p : Addr} {o : HO} (h : H p = none) : Same H (upd H p o) := fun b x e => by
  rw [upd_ne (ne_of_none e h)]
  exact e
def Fr (d l : Addr) (H H' : Hp) : Prop := ∀ b o, b ≠ d → b ≠ l → H b = some o → H' b = some o
theorem Fr.trans {d l : Addr} {H H1 H2 : Hp} (a : Fr d l H H1) (b : Fr d l H1 H2) : Fr d l H H2 := fun c o h1 h2 h => b c o h1 h2 (a c o h1 h2 h)
theorem Fr.refl {d l : Addr} {H : Hp} : Fr d l H H := fun _ _ _ _ h => h
theorem Fr.new {d l p : Addr} {H : Hp} {o : HO} (h : H p = none) : Fr d l H (upd H p o) := fun b x _ _ e => same_upd h b x e
theorem Fr.of {d l : Addr} {H H' : Hp} (h : Same H H') : Fr d l H H' := fun b x _ _ e => h b x e
theorem Fr.d {d l : Addr} {H : Hp} {o : HO} : Fr d l H (upd H d o) := fun b x h1 _ e => by rw [upd_ne h1]; exact e
theorem Fr.l {d l : Addr} {H : Hp} {o : HO} : Fr d l H (upd H l o) := fun b x _ h2 e => by rw [upd_ne h2]; exact e
def Deck (H : Hp) (d l : Addr) : Prop := d ≠ l ∧ ∃ (cs : List Int) (z : Int), H d = some (.lst [.ref l, .int z]) ∧ H l = some (.lst (cs.map V.int)) ∧ cs.length ≤ 63 ∧ 0 ≤ z ∧ z < 4294967296
theorem Deck.same {H H' : Hp} {d l : Addr} (D : Deck H d l) (s : Same H H') : Deck H' d l := by
  obtain ⟨ne, cs, z, hd, hl, r⟩ := D
  exact ⟨ne, cs, z, s _ _ hd, s _ _ hl, r⟩
theorem Deck.new {H : Hp} {d l p : Addr} {o : HO} (D : Deck H d l) (h : H p = none) : Deck (upd H p o) d l := D.same (same_upd h)
theorem Deck.ne_new {H : Hp} {d l p : Addr} (D : Deck H d l) (h : H p = none) : p ≠ d ∧ p ≠ l := by
  obtain ⟨ne, cs, z, hd, hl, r⟩ := D
  exact ⟨(ne_of_none hd h).symm, (ne_of_none hl h).symm⟩
theorem p29 : (0 : Int) < 2147483629 := by decide
theorem p47 : (0 : Int) < 2147483647 := by decide
theorem p87 : (0 : Int) < 2147483587 := by decide
theorem sl1 : 1 ≤ sizeLine := by decide
theorem sl2 : 2 ≤ sizeLine := by decide
theorem sl3 : 3 ≤ sizeLine := by decide
theorem sl4 : 4 ≤ sizeLine := by decide
theorem seqIx0 {α : Type} (x : α) (xs : List α) : seqIndex? 0 (x :: xs).length = some 0 := by
  refine (ixN_seq (n := (x :: xs).length) (i := 0) (j := 0) ?_).1
  unfold ixN
  rw [if_pos (by decide), if_pos (by rw [List.length_cons]; omega)]
  rfl
theorem dpInts {K : PySem.W.Frag} {H : Hp} : ∀ cs : List Int, DpAll K H (cs.map V.int) (cs.map PyData.int)
  | [] => .nil
  | c :: r => .cons (.int c) (dpInts r)
theorem shInts (ns : List Int) : SeqAt.shaped (.list (ns.map PyData.int)) = true := by
  unfold SeqAt.shaped
  rw [Bool.and_eq_true]
  refine ⟨?_, ?_⟩
  · simp only [PyData.canLay0, canLayAll_ints]
  · simp only [PyData.depth, depthAll_ints]
    decide
theorem at_pick {xs : List V} {j : Int} (h0 : 0 ≤ j) (h1 : j < xs.length) : ∃ x, atI xs j = some x ∧ x ∈ xs := by
  obtain ⟨k, rfl⟩ : ∃ k : Nat, j = (k : Int) := ⟨j.toNat, (Int.toNat_of_nonneg h0).symm⟩
  have hk : k < xs.length := by omega
  exact ⟨xs[k], atI_nat (List.getElem?_eq_getElem hk), List.getElem_mem hk⟩
theorem units65 {k : Nat} {A : Around} (r : Room k A) : A.units + 65 < cLine := by have := r.un; omega
def rLenK (K : PySem.W.Frag) : List V → Hp → VK → Prop := fun xs H Q => ∃ p ys, xs = [.ref p] ∧ (SqL K H p ys ∨ SqT K H p ys) ∧ Q (.int ys.length) H
def rTupK (K : PySem.W.Frag) : List V → Hp → VK → Prop := fun xs H Q => ∃ p ys, xs = [.ref p] ∧ ((SqL K H p ys ∧ ∀ l, H l = none → Q (.ref l) (upd H l (.tup ys))) ∨ (SqT K H p ys ∧ Q (.ref p) H))
def rLstK (K : PySem.W.Frag) : List V → Hp → VK → Prop := fun xs H Q => ∃ p ys, xs = [.ref p] ∧ (SqL K H p ys ∨ SqT K H p ys) ∧ ∀ l, H l = none → Q (.ref l) (upd H l (.lst ys))
/-- joining ways behind a test, behind an expression -/
def tCutT (t : TT) : TT := fun σ H Q => ∃ Mid : Bool → Hp → Prop, t σ H Mid ∧ ∀ b H1, Mid b H1 → Q b H1
theorem pt_cut {X : Cx} {e : Expr} {t : TT} (h : PT X e t) : PT X e (tCutT t) := ⟨fun pins s σ H Q I hw => by
  obtain ⟨Mid, h1, q⟩ := hw
  exact thn (h.run pins s σ H _ I h1) fun c s1 ⟨H1, I1, m⟩ => ⟨H1, I1, q _ _ m⟩⟩
def tCutE (t : TE) : TE := fun σ H Q => ∃ Mid : VK, t σ H Mid ∧ ∀ v H1, Mid v H1 → Q v H1
theorem pe_cut {X : Cx} {e : Expr} {t : TE} (h : PE X e t) : PE X e (tCutE t) := ⟨fun pins s σ H Q I hw => by
  obtain ⟨Mid, h1, q⟩ := hw
  exact thn (h.run pins s σ H _ I h1) fun u s1 ⟨v, H1, I1, r, m⟩ => ⟨v, H1, I1, r, q _ _ m⟩⟩

/-! ### defs called where nothing is being shown (so that repr tells what stands there) -/
structure FnG (P : Program) (w : World) (K : PySem.W.Frag) (mg : Str → Option Value) (bs : Heap) (CX : CXT) (k : Nat) (f : Addr) (fd : FuncData) (ps : List Str) (sp : Sp) : Prop where
  many : ∀ vs H Q E, sp vs H Q E → vs.length = ps.length
  go : ∀ A : Around, A.guards = some [] → Room k A → ∀ (fr : List Env) (s : Shared) (H : Hp) (ar : Args) (us : List Value) (vs : List V) (Q : VK) (E : XK), Env0 P w K mg bs A fr s H → BindsTo s fd ar (ps.zip us) → Vals vs us → sp vs H Q E → codeAny (model P w) A (.call (.ref f) ar) (CR CX fr P w H s Q E) s
theorem FnG.of {P : Program} {w : World} {K : PySem.W.Frag} {mg : Str → Option Value} {bs : Heap} {CX : CXT} {k : Nat} {f : Addr} {fd : FuncData} {ps : List Str} {sp : Sp} (F : FnOk P w K mg bs CX k f fd ps sp) : FnG P w K mg bs CX k f fd ps sp :=
  ⟨F.len, fun A _ room fr s H ar us vs Q E e0 b r h => F.run A fr s H ar us vs Q E room e0 b r h⟩
theorem okG {CX : CXT} {P : Program} {w : World} {K : PySem.W.Frag} {mg : Str → Option Value} {bs : Heap} {x qual : Str} {st : Stmt} {f : Addr} {fd : FuncData} {N ps : List Str} {k : Nat} {sp : Sp} (F : Fun K x qual st f fd) (S : FnScope N ps (defScope st))
    (many : ∀ vs H Q E, sp vs H Q E → vs.length = ps.length)
    (body : ∀ (cdv : Value) (A : Around) (fr : List Env) (s : Shared) (H : Hp) (vs : List V) (Q : VK) (E : XK), A.guards = some [] → Room k (A.deeper (envOfC qual (defScope st) s.heap.objs.size f cdv)) → sp vs H Q E →
      ∃ t, PSs (cxOf CX P w K mg bs N qual (defScope st) f cdv A fr s H E) (defBody st) t ∧ t ⟨fun _ H' => Q .non H', Q, fun _ _ => False, fun _ _ => False⟩ (start N vs) H) : FnG P w K mg bs CX (k + 1) f fd ps sp := by
  obtain ⟨oc, od, kV, doc, pm, an, cdv, ct, osl, rfl, lk, code⟩ := F.ex
  refine ⟨many, fun A nothing room fr s H ar us vs Q E e0 bound rel told => ?_⟩
  have stays : ∀ b o, bs.get? b = some o → s.heap.get? b = some o := fun b o z => (e0.bs b o z).1
  have inK : K.In s.heap := e0.mod.kin.keeps stays
  have places : ∀ y ∈ ps.zip us, (defScope st).names.lookup y.1 = some .local ∨ ((defScope st).names.lookup y.1 = some .cell ∧ ((cellsFrom (s.heap.objs.size + 1) (defScope st).names []).lookup y.1).isSome = true) := by
    rintro ⟨n, v⟩ hy
    exact (S.par n (List.of_mem_zip hy).1).imp id fun c => ⟨c, PySem.W.cellsFrom_some _ _ _ (Or.inl c)⟩
  refine codeAny_call_function room.depth (inK _ _ lk) rfl S.co S.gen rfl (PySem.W.codeRec_of inK code) (bound _ _ _ _
    (wpAny_newFunctionEnv_cells S.kind places fun env he s1 made => ?_))
  subst he
  obtain ⟨t, runs, holds⟩ := body cdv A fr s H vs Q E nothing (room.deeper _) told
  refine ⟨(e0.mod.nolimit.keeps stays).keeps made.toInCall.keep, codeAny_func (wpAny_mono (runs.run [] s1 (start N vs) H _ (inv_start S room.hd e0 (many _ _ _ _ told) rel made) holds) (fun fl s2 z => ?_) fun _ _ z => z)⟩
  match fl, z with
  | .ret _, ⟨v, _, H', J, rv, q⟩ => exact ⟨v, H', J.os, J.bare, J.base, J.hok, rv, q⟩
  | .next, ⟨_, H', J, q⟩ => exact ⟨V.non, H', J.os, J.bare, J.base, J.hok, rfl, q⟩
  | .brk, ⟨_, _, _, q⟩ => exact q.elim
  | .cont, ⟨_, _, _, q⟩ => exact q.elim
theorem okG0 {P : Program} {w : World} {K : PySem.W.Frag} {mg : Str → Option Value} {bs : Heap} {x qual : Str} {st : Stmt} {f : Addr} {fd : FuncData} {N ps : List Str} {k : Nat} {sp : Sp} (F : Fun K x qual st f fd) (S : FnScope N ps (defScope st))
    (many : ∀ vs H Q E, sp vs H Q E → vs.length = ps.length)
    (body : ∀ (cdv : Value) (A : Around) (fr : List Env) (s : Shared) (H : Hp) (vs : List V) (Q : VK) (E : XK), A.guards = some [] → Room k (A.deeper (envOfC qual (defScope st) s.heap.objs.size f cdv)) → sp vs H Q E →
      ∃ t, PSs (cxOf CX0 P w K mg bs N qual (defScope st) f cdv A fr s H E).nox (defBody st) t ∧ t ⟨fun _ H' => Q .non H', Q, fun _ _ => False, fun _ _ => False⟩ (start N vs) H) : FnG P w K mg bs CX0 (k + 1) f fd ps sp :=
  okG F S many fun cdv A fr s H vs Q E g r h => by
    obtain ⟨t, p, q⟩ := body cdv A fr s H vs Q E g r h
    exact ⟨t, p.nox, q⟩
section
variable {X : Cx} {CX : CXT} {k : Nat} {f : Addr} {fd : FuncData} {ps : List Str} {sp : Sp} {ds : List Value} {dvs : List V} {E : XK}
theorem runG {pins : List (Addr × Obj)} {σ : L2.St} {H : Hp} {s : Shared} {Q : VK} {us : List Value} {vs : List V} (F : FnG X.prog X.w X.K X.mg X.base CX k f fd ps sp) (nothing : X.A.guards = some []) (room : Room k X.A) (hb : Binds X.K fd ps ds)
    (hd : Vals dvs ds) (out : Passes CX X E) (I : Inv X pins σ H s) (r : Vals vs us) (told : sp (vs ++ dvs) H Q E) : wpAny (model X.prog X.w) X.A (call (.ref f) us) (EP X pins σ Q) X.xe s := by
  have rel : Vals (vs ++ dvs) (us ++ ds) := r.append hd
  have size : (us ++ ds).length = ps.length := rel.length ▸ F.many _ _ _ _ told
  refine wpAny_call (codeAny_mono (F.go X.A nothing room X.stack s H _ _ _ Q E I.env0 (hb s us I.kIn size) rel told) fun res s2 z => ?_)
  match res, z with
  | .error e, z => exact out pins σ H s e s2 I z
  | .ok (.ret u), z => exact I.after z
  | .ok .next, z => exact z.elim
  | .ok .brk, z => exact z.elim
  | .ok .cont, z => exact z.elim
theorem pe_callG {x : Str} {p pos : Pos} {e : Expr} {es : List Expr} {t : TA} (F : FnG X.prog X.w X.K X.mg X.base CX k f fd ps sp) (nothing : X.A.guards = some []) (room : Room k X.A) (hg : Gl X x) (hm : X.mg x = some (.ref f)) (kp : PySem.W.keepIn X.K (.ref f) = true)
    (hb : Binds X.K fd ps ds) (hd : Vals dvs ds) (out : Passes CX X E) (ha : PA X (e :: es) t) (nd : (x == ("__debug__" : Str)) = false := by decide) (he : starEach (e :: es) X.env = (false, eval e X.env) :: starEach es X.env := by rfl)
    (hpl : (backTo pos (starEach es X.env)).any (·.1) = false := by rfl) : PE X (.Call (.Name x p) (e :: es) [] pos) (tCall sp dvs E t) := by
  refine ⟨fun pins s σ H Q I told => wpAny_Call_Name_kw (ld_glob I hg hm ?_ nd)⟩
  refine PySem.W.callWith_K (h₀ := X.base) I.ok.mod.kin kp (thn (ha.run pos pins s σ H _ I told) ?_) he hpl
  rintro us s1 ⟨vs, H1, J, r, q⟩
  exact ⟨J.kIn, runG F nothing room hb hd out J r q⟩
end
/-! ### what is shown by repr: plain data, whose lists and dicts were made by the law -/
def kD : Key → PyData
  | .inl i => .int i
  | .inr x => .str x
mutual
inductive Sh (H : Hp) : V → PyData → Prop
  | non : Sh H .non .none
  | bl (b : Bool) : Sh H (.bl b) (.bool b)
  | int (i : Int) : Sh H (.int i) (.int i)
  | str (x : Str) : Sh H (.str x) (.str x)
  | lst {a : Addr} {xs : List V} {ds : List PyData} : H a = some (.lst xs) → a ≠ sysModules → ShAll H xs ds → Sh H (.ref a) (.list ds)
  | tup {a : Addr} {xs : List V} {ds : List PyData} : H a = some (.tup xs) → ShAll H xs ds → Sh H (.ref a) (.tuple ds)
  | dic {a : Addr} {kvs : List (Key × V)} {ds : List PyData} : H a = some (.dK kvs) → ShAll H (kvs.map (·.2)) ds → Sh H (.ref a) (.dict ((kvs.map fun kv => kD kv.1).zip ds))
inductive ShAll (H : Hp) : List V → List PyData → Prop
  | nil : ShAll H [] []
  | cons {v : V} {vs : List V} {d : PyData} {ds : List PyData} : Sh H v d → ShAll H vs ds → ShAll H (v :: vs) (d :: ds)
end
theorem ShAll.length {H : Hp} : ∀ {vs : List V} {ds : List PyData}, ShAll H vs ds → vs.length = ds.length
  | _, _, .nil => rfl
  | _, _, .cons _ t => by rw [List.length_cons, List.length_cons, t.length]
mutual
theorem Sh.same {H H' : Hp} (s : Same H H') : ∀ {v : V} {d : PyData}, Sh H v d → Sh H' v d
  | _, _, .non => .non
  | _, _, .bl b => .bl b
  | _, _, .int i => .int i
  | _, _, .str x => .str x
  | _, _, .lst h n t => .lst (s _ _ h) n (t.same s)
  | _, _, .tup h t => .tup (s _ _ h) (t.same s)
  | _, _, .dic h t => .dic (s _ _ h) (t.same s)
theorem ShAll.same {H H' : Hp} (s : Same H H') : ∀ {vs : List V} {ds : List PyData}, ShAll H vs ds → ShAll H' vs ds
  | _, _, .nil => .nil
  | _, _, .cons h t => .cons (h.same s) (t.same s)
end
/-- the name of the class of such data -/
def tyD : PyData → String
  | .none => "NoneType"
  | .bool _ => "bool"
  | .int _ => "int"
  | .str _ => "str"
  | .list _ => "list"
  | .tuple _ => "tuple"
  | .dict _ => "dict"
theorem Sh.ty {K : PySem.W.Frag} {H : Hp} {v : V} {d : PyData} (h : Sh H v d) : TyX K H v (.type (tyD d)) := by
  cases h with
  | non => exact .base .non
  | bl b => exact .base (.bl b)
  | int i => exact .base (.int i)
  | str x => exact .base (.str x)
  | lst h _ _ => exact .base (.lst h)
  | tup h _ => exact .base (.tup h)
  | dic h _ => exact .base (.dK h)
section
variable {X : Cx} {pins : List (Addr × Obj)} {σ : L2.St} {H : Hp} {s : Shared}
theorem pairs_keys {P : Program} {w : World} {h : Heap} : ∀ {es : List DictEntry} {kvs : List (Key × Value)}, Pairs (mixKind P w) es kvs → ReadsAll h (es.map (·.key)) (kvs.map fun kv => kD kv.1) []
  | _, _, .nil => .nil
  | _, _, .cons (kv := kv) hk _ t => by
    have r := pairs_keys (h := h) t
    rcases keyIs_shape (k := kv.1) hk with ⟨i, u, e1, e2⟩ | ⟨x, u, e1, e2⟩
    · rw [List.map_cons, List.map_cons, e1, e2]
      exact ReadsAll.cons (as := []) (.int i u) r
    · rw [List.map_cons, List.map_cons, e1, e2]
      exact ReadsAll.cons (as := []) (.str x u) r
theorem pairs_vals {P : Program} {w : World} : ∀ {es : List DictEntry} {kvs : List (Key × Value)}, Pairs (mixKind P w) es kvs → es.map (·.val) = kvs.map (·.2)
  | _, _, .nil => rfl
  | _, _, .cons _ hv t => by rw [List.map_cons, List.map_cons, hv, pairs_vals t]
theorem kv_rel : ∀ {kvs : List (Key × V)} {vs : List (Key × Value)}, KV kvs vs → kvs.map (·.1) = vs.map (·.1) ∧ Vals (kvs.map (·.2)) (vs.map (·.2))
  | _, _, .nil => ⟨rfl, .nil⟩
  | _, _, .cons h t => by
    obtain ⟨a, b⟩ := kv_rel t
    exact ⟨by rw [List.map_cons, List.map_cons, a, h.1], .cons h.2 b⟩
mutual
theorem Sh.reads (I : Inv X pins σ H s) : ∀ (v : V) (d : PyData) (u : Value), Sh H v d → RelV v u → ∃ as, Reads s.heap u d as ∧ sysModules ∉ as
  | _, _, _, .non, r => by cases r; exact ⟨_, .none, List.not_mem_nil⟩
  | _, _, _, .bl b, r => by cases r; exact ⟨_, .bool b, List.not_mem_nil⟩
  | _, _, _, .int i, r => by obtain ⟨t, rfl⟩ := r; exact ⟨_, .int i t, List.not_mem_nil⟩
  | _, _, _, .str x, r => by obtain ⟨t, rfl⟩ := r; exact ⟨_, .str x t, List.not_mem_nil⟩
  | _, _, _, .lst (a := a) (xs := xs) h n t, r => by
    cases r
    obtain ⟨_, its, c, rv, ho⟩ := (show ObjOk X.prog X.w H s.heap a (.lst xs) from I.hok a _ h)
    obtain ⟨as, q, m⟩ := ShAll.reads I _ _ its t rv
    exact ⟨_, .list ho rfl rfl (by simpa using q), fun z => (List.mem_cons.mp z).elim (fun e => n e.symm) m⟩
  | _, _, _, .tup (a := a) (xs := xs) h t, r => by
    cases r
    obtain ⟨_, its, rv, o, ho, hc, c, hd⟩ := (show ObjOk X.prog X.w H s.heap a (.tup xs) from I.hok a _ h)
    obtain ⟨as, q, m⟩ := ShAll.reads I _ _ its t rv
    exact ⟨_, .tuple ho hc hd (by simpa using q), m⟩
  | _, _, _, .dic (a := a) (kvs := kvs) (ds := ds) h t, r => by
    cases r
    obtain ⟨_, low, vs, rel, o, es, ep, ho, hx, hd, _, hp, _⟩ := (show ObjOk X.prog X.w H s.heap a (.dK kvs) from I.hok a _ h)
    obtain ⟨rk, rv⟩ := kv_rel rel
    obtain ⟨as, q, m⟩ := ShAll.reads I _ _ (vs.map (·.2)) t rv
    have k1 : (kvs.map fun kv => kD kv.1) = vs.map fun kv => kD kv.1 := by
      have := congrArg (List.map kD) rk
      rw [List.map_map, List.map_map] at this
      exact this
    have ln : (kvs.map fun kv => kD kv.1).length = ds.length := by
      have := t.length
      rw [List.length_map] at this
      rw [List.length_map, this]
    refine ⟨_, .dict (as := []) (bs := as) ho hx.1 hd ?_ ?_, ?_⟩
    · rw [List.map_fst_zip (Nat.le_of_eq ln), k1]
      exact pairs_keys hp
    · rw [List.map_snd_zip (Nat.le_of_eq ln.symm), pairs_vals hp]
      exact q
    · intro z
      rcases List.mem_cons.mp z with e | e
      · exact absurd low (by rw [← e]; simp)
      · exact m e
theorem ShAll.reads (I : Inv X pins σ H s) : ∀ (vs : List V) (ds : List PyData) (us : List Value), ShAll H vs ds → Vals vs us → ∃ as, ReadsAll s.heap us ds as ∧ sysModules ∉ as
  | _, _, _, .nil, r => by cases r; exact ⟨_, .nil, List.not_mem_nil⟩
  | _, _, _, .cons h t, r => by
    cases r with
    | cons r1 r2 =>
      obtain ⟨as, q1, m1⟩ := Sh.reads I _ _ _ h r1
      obtain ⟨bs, q2, m2⟩ := ShAll.reads I _ _ _ t r2
      exact ⟨_, .cons q1 q2, fun z => (List.mem_append.mp z).elim m1 m2⟩
end
end
def rRepr : List V → Hp → VK → Prop := fun xs H Q => ∃ x d, xs = [x] ∧ Sh H x d ∧ d.showable = true ∧ d.shown.length ≤ sizeLine ∧ d.depth ≤ 50 ∧ Q (.str d.shown) H
theorem call_repr {X : Cx} (nothing : X.A.guards = some []) (hu : X.A.units + 64 < cLine) : CallR X (.builtin "repr") rRepr := by
  intro pins s σ H xs us Q I r h
  obtain ⟨x, d, rfl, sh, able, fits, deep, q⟩ := h
  cases r with
  | @cons _ u _ _ r1 r2 =>
    cases r2
    obtain ⟨as, rd, low⟩ := Sh.reads I _ _ _ sh r1
    have fin : ∀ h' t tk, (∀ b o, s.heap.get? b = some o → h'.get? b = some o) → EP X pins σ Q (.str d.shown t) { s with heap := h', toks := tk } := fun h' t tk kept => ⟨.str d.shown, H, I.kept kept, ⟨t, rfl⟩, q⟩
    cases sh with
    | non => cases r1; exact PySem.P.repr_of_none (fin _ _ _ fun _ _ z => z)
    | bl b => cases r1; exact PySem.P.repr_of_bool (fin _ _ _ fun _ _ z => z)
    | int i => obtain ⟨t, rfl⟩ := r1; exact PySem.P.repr_of_int (of_decide_eq_true able) (fin _ _ _ fun _ _ z => z)
    | str x => obtain ⟨t, rfl⟩ := r1; exact PySem.P.repr_of_str (fin _ _ _ fun _ _ z => z) fits
    | lst _ _ _ => cases r1; exact repr_of_reads' rd able (fun _ => low) nothing (by omega) (fun _ _ z => z) fin fits
    | tup _ _ => cases r1; exact repr_of_reads' rd able (fun _ => low) nothing (by omega) (fun _ _ z => z) fin fits
    | dic _ _ => cases r1; exact repr_of_reads' rd able (fun _ => low) nothing (by omega) (fun _ _ z => z) fin fits
/-- a display's list is none of the interpreter's own -/
def tLstN (t : TA) : TE := fun σ H Q => t σ H fun xs H1 => xs.length ≤ sizeLine ∧ ∀ p, H1 p = none → p ≠ sysModules → Q (.ref p) (upd H1 p (.lst xs))
theorem pe_lstN {X : Cx} {es : List Expr} {t : TA} {pos : Pos} (h : PA X es t) : PE X (.List es pos) (tLstN t) := by
  refine ⟨fun pins s σ H Q I told => wpAny_List_spliced (thn (h.run pos pins s σ H _ I told) ?_)⟩
  rintro us s1 ⟨xs, H1, J, r, small, q⟩
  have free : H1 s1.heap.objs.size = none := J.hok.fresh (Nat.le_refl _)
  refine ⟨by rw [← r.length]; exact small, .ref s1.heap.objs.size, upd H1 s1.heap.objs.size (.lst xs), J.laid (t' := s1.toks) (fun b u z => Heap.get?_push_of_some _ z) (Nat.le_refl _) ⟨small, us, 0, r, Heap.get?_push_size _ rfl⟩, rfl, q _ free (Nat.ne_of_gt J.big)⟩
/-! ### the end of a law whose defs are called where nothing is being shown -/
theorem law_G {P : Program} {w : World} {K : PySem.W.Frag} {mg mb : Str → Option Value} {CX : CXT} {k : Nat} {fa a : Addr} {fd : FuncData} {x : Str} {sp : Sp} {s : Shared} {vs : List Value} {ns : List Int}
    (inK : K.In s.heap) (gl : s.heap.Ns mainGlobals mg) (bl : s.heap.Ns builtinsNs mb) (boot : ∀ y : Str, y ≠ "__name__" → mb y = bootBuiltins y) (lim : s.heap.NoLimit) (ng : s.gens = #[])
    (at_ : s.heap.get? a = some { cls := .type "list", data := .seq vs.toArray }) (are : IntsAre vs ns) (small : ns.length ≤ sizeLine) (room : Room k callerA)
    (F : ∀ bs : Heap, K.In bs → bs.Ns mainGlobals mg → FnG P w K mg bs CX k fa fd [x] sp) (bound : ∀ (s : Shared) (u : Value), BindsTo s fd ⟨[u], []⟩ [(x, u)])
    (told : ∀ H : Hp, Only H → SqL K H a (ns.map V.int) → sp [.ref a] H (fun v _ => v = .bl true) fun _ _ _ => False)
    (noX : ∀ H e s', CX [] H s (fun _ _ _ => False) e s' → False) :
    codeAny (model P w) callerA (.call (.ref fa) ⟨[.ref a], []⟩) (fun r s' => r = .ok (.ret (.bool true)) ∧ OldK s.heap s'.heap ∧ s'.os = s.os ∧ AllBare s'.gens) s := by
  have main : ∀ H : Hp, Only H → SqL K H a (ns.map V.int) → HOk P w H s.heap → (∀ b, H b ≠ none → b = a) → (H a ≠ none → K.lookup a = none) →
      codeAny (model P w) callerA (.call (.ref fa) ⟨[.ref a], []⟩) (fun r s' => r = .ok (.ret (.bool true)) ∧ OldK s.heap s'.heap ∧ s'.os = s.os ∧ AllBare s'.gens) s := by
    intro H only list ok alone out
    have seen : ∀ {b : Addr} {o : Obj}, s.heap.get? b = some o → H b = none → (hidT s.heap H).get? b = some o := fun z n => hidT_get z n
    have dict : ∀ {b : Addr} {o : Obj} {es : Array DictEntry} {ep : Nat}, s.heap.get? b = some o → o.data = .dict es ep → H b = none := by
      intro b o es ep z dz
      refine Classical.byContradiction fun some_ => ?_
      have eb := alone b some_
      rw [eb, at_] at z
      cases z
      cases (show Data.seq vs.toArray _ = Data.dict es ep from dz)
    have names : ∀ {b : Addr} {m : Str → Option Value}, s.heap.Ns b m → (hidT s.heap H).Ns b m := by
      rintro b m ⟨o, es, ep, z, dz, rest⟩
      exact ⟨o, es, ep, seen z (dict z dz), dz, rest⟩
    have inB : K.In (hidT s.heap H) := by
      intro b o z
      refine seen (inK b o z) (Classical.byContradiction fun some_ => ?_)
      have eb := alone b some_
      subst eb
      rw [out some_] at z
      cases z
    obtain ⟨ml, l1, l2⟩ := lim
    have mod : Mod K mg (hidT s.heap H) := ⟨inB, names gl, ⟨mb, names bl, boot⟩, ⟨ml, names l1, l2⟩⟩
    have env : Env0 P w K mg (hidT s.heap H) callerA [] s H := { frames := rfl, mod := mod, bs := fun b o z => of_hidT z, bsz := Nat.le_of_eq (hidT_size _ _), funs := trivial, frf := (fun b hb => by cases (show b ∈ ([] : List Addr) from hb)), hok := ok, bare := .of_eq ng }
    refine codeAny_mono ((F _ inB (names gl)).go callerA rfl room [] s H _ [.ref a] [.ref a] _ _ env (bound s (.ref a)) (.cons rfl .nil) (told H only list)) fun r s2 z => ?_
    match r, z with
    | .error e, z => exact (noX H e s2 z).elim
    | .ok .next, z => exact z.elim
    | .ok .brk, z => exact z.elim
    | .ok .cont, z => exact z.elim
    | .ok (.ret u), ⟨v, H2, os, bare, un, ok2, rel, q⟩ =>
      cases (show v = V.bl true from q)
      cases (show u = Value.bool true from rel)
      refine ⟨rfl, OldK.of_keep fun b o z => ?_, os, bare⟩
      by_cases hb : H b = none
      · exact un.keep b o z hb (fun m => by cases (show b ∈ ([] : List Addr) from m)) (fun m => by cases m)
      · rcases only b with n | ⟨ob, xs, f⟩
        · exact absurd n hb
        · have o1 := (ok b _ f).1
          have o2 := (ok2 b _ (un.frzs b ob _ f)).1
          rw [z] at o1
          rw [Option.some.inj o1]
          exact o2
  have rel := vals_ints are
  cases hk : K.lookup a with
  | some o =>
    have z := inK a o hk
    rw [at_] at z
    cases z
    exact main (fun _ => none) (fun _ => .inl rfl) (.inr ⟨_, vs.toArray, _, hk, rfl, rfl, rfl, by rw [List.size_toArray, are.length]; exact small, by simpa using rel⟩) (fun b u z => by cases z) (fun b z => absurd rfl z) fun z => absurd rfl z
  | none =>
    have on : ∀ b : Addr, b = a → (if b = a then some (HO.frz { cls := .type "list", data := .seq vs.toArray } (.lst (ns.map V.int))) else none) = some (HO.frz { cls := .type "list", data := .seq vs.toArray } (.lst (ns.map V.int))) := fun b e => if_pos e
    refine main (fun b => if b = a then some (.frz { cls := .type "list", data := .seq vs.toArray } (.lst (ns.map V.int))) else none) (fun b => ?_) (.inl (.inr ⟨_, on a rfl⟩)) (fun b u z => ?_) (fun b z => ?_) fun _ => hk
    · rcases Classical.em (b = a) with e | e
      · exact .inr ⟨_, _, on b e⟩
      · exact .inl (if_neg e)
    · rcases Classical.em (b = a) with e | e
      · have := (on b e).symm.trans z
        cases this
        subst e
        exact ⟨at_, by rw [List.length_map]; exact small, vs, _, rel, at_⟩
      · have := (if_neg e).symm.trans z
        cases this
    · exact Classical.byContradiction fun e => z (if_neg e)
theorem walk_G {l : PySem.W.OpenLaw} {n k : Nat} {q : Program} {loose : List Str} {XP : (Str → Option Value) → Heap → Prop} {YP : World → Heap → Prop} {d : DefRec} {K : Params → PySem.W.Frag} {CX : World → CXT} {sp : World → Sp} {x : Str}
    (most : l.most = some n) (small : n ≤ sizeLine) (nodef : d.params.defaults = []) (room : Room k callerA) (inK : ∀ (w : World) (h : Heap), YP w h → (K w.params).In h)
    (F : ∀ (w : World) (mg : Str → Option Value) (fa : Addr) (h : Heap), (K w.params).In h → h.Ns mainGlobals mg → mg d.name = some (.ref fa) →
      ∃ fd : FuncData, (∀ (s : Shared) (u : Value), BindsTo s fd ⟨[u], []⟩ [(x, u)]) ∧ ∀ bs : Heap, (K w.params).In bs → bs.Ns mainGlobals mg → FnG l.prog w (K w.params) mg bs (CX w) k fa fd [x] (sp w))
    (told : ∀ (w : World) (H : Hp) (a : Addr) (ns : List Int), ns.length ≤ n → Only H → SqL (K w.params) H a (ns.map V.int) → sp w [.ref a] H (fun v _ => v = .bl true) fun _ _ _ => False)
    (noX : ∀ (w : World) (H : Hp) (s : Shared) (e : Value) (s' : Shared), CX w [] H s (fun _ _ _ => False) e s' → False) :
    PySem.W.WalkO q loose XP YP l.row.toRowW d [] (fun f vs => PySem.call f vs) := by
  refine Att.attach_call most nodef fun w s₀ s₁ mg mb fa o pm cd doc a vs ns G Y ho hd hcd hmg hobj hints hlen hg => ?_
  obtain ⟨fd, bound, FG⟩ := F w mg fa _ (inK w _ Y) G.T.g hmg
  exact law_G (inK w _ Y) G.T.g G.T.b G.T.builtins G.T.nolimit hg hobj hints (Nat.le_trans hlen small) room FG bound (fun H only list => told w H a ns hlen only list) fun H e s2 => noX w H s₁ e s2

/-! ### the end of a law whose defs are called where nothing is being shown, with tables of code objects -/
def LawAtG (l : PySem.W.OpenLaw) (w : World) (K : PySem.W.Frag) (CX : CXT) (k n : Nat) (x : Str) (mg : Str → Option Value) (f : Addr) (top : Heap) : Prop :=
  ∃ (fd : FuncData) (ts : List (Addr × Addr)) (sp : Sp), (∀ t ∈ ts, top.get? t.2 = some { cls := .none, data := .fields #[] }) ∧ (∀ t ∈ ts, K.lookup t.2 = none) ∧ (∀ t ∈ ts, PySem.W.CodeHd top t.1 t.2) ∧ (∀ (st : Shared) (v : Value), BindsTo st fd ⟨[v], []⟩ [(x, v)]) ∧
    (∀ (H : Hp) (p : Addr) (zs : List Int), zs.length ≤ n → (∀ z ∈ zs, Builtin.Int.intBits z ≤ 1048576) → (∀ t ∈ ts, H t.2 = some (.tbl #[])) → SqL K H p (zs.map V.int) → sp [.ref p] H (fun v _ => v = .bl true) fun _ _ _ => False) ∧
    ∀ under : Heap, K.In under → under.Ns mainGlobals mg → (∀ t ∈ ts, LamX.TabB under mg t.1 t.2) → FnG l.prog w K mg under CX k f fd [x] sp
theorem law_GT {P : Program} {w : World} {K : PySem.W.Frag} {mg mb : Str → Option Value} {CX : CXT} {k : Nat} {f p : Addr} {ts : List (Addr × Addr)} {fd : FuncData} {x : Str} {sp : Sp} {s : Shared} {us : List Value} {zs : List Int}
    (inK : K.In s.heap) (gl : s.heap.Ns mainGlobals mg) (bl : s.heap.Ns builtinsNs mb) (boot : ∀ y : Str, y ≠ "__name__" → mb y = bootBuiltins y) (lim : s.heap.NoLimit) (ng : s.gens = #[])
    (bare : ∀ t ∈ ts, s.heap.get? t.2 = some { cls := .none, data := .fields #[] }) (out : ∀ t ∈ ts, K.lookup t.2 = none) (code : ∀ t ∈ ts, PySem.W.CodeHd s.heap t.1 t.2)
    (bmod : ∃ (m : Addr) (o : Obj), mg "__builtins__" = some (.ref m) ∧ m ≠ builtinsNs ∧ s.heap.get? m = some o ∧ o.cls = .type "module" ∧ o.dict = some builtinsNs ∧ o.data = .plain)
    (script : s.heap.get? p = some { cls := .type "list", data := .seq us.toArray }) (are : IntsAre us zs) (small : zs.length ≤ sizeLine) (room : Room k callerA)
    (F : ∀ under : Heap, K.In under → under.Ns mainGlobals mg → (∀ t ∈ ts, LamX.TabB under mg t.1 t.2) → FnG P w K mg under CX k f fd [x] sp) (bound : ∀ (st : Shared) (v : Value), BindsTo st fd ⟨[v], []⟩ [(x, v)])
    (told : ∀ H : Hp, (∀ t ∈ ts, H t.2 = some (.tbl #[])) → SqL K H p (zs.map V.int) → sp [.ref p] H (fun v _ => v = .bl true) fun _ _ _ => False)
    (noX : ∀ H e st, CX [] H s (fun _ _ _ => False) e st → False) :
    codeAny (model P w) callerA (.call (.ref f) ⟨[.ref p], []⟩) (fun r st => r = .ok (.ret (.bool true)) ∧ OldK s.heap st.heap ∧ st.os = s.os ∧ AllBare st.gens) s := by
  have tabAt : ∀ c ∈ ts.map Prod.snd, s.heap.get? c = some { cls := .none, data := .fields #[] } := by
    intro c hc
    obtain ⟨t, ht, rfl⟩ := List.mem_map.mp hc
    exact bare t ht
  have inTs : ∀ {t : Addr × Addr}, t ∈ ts → t.2 ∈ ts.map Prod.snd := fun ht => List.mem_map_of_mem ht
  have pNo : ¬ p ∈ ts.map Prod.snd := by
    intro hp
    have both := (tabAt p hp).symm.trans script
    have kinds := congrArg (fun o : Option Obj => o.map Obj.cls) both
    simp at kinds
  have main : ∀ H : Hp, (∀ t ∈ ts, H t.2 = some (.tbl #[])) → (∀ c, H c = none ∨ c ∈ ts.map Prod.snd ∨ ∃ o ys, H c = some (.frz o (.lst ys))) → SqL K H p (zs.map V.int) → HOk P w H s.heap → (∀ c, H c ≠ none → c = p ∨ c ∈ ts.map Prod.snd) → (H p ≠ none → K.lookup p = none) →
      codeAny (model P w) callerA (.call (.ref f) ⟨[.ref p], []⟩) (fun r st => r = .ok (.ret (.bool true)) ∧ OldK s.heap st.heap ∧ st.os = s.os ∧ AllBare st.gens) s := by
    intro H tabs kinds list ok alone off
    have free : ∀ {c : Addr} {o : Obj}, s.heap.get? c = some o → (∀ ys m, ¬ o.data = .seq ys m) → ¬ o.data = .fields #[] → H c = none := by
      intro c o ho n1 n2
      refine Classical.byContradiction fun some_ => ?_
      rcases alone c some_ with rfl | hc
      · cases Option.some.inj (ho.symm.trans script)
        exact n1 _ _ rfl
      · cases Option.some.inj (ho.symm.trans (tabAt c hc))
        exact n2 rfl
    have names : ∀ {c : Addr} {m : Str → Option Value}, s.heap.Ns c m → (hidT s.heap H).Ns c m := by
      rintro c m ⟨o, es, ep, ho, dz, more⟩
      refine ⟨o, es, ep, hidT_get ho (free ho (fun ys j z => ?_) fun z => ?_), dz, more⟩ <;> exact Data.noConfusion (dz.symm.trans z)
    have inB : K.In (hidT s.heap H) := by
      intro c o ho
      refine hidT_get (inK c o ho) (Classical.byContradiction fun some_ => ?_)
      rcases alone c some_ with rfl | hc
      · exact absurd (ho.symm.trans (off some_)) (by simp)
      · obtain ⟨t, ht, rfl⟩ := List.mem_map.mp hc
        exact absurd (ho.symm.trans (out t ht)) (by simp)
    obtain ⟨ml, l1, l2⟩ := lim
    have mod : L2.Mod K mg (hidT s.heap H) := ⟨inB, names gl, ⟨mb, names bl, boot⟩, ⟨ml, names l1, l2⟩⟩
    have tables : ∀ t ∈ ts, LamX.TabB (hidT s.heap H) mg t.1 t.2 := by
      intro t ht
      constructor
      · obtain ⟨o, ys, file, tf, flags, tg, inF, text, tt, c1, c2, c3, c4, c5, c6, c7, c8, c9, c10⟩ := code t ht
        refine ⟨o, ys, file, tf, flags, tg, inF, text, tt, hidT_get c1 (free c1 (fun us j z => Data.noConfusion (c3.symm.trans z)) fun z => ?_), c2, c3, c4, c5, c6, c7, c8, c9, c10⟩
        have z2 := c3.symm.trans z
        cases z2
        simp at c4
      · obtain ⟨m, o, b1, b2, b3, b4, b5, b6⟩ := bmod
        refine ⟨m, o, b1, b2, fun z => ?_, fun z => ?_, hidT_get b3 (free b3 (fun us j z => Data.noConfusion (b6.symm.trans z)) fun z => Data.noConfusion (b6.symm.trans z)), b4, b5, b6⟩
        · obtain ⟨o', es, ep, ho, dz, _⟩ := gl
          subst z
          cases Option.some.inj (b3.symm.trans ho)
          exact Data.noConfusion (b6.symm.trans dz)
        · subst z
          cases Option.some.inj (b3.symm.trans (bare t ht))
          exact Data.noConfusion b6
      · intro z
        obtain ⟨o', es, ep, ho, dz, _⟩ := gl
        rw [z] at ho
        cases Option.some.inj (ho.symm.trans (bare t ht))
        exact Data.noConfusion dz
    have env : Env0 P w K mg (hidT s.heap H) callerA [] s H := { frames := rfl, mod := mod, bs := fun c o z => of_hidT z, bsz := Nat.le_of_eq (hidT_size _ _), funs := trivial, frf := (fun c hc => by cases (show c ∈ ([] : List Addr) from hc)), hok := ok, bare := .of_eq ng }
    refine codeAny_mono ((F _ inB (names gl) tables).go callerA rfl room [] s H _ [.ref p] [.ref p] _ _ env (bound s (.ref p)) (.cons rfl .nil) (told H tabs list)) fun r st z => ?_
    match r, z with
    | .error e, z => exact (noX H e st z).elim
    | .ok .next, z => exact z.elim
    | .ok .brk, z => exact z.elim
    | .ok .cont, z => exact z.elim
    | .ok (.ret u), ⟨v, H2, os, bg, un, ok2, rel, q⟩ =>
      cases (show v = V.bl true from q)
      cases (show u = Value.bool true from rel)
      have old : ∀ c o, ¬ c ∈ ts.map Prod.snd → s.heap.get? c = some o → st.heap.get? c = some o := by
        intro c o nc ho
        by_cases hc : H c = none
        · exact un.keep c o ho hc (fun m => by cases (show c ∈ ([] : List Addr) from m)) (fun m => by cases m)
        · rcases kinds c with n | n | ⟨ob, ys, fz⟩
          · exact absurd n hc
          · exact absurd n nc
          · have o1 := (ok c _ fz).1
            have o2 := (ok2 c _ (un.frzs c ob _ fz)).1
            rw [ho] at o1
            rw [Option.some.inj o1]
            exact o2
      have grown : ∀ c ∈ ts.map Prod.snd, ∃ more : Array Value, st.heap.get? c = some { cls := .none, data := .fields more } := by
        intro c hc
        obtain ⟨t, ht, rfl⟩ := List.mem_map.mp hc
        obtain ⟨more, hm⟩ := un.tbls t.2 #[] (tabs t ht)
        exact ⟨_, ok2 t.2 _ hm⟩
      refine ⟨rfl, ⟨fun c o ho => ?_, fun c o ho => ?_⟩, os, bg⟩
      · by_cases hc : c ∈ ts.map Prod.snd
        · obtain ⟨more, hm⟩ := grown c hc
          obtain ⟨t, ht, rfl⟩ := List.mem_map.mp hc
          cases Option.some.inj (ho.symm.trans (bare t ht))
          exact .inr (.inl ⟨((code t ht).tab (bare t ht)).isCodeTable, rfl, #[], more, rfl, by rw [Array.empty_append]; exact hm⟩)
        · exact .inl (old c o hc ho)
      · by_cases hc : c ∈ ts.map Prod.snd
        · obtain ⟨more, hm⟩ := grown c hc
          exact ⟨_, hm⟩
        · exact ⟨o, old c o hc ho⟩
  have rel := vals_ints are
  let base : Hp := fun c => if c ∈ ts.map Prod.snd then some (.tbl #[]) else none
  have onT : ∀ {c : Addr}, c ∈ ts.map Prod.snd → base c = some (.tbl #[]) := fun hc => if_pos hc
  have offT : ∀ {c : Addr}, ¬ c ∈ ts.map Prod.snd → base c = none := fun hc => if_neg hc
  cases hk : K.lookup p with
  | some o =>
    cases Option.some.inj ((inK p o hk).symm.trans script)
    refine main base (fun t ht => onT (inTs ht)) (fun c => ?_) (.inr ⟨_, us.toArray, _, hk, rfl, rfl, rfl, by rw [List.size_toArray, are.length]; exact small, by simpa using rel⟩) (fun c u z => ?_) (fun c z => ?_) fun z => absurd (offT pNo) z
    · rcases Classical.em (c ∈ ts.map Prod.snd) with hc | hc
      · exact .inr (.inl hc)
      · exact .inl (offT hc)
    · rcases Classical.em (c ∈ ts.map Prod.snd) with hc | hc
      · cases Option.some.inj ((onT hc).symm.trans z)
        exact tabAt c hc
      · exact absurd ((offT hc).symm.trans z) (by simp)
    · exact .inr (Classical.byContradiction fun hc => z (offT hc))
  | none =>
    let frz : HO := .frz { cls := .type "list", data := .seq us.toArray } (.lst (zs.map V.int))
    have onP : (fun c => if c = p then some frz else base c) p = some frz := if_pos rfl
    have offP : ∀ {c : Addr}, ¬ c = p → (fun c => if c = p then some frz else base c) c = base c := fun hc => if_neg hc
    refine main (fun c => if c = p then some frz else base c) (fun t ht => ?_) (fun c => ?_) (.inl (.inr ⟨_, onP⟩)) (fun c u z => ?_) (fun c z => ?_) fun _ => hk
    · refine (offP fun e => pNo ?_).trans (onT (inTs ht))
      rw [← e]
      exact inTs ht
    · rcases Classical.em (c = p) with rfl | e
      · exact .inr (.inr ⟨_, _, onP⟩)
      · rcases Classical.em (c ∈ ts.map Prod.snd) with hc | hc
        · exact .inr (.inl hc)
        · exact .inl ((offP e).trans (offT hc))
    · rcases Classical.em (c = p) with rfl | e
      · cases Option.some.inj (onP.symm.trans z)
        exact ⟨script, by rw [List.length_map]; exact small, us, _, rel, script⟩
      · have z := (offP e).symm.trans z
        rcases Classical.em (c ∈ ts.map Prod.snd) with hc | hc
        · cases Option.some.inj ((onT hc).symm.trans z)
          exact tabAt c hc
        · exact absurd ((offT hc).symm.trans z) (by simp)
    · rcases Classical.em (c = p) with e | e
      · exact .inl e
      · exact .inr (Classical.byContradiction fun hc => z ((offP e).trans (offT hc)))
theorem walk_GT {l : PySem.W.OpenLaw} {n k : Nat} {q : Program} {loose : List Str} {XP : (Str → Option Value) → Heap → Prop} {YP : World → Heap → Prop} {d : DefRec} {CX : World → CXT} {x : Str}
    (most : l.most = some n) (small : n ≤ sizeLine) (nodef : d.params.defaults = []) (room : Room k callerA)
    (F : ∀ (w : World) (mg : Str → Option Value) (f : Addr) (top : Heap), YP w top → top.Ns mainGlobals mg → mg d.name = some (.ref f) → ∃ K : PySem.W.Frag, K.In top ∧ LawAtG l w K (CX w) k n x mg f top)
    (noX : ∀ (w : World) (H : Hp) (s : Shared) (e : Value) (st : Shared), CX w [] H s (fun _ _ _ => False) e st → False) :
    PySem.W.WalkO q loose XP YP l.row.toRowW d [] (fun f vs => PySem.call f vs) := by
  refine Att.attach_callB most nodef fun w s0 s mg mb f o pm cd doc p us zs G Y ho hd hcd named script are few bits ng => ?_
  obtain ⟨K, inK, fd, ts, sp, bare, out, code, bound, told, FG⟩ := F w mg f _ Y G.T.g named
  exact law_GT inK G.T.g G.T.b G.T.builtins G.T.nolimit ng bare out code G.T.bmain script are (Nat.le_trans few small) room FG bound (fun H tabs list => told H p zs few bits tabs list) fun H e st => noX w H s e st

/-! ### data made by the law or the program: numbers, truths, texts, lists and tuples of these -/
mutual
inductive Tk (H : Hp) : V → PyData → Prop
  | bl (b : Bool) : Tk H (.bl b) (.bool b)
  | int (i : Int) : Tk H (.int i) (.int i)
  | str (x : Str) : Tk H (.str x) (.str x)
  | lst {a : Addr} {xs : List V} {ds : List PyData} : H a = some (.lst xs) → TkAll H xs ds → Tk H (.ref a) (.list ds)
  | tup {a : Addr} {xs : List V} {ds : List PyData} : H a = some (.tup xs) → TkAll H xs ds → Tk H (.ref a) (.tuple ds)
inductive TkAll (H : Hp) : List V → List PyData → Prop
  | nil : TkAll H [] []
  | cons {v : V} {vs : List V} {d : PyData} {ds : List PyData} : Tk H v d → TkAll H vs ds → TkAll H (v :: vs) (d :: ds)
end
theorem TkAll.length {H : Hp} : ∀ {vs : List V} {ds : List PyData}, TkAll H vs ds → vs.length = ds.length
  | _, _, .nil => rfl
  | _, _, .cons _ t => by rw [List.length_cons, List.length_cons, t.length]
mutual
theorem Tk.same {H H' : Hp} (s : Same H H') : ∀ {v : V} {d : PyData}, Tk H v d → Tk H' v d
  | _, _, .bl b => .bl b
  | _, _, .int i => .int i
  | _, _, .str x => .str x
  | _, _, .lst h t => .lst (s _ _ h) (t.same s)
  | _, _, .tup h t => .tup (s _ _ h) (t.same s)
theorem TkAll.same {H H' : Hp} (s : Same H H') : ∀ {vs : List V} {ds : List PyData}, TkAll H vs ds → TkAll H' vs ds
  | _, _, .nil => .nil
  | _, _, .cons h t => .cons (h.same s) (t.same s)
end
theorem TkAll.get {H : Hp} : ∀ {xs : List V} {ds : List PyData} {j : Nat} {x : V}, TkAll H xs ds → xs[j]? = some x → ∃ d, ds[j]? = some d ∧ Tk H x d
  | _, _, _, _, .nil, h => by simp at h
  | _, _, 0, _, .cons (d := d) a _, h => by
    cases (Option.some.inj h)
    exact ⟨d, rfl, a⟩
  | _, _, j + 1, _, .cons _ t, h => t.get h
theorem TkAll.append {H : Hp} : ∀ {xs ys : List V} {ds es : List PyData}, TkAll H xs ds → TkAll H ys es → TkAll H (xs ++ ys) (ds ++ es)
  | _, _, _, _, .nil, t => t
  | _, _, _, _, .cons a r, t => .cons a (r.append t)
theorem TkAll.ints {H : Hp} : ∀ ns : List Int, TkAll H (ns.map V.int) (ns.map PyData.int)
  | [] => .nil
  | n :: r => .cons (.int n) (TkAll.ints r)
theorem Tk.int_inv {H : Hp} {v : V} {i : Int} (h : Tk H v (.int i)) : v = .int i := by cases h; rfl
theorem Tk.tup_inv {H : Hp} {v : V} {ds : List PyData} (h : Tk H v (.tuple ds)) : ∃ a xs, v = .ref a ∧ H a = some (.tup xs) ∧ TkAll H xs ds := by
  cases h with
  | tup h t => exact ⟨_, _, rfl, h, t⟩
theorem Tk.lst_inv {H : Hp} {v : V} {ds : List PyData} (h : Tk H v (.list ds)) : ∃ a xs, v = .ref a ∧ H a = some (.lst xs) ∧ TkAll H xs ds := by
  cases h with
  | lst h t => exact ⟨_, _, rfl, h, t⟩
theorem TkAll.int_inv {H : Hp} : ∀ {vs : List V} {ns : List Int}, TkAll H vs (ns.map PyData.int) → vs = ns.map V.int
  | _, [], .nil => rfl
  | _, n :: r, .cons h t => by rw [List.map_cons, h.int_inv, t.int_inv]
/-- heaps without one place -/
def hd1 (p : Addr) (H : Hp) : Hp := fun b => if b = p then none else H b
theorem hd1_le {p : Addr} {H : Hp} : Same (hd1 p H) H := fun b o e => by
  unfold hd1 at e
  by_cases h : b = p
  · rw [if_pos h] at e; cases e
  · rw [if_neg h] at e; exact e
theorem hd1_same {p : Addr} {H H' : Hp} (s : Same H H') : Same (hd1 p H) (hd1 p H') := fun b o e => by
  unfold hd1 at e ⊢
  by_cases h : b = p
  · rw [if_pos h] at e; cases e
  · rw [if_neg h] at e ⊢; exact s _ _ e
theorem hd1_upd {p : Addr} {H : Hp} {o : HO} : Same (hd1 p H) (hd1 p (upd H p o)) := fun b x e => by
  unfold hd1 at e ⊢
  by_cases h : b = p
  · rw [if_pos h] at e; cases e
  · rw [if_neg h] at e ⊢; rw [upd_ne h]; exact e
theorem hd1_at {p b : Addr} {H : Hp} (h : b ≠ p) : hd1 p H b = H b := if_neg h
theorem hd1_of {p : Addr} {H H' : Hp} (s : Same H H') (n : H p = none) : Same H (hd1 p H') := fun b o e => by
  rw [hd1_at (ne_of_none e n)]
  exact s _ _ e
theorem same_of_hd1 {p : Addr} {H H' : Hp} {o : HO} (s : Same H (hd1 p H')) : Same H (upd H' p o) := fun b x e => by
  have z := s b x e
  unfold hd1 at z
  by_cases h : b = p
  · rw [if_pos h] at z; cases z
  · rw [if_neg h] at z; rw [upd_ne h]; exact z

/-! ### tables and gates -/
def tabOf (bs : List Bool) : Str := ⟨(bs.map fun b => if b = true then 49 else 48).toArray⟩
def plc (ws : List Int) : Int := ws.foldl (fun p w => 2 * p + w) 0
def gateM (bs : List Bool) (ws : List Int) : Int := if bs.getD (plc ws).toNat false = true then 1 else 0
theorem plc_snoc (ws : List Int) (w : Int) : plc (ws ++ [w]) = 2 * plc ws + w := by
  unfold plc
  rw [List.foldl_append]
  rfl
theorem plc_take {ws : List Int} {i : Nat} {u : Int} (h : ws[i]? = some u) : plc (ws.take (i + 1)) = 2 * plc (ws.take i) + u := by
  rw [List.take_add_one, h]
  exact plc_snoc _ _
theorem plc_bd : ∀ (n : Nat) (ws : List Int), ws.length = n → (∀ w ∈ ws, w = 0 ∨ w = 1) → 0 ≤ plc ws ∧ plc ws < 2 ^ n := by
  intro n
  induction n with
  | zero =>
    intro ws h _
    cases List.eq_nil_of_length_eq_zero h
    decide
  | succ n ih =>
    intro ws h hw
    have hne : ws ≠ [] := fun z => by rw [z] at h; cases h
    obtain ⟨r, x, rfl⟩ : ∃ r x, ws = r ++ [x] := ⟨ws.dropLast, ws.getLast hne, (List.dropLast_concat_getLast hne).symm⟩
    have hr := ih r (by rw [List.length_append] at h; simpa using h) fun w h' => hw w (List.mem_append_left _ h')
    have hx := hw x (by simp)
    rw [plc_snoc, Int.pow_succ]
    omega
theorem gate01 (bs : List Bool) (ws : List Int) : gateM bs ws = 0 ∨ gateM bs ws = 1 := by
  unfold gateM
  split
  · exact .inr rfl
  · exact .inl rfl
theorem int_sign (b : Bool) : PySem.intText? ⟨#[if b = true then 49 else 48]⟩ = some (if b = true then 1 else 0) := by
  cases b <;> decide +kernel
def spGate (K : PySem.W.Frag) : Sp := fun vs H Q _ => ∃ (bs : List Bool) (la : Addr) (ws : List Int), vs = [.str (tabOf bs), .ref la] ∧ SqL K H la (ws.map V.int) ∧ (∀ w ∈ ws, w = 0 ∨ w = 1) ∧ bs.length = 2 ^ ws.length ∧ ws.length ≤ 4 ∧ Q (.int (gateM bs ws)) H
theorem gate_read {bs : List Bool} {ws : List Int} (hw : ∀ w ∈ ws, w = 0 ∨ w = 1) (hb : bs.length = 2 ^ ws.length) (h3 : ws.length ≤ 4) : ∃ b : Bool, 0 ≤ plc ws ∧ plc ws < 2 ^ 63 ∧ plc ws < (tabOf bs).length ∧ (tabOf bs).cps[(plc ws).toNat]? = some (if b = true then 49 else 48) ∧ gateM bs ws = if b = true then 1 else 0 := by
  obtain ⟨p0, p1⟩ := plc_bd _ ws rfl hw
  have p8 : plc ws < 16 := by
    have : (2 : Int) ^ ws.length ≤ 16 := by
      have : ws.length = 0 ∨ ws.length = 1 ∨ ws.length = 2 ∨ ws.length = 3 ∨ ws.length = 4 := by omega
      rcases this with h | h | h | h | h <;> rw [h] <;> decide
    omega
  have hlt : (plc ws).toNat < bs.length := by
    have : ((2 ^ ws.length : Nat) : Int) = (2 : Int) ^ ws.length := by simp
    omega
  refine ⟨bs[(plc ws).toNat], p0, by omega, ?_, ?_, ?_⟩
  · have : (tabOf bs).length = bs.length := by simp [tabOf, Str.length]
    rw [this]
    omega
  · simp [tabOf, List.getElem?_eq_getElem hlt]
  · unfold gateM
    rw [List.getD_eq_getElem?_getD, List.getElem?_eq_getElem hlt]
    rfl

/-! ### walks -/
theorem gx_tup {α : Type} {K : PySem.W.Frag} {a : Addr} {xs : List V} {g : TG} {tt : TT} {te : TE} {vs : List Nat} {σ0 : L2.St} {End : α → Hp → Prop} {Yd : α → V → Hp → (α → Hp → Prop) → Prop} {a0 : α} {H0 : Hp} (Pv : Nat → α → Hp → Prop) (h0 : Pv 0 a0 H0)
    (hl : ∀ i c H, i ≤ xs.length → Pv i c H → SqT K H a xs)
    (hs : ∀ i x c H, xs[i]? = some x → Pv i c H → g x σ0 H fun σ2 H2 => wipe σ2 vs = σ0 ∧ tt σ2 H2 fun b H3 => if b = true then te σ2 H3 fun y H4 => Yd c y H4 (Pv (i + 1)) else Pv (i + 1) c H3) (hd : ∀ c H, Pv xs.length c H → End c H) :
    ∃ W : Nat → Nat → α → Hp → Prop, (∃ m, W 0 m a0 H0) ∧ tGx (Itt K a) g tt te σ0 vs End Yd W := by
  refine ⟨fun i m c H => m = xs.length - i ∧ i ≤ xs.length ∧ Pv i c H, ⟨xs.length, rfl, Nat.zero_le _, h0⟩, ?_⟩
  rintro i m c H ⟨rfl, hi, p⟩
  by_cases hlt : i < xs.length
  · have hx : xs[i]? = some xs[i] := List.getElem?_eq_getElem hlt
    refine .inr ⟨⟨xs, xs[i], hl i c H hi p, hx⟩, Pv (i + 1), fun c' H' p' => ⟨xs.length - (i + 1), by omega, rfl, hlt, p'⟩, fun x H' y => ?_⟩
    obtain ⟨rfl, y⟩ := y
    exact hs i x c _ (y xs (hl i c _ hi p)) p
  · have e : i = xs.length := by omega
    subst e
    exact .inl ⟨⟨xs, hl _ c H hi p, Nat.le_refl _⟩, hd c H p⟩
theorem lc_zipT {K : PySem.W.Frag} {a b : Addr} {xs ys : List V} {g : TG} {tt : TT} {te : TE} {vs : List Nat} {σ : L2.St} {H1 : Hp} {D : Addr} {Qd : Hp → Prop} (el : xs.length = ys.length) (Pv : Nat → Hp → Prop) (h0 : Pv 0 (upd H1 D (.lst []))) (hl : ∀ i H, i ≤ xs.length → Pv i H → SqT K H a xs ∧ SqT K H b ys)
    (hs : ∀ i x y T H, xs[i]? = some x → ys[i]? = some y → H T = none → Pv i H → g (.ref T) (wipe σ vs) (upd H T (.tup [x, y])) fun σ2 H2 => wipe σ2 vs = wipe σ vs ∧ tt σ2 H2 fun b H3 =>
      if b = true then te σ2 H3 fun y H4 => ∃ acc, H4 D = some (.lst acc) ∧ acc.length < sizeLine ∧ Pv (i + 1) (upd H4 D (.lst (acc ++ [y]))) else Pv (i + 1) H3) (hd : ∀ H, Pv xs.length H → Qd H) :
    ∃ W : Nat → Nat → Hp → Prop, (∃ m, W 0 m (upd H1 D (.lst []))) ∧ ∀ i m H, W i m H →
      ((RZ.ItzT K a b).stop i H ∧ Qd H) ∨ ((RZ.ItzT K a b).go i H ∧ ∃ Nx : Hp → Prop, (∀ H', Nx H' → ∃ m', m' < m ∧ W (i + 1) m' H') ∧ ∀ x H', (RZ.ItzT K a b).yld i H x H' → g x (wipe σ vs) H' fun σ2 H2 => wipe σ2 vs = wipe σ vs ∧ tt σ2 H2 fun b H3 =>
        if b = true then te σ2 H3 fun y H4 => ∃ acc, H4 D = some (.lst acc) ∧ acc.length < sizeLine ∧ Nx (upd H4 D (.lst (acc ++ [y]))) else Nx H3) := by
  refine ⟨fun i m H => m = xs.length - i ∧ i ≤ xs.length ∧ Pv i H, ⟨xs.length, by simp, Nat.zero_le _, h0⟩, ?_⟩
  rintro i m H ⟨rfl, hi, p⟩
  obtain ⟨qx, qy⟩ := hl i H hi p
  by_cases hlt : i < xs.length
  · have hx : xs[i]? = some xs[i] := List.getElem?_eq_getElem hlt
    have hy : ys[i]? = some (ys[i]'(by omega)) := List.getElem?_eq_getElem _
    refine .inr ⟨⟨xs, ys, _, _, qx, qy, hx, hy⟩, Pv (i + 1), fun H' p' => ⟨xs.length - (i + 1), by omega, rfl, hlt, p'⟩, fun x H' y => ?_⟩
    obtain ⟨T, x1, y1, rfl, nT, rfl, e1, e2⟩ := y
    exact hs i x1 y1 T H (e1 xs qx) (e2 ys qy) nT p
  · have e : i = xs.length := by omega
    subst e
    exact .inl ⟨⟨xs, ys, qx, qy, .inl (Nat.le_refl _)⟩, hd H p⟩

/-! ### enumerate(tuple) -/
theorem draws_tuple {P : Program} {w : World} {A : Around} (hA : A.handled = none) (it a : Addr) (items : Array Value) (hne : a ≠ it) : Draws P w A it [it, a] items.size (fun i v => items[i]? = some v) (fun i h => h.IsTupleIter it a i ∧ h.IsTuple a items) where
  live := fun _ _ st => let ⟨o, ho, _⟩ := st.1; ⟨o, ho⟩
  frame := fun _ _ _ st hk => ⟨st.1.at fun o e => hk it (by simp) o e, by
    obtain ⟨o, ho, r⟩ := st.2
    exact ⟨o, hk a (by simp) o ho, r⟩⟩
  item := fun i s Q E hi st hQ => by
    refine RZ.nextOf_tuple_item st.1 st.2 (x := items[i]) (by simp [hi]) fun h' hit' hs' => ?_
    refine hQ _ h' s.toks (by simp [hi]) ⟨hit', ?_⟩ hs'
    obtain ⟨o, ho, r⟩ := st.2
    exact ⟨o, hs'.extBut a o hne ho, r⟩
  done := fun s Q E st hE => RZ.nextOf_tuple_end hA st.1 st.2 (by simp) hE
open PySem.AutoSeq1 in
set_option maxHeartbeats 1000000 in
theorem meets_enumerate_newT (l : Addr) (items : Array Value) (o : Obj) (hc : o.cls = .type "tuple") (n : Nat) (hd : o.data = .seq items n) :
    Meets (Builtin.«enumerate.__new__» ⟨[.type "enumerate", .ref l], []⟩) (fun _ R s => s.heap.get? l = some o ∧
      R (.ok (.ret (.ref (s.heap.push { cls := .type "tuple_iterator", data := .fields #[.ref l, .int 0 0] }).objs.size)))
        { s with heap := (s.heap.push { cls := .type "tuple_iterator", data := .fields #[.ref l, .int 0 0] }).push { cls := .type "enumerate", data := .fields #[.none, .bool false, .ref s.heap.objs.size, rawInt 0, .none, .none] } }) :=
  .of_wp fun prog w A R s h => by
    obtain ⟨hp, g, d, tk, os⟩ := s; obtain ⟨hl, h⟩ := h
    have hsub := sub_enumerate
    have hL : Heap.IsTuple (Shared.heap ⟨hp, g, d, tk, os⟩) l items := ⟨_, hl, hc, n, hd⟩
    wp_walk using wpAny_loadPart' hl
    refine wpAny_stack_any fun st => wpAny_pure ?_
    split
    · rename_i c _ _ _ _ _
      cases (c == Value.type "enumerate")
      · wp_walk using wpAny_loadPart' hl, wpAny_pyIter_tuple hL
        exact ⟨_, rfl, h⟩
      · wp_walk using wpAny_loadPart' hl, wpAny_pyIter_tuple hL
        exact ⟨_, rfl, h⟩
    · wp_walk using wpAny_loadPart' hl, wpAny_pyIter_tuple hL
      exact ⟨_, rfl, h⟩
theorem call_enumerate_tuple {prog : Program} {w : World} {A : Around} {E : Value → Shared → Prop} {s : Shared} {l : Addr} {items : Array Value} {Q : Value → Shared → Prop} (hL : s.heap.IsTuple l items)
    (h : ∀ h', IsEnum h' (s.heap.objs.size + 1) s.heap.objs.size 0 .none → h'.IsTupleIter s.heap.objs.size l 0 → h'.objs.size = s.heap.objs.size + 2 →
      (∀ b o, s.heap.get? b = some o → h'.get? b = some o) → Q (.ref (s.heap.objs.size + 1)) { s with heap := h' }) :
    wpAny (model prog w) A (call (.type "enumerate") [.ref l]) Q E s := by
  obtain ⟨o, hl, hc, n, hd⟩ := hL
  refine callType_new F.called_enumerate (by decide) (F.typeCall_enumerate_1 _) (F.newCall_enumerate_1 _) (fun obj => F.args_object_init_2 obj _) F.entry_enumerate_new
    (meets_enumerate_newT l items o hc n hd) ⟨hl, ?_⟩
  have hz : (s.heap.push { cls := .type "tuple_iterator", data := .fields #[.ref l, .int 0 0] }).objs.size = s.heap.objs.size + 1 := Heap.size_push ..
  show _ ∧ _
  rw [hz]
  have he : IsEnum ((s.heap.push { cls := .type "tuple_iterator", data := .fields #[.ref l, .int 0 0] }).push
      { cls := .type "enumerate", data := .fields #[.none, .bool false, .ref s.heap.objs.size, rawInt 0, .none, .none] }) (s.heap.objs.size + 1) s.heap.objs.size 0 .none := by
    have := Heap.get?_push_size (s.heap.push { cls := .type "tuple_iterator", data := .fields #[.ref l, .int 0 0] })
      (o := { cls := .type "enumerate", data := .fields #[.none, .bool false, .ref s.heap.objs.size, rawInt 0, .none, .none] }) rfl
    rw [hz] at this; exact this
  refine ⟨⟨_, he, rfl⟩, h _ he ⟨_, Heap.get?_push_of_some _ (Heap.get?_push_size _ rfl), rfl, rfl⟩ (by rw [Heap.size_push, hz]) fun b o x => Heap.get?_push_of_some _ (Heap.get?_push_of_some _ x)⟩
/-- the tuple at a, each item in a new pair -/
def IteT (K : PySem.W.Frag) (a : Addr) : It :=
  ⟨fun i H => ∃ (xs : List V) (x : V), SqT K H a xs ∧ xs[i]? = some x, fun i H v H' => ∃ T x, v = .ref T ∧ H T = none ∧ H' = upd H T (.tup [.int (i : Nat), x]) ∧ ∀ xs, SqT K H a xs → xs[i]? = some x, fun i H => ∃ xs : List V, SqT K H a xs ∧ xs.length = i⟩
theorem turn_enumT {P : Program} {w : World} {K : PySem.W.Frag} {elts : List Expr} {kk : Nat} {tpos : Pos} (a e it : Addr) :
    Turn P w K (.Tuple elts kk tpos) (IteT K a) [e, it] e (fun i h => (∃ old, IsEnum h e it ((i : Nat) : Int) old) ∧ h.IsTupleIter it a i ∧ e ≠ it) where
  mem := by simp
  obj := fun i h st b hb => by
    obtain ⟨⟨old, he⟩, ⟨o, ho, hc, hd⟩, _⟩ := st
    have e' : b = e ∨ b = it := by simpa using hb
    rcases e' with z | z
    · rw [z]; exact ⟨_, he, fun v q => nomatch q⟩
    · rw [z]; exact ⟨o, ho, fun v q => by rw [hd] at q; cases q⟩
  keep := fun i h h' st k => let ⟨⟨old, he⟩, hi, hne⟩ := st; ⟨⟨old, k e (by simp) _ he⟩, hi.at fun o q => k it (by simp) o q, hne⟩
  item := by
    intro X hP hw hK hc i pins s σ H E I hf st hg
    subst hP hw hK
    obtain ⟨⟨old, he⟩, hit, hne⟩ := st
    obtain ⟨xs, x, hq, hx⟩ := hg
    obtain ⟨its, rv, p, hz⟩ := I.tuple hq
    obtain ⟨u, hu, ru⟩ := rv.get hx
    have hel : e < s.heap.objs.size := Heap.lt_size he
    have hil : it < s.heap.objs.size := by obtain ⟨_, q, _⟩ := hit; exact Heap.lt_size q
    have hpt : s.heap.IsTuple a its.toArray := p
    have hai : a ≠ it := fun z => by
      obtain ⟨o1, h1, c1, _⟩ := hpt
      obtain ⟨o2, h2, c2, _⟩ := hit
      rw [z, h2] at h1
      cases h1
      rw [c2] at c1
      exact absurd (Value.type.inj c1) (by decide)
    have hae : e ≠ a := fun z => by
      obtain ⟨o1, h1, c1, _⟩ := hpt
      rw [← z, he] at h1
      cases h1
      exact absurd (Value.type.inj c1) (by decide)
    have hil2 : i < its.toArray.size := by
      rw [List.size_toArray]
      exact (List.getElem?_eq_some_iff.mp hu).1
    refine wpAny_pyNext_enum_itemD (draws_tuple (A := X.A.in1) (I.ok.hd hc) it a its.toArray hai) he ⟨hit, hpt⟩ hil2 hne (by simp only [List.mem_cons, List.not_mem_nil, or_false, not_or]; exact ⟨hne, hae⟩) fun y h' tk hy ho hst hT hsz hk => ?_
    have hyu : y = u := by
      have : its[i]? = some y := by simpa using hy
      rw [hu] at this
      exact (Option.some.inj this).symm
    subst hyu
    have hit' := hst.1
    refine ⟨_, rfl, wpAny_letOwnedTupleGo_enum (s := { s with heap := h', toks := tk + 1 }) ho fun h'' he' sb => ?_⟩
    have hT2 : h''.get? s.heap.objs.size = some { cls := .type "tuple", data := .seq #[.int i tk, y] } := (sb.2 _ (Nat.ne_of_gt hel)).trans hT
    have new : ObjOk X.prog X.w (upd H s.heap.objs.size (.tup [.int (i : Nat), x])) h'' s.heap.objs.size (.tup [.int (i : Nat), x]) :=
      ⟨by show 2 ≤ sizeLine; decide, [.int i tk, y], .cons ⟨_, rfl⟩ (.cons ru .nil), ⟨_, hT2, rfl, _, rfl⟩⟩
    have I1 : Inv X pins σ (upd H s.heap.objs.size (.tup [.int (i : Nat), x])) { s with heap := h'', toks := tk + 1 } :=
      I.turnedNew (ch := [e, it]) (fun b ob hb q => (sb.2 b (fun z => hb (by simp [z]))).trans (hk b ob (fun z => hb (by simp [z])) (fun z => hb (by simp [z])) q)) hf (Nat.le_refl _) new
    refine ⟨.ref s.heap.objs.size, _, I1, rfl, ⟨_, x, rfl, I.hok.fresh (Nat.le_refl _), rfl, fun ys hy => by rw [I.tuple_inj hy hq]; exact hx⟩, ⟨⟨y, ?_⟩, hit'.at fun o q => (sb.2 it (Ne.symm hne)).trans q, hne⟩, fun b hb => ?_⟩
    · have e1 : ((i + 1 : Nat) : Int) = (i : Int) + 1 := by omega
      rw [e1]; exact he'
    · have hb' : b < s.heap.objs.size := by
        have e' : b = e ∨ b = it := by simpa using hb
        rcases e' with z | z
        · rw [z]; exact hel
        · rw [z]; exact hil
      rw [upd_ne (Nat.ne_of_lt hb')]
      exact (hf b hb).1
  done := by
    intro X hP hw hK hc i pins s σ H E I hf st hg
    subst hP hw hK
    obtain ⟨⟨old, he⟩, hit, hne⟩ := st
    obtain ⟨xs, hq, hx⟩ := hg
    obtain ⟨its, rv, p, hz⟩ := I.tuple hq
    obtain ⟨f0, f1, f2, f3, f4, f5⟩ := hf it (by simp)
    have hl := rv.length
    have hpt : s.heap.IsTuple a its.toArray := p
    have hai : a ≠ it := fun z => by
      obtain ⟨o1, h1, c1, _⟩ := hpt
      obtain ⟨o2, h2, c2, _⟩ := hit
      rw [z, h2] at h1
      cases h1
      rw [c2] at c1
      exact absurd (Value.type.inj c1) (by decide)
    have hn : i = its.toArray.size := by rw [List.size_toArray]; omega
    exact wpAny_pyNext_enum_endD (draws_tuple (A := X.A.in1) (I.ok.hd hc) it a its.toArray hai) he (by rw [← hn]; exact ⟨hit, hpt⟩) fun h' eb => ⟨rfl, I.turned (t' := s.toks) (fun b o hb q => eb b o hb q) f0 f1 f3 f4 f5⟩
  self := fun A i s Q E st h => let ⟨⟨_, he⟩, _⟩ := st; wpAny_pyIter_enum he h
def iEnumT (K : PySem.W.Frag) (ta : TA) : TI := fun σ H R => ta σ H fun vs H1 => ∃ a xs, vs = [.ref a] ∧ SqT K H1 a xs ∧ R (IteT K a) H1
theorem pi_enumT {X : Cx} {e : Expr} {ta : TA} {p pos tpos : Pos} {elts : List Expr} {kk : Nat} (hg : Gl X "enumerate") (hm : X.mg "enumerate" = none) (ha : PA X [e] ta) (hs : starEach [e] X.env = [(false, eval e X.env)] := by rfl) :
    PI X (.Tuple elts kk tpos) (.Call (.Name "enumerate" p) [e] [] pos) (iEnumT X.K ta) := by
  refine ⟨fun pins s σ H R I h => ?_⟩
  refine Call_ (ld_blt I hg hm boot_enumerate (PyProof.Rows.callWith_type1 (thn (ha.run pos pins s σ H _ I h) fun us s1 ⟨vs, H1, I1, r1, q1⟩ => ?_) hs rfl))
  obtain ⟨a, xs, ex, hq, q⟩ := q1
  subst ex
  cases r1 with
  | cons r rr =>
    cases rr
    cases r
    obtain ⟨its, rv, p', hz⟩ := I1.tuple hq
    refine call_enumerate_tuple p' fun h' he hit hsz hk => wpAny_pyIter_enum he ?_
    have I2 : Inv X pins σ H1 { s1 with heap := h' } := I1.kept (t' := s1.toks) hk
    refine ⟨s1.heap.objs.size + 1, [s1.heap.objs.size + 1, s1.heap.objs.size], _, _, H1, rfl, I2, turn_enumT a (s1.heap.objs.size + 1) s1.heap.objs.size, ⟨⟨.none, he⟩, hit, Nat.succ_ne_self _⟩, fun b hb => ?_, q⟩
    have e' : b = s1.heap.objs.size + 1 ∨ b = s1.heap.objs.size := by simpa using hb
    have hle : s1.heap.objs.size ≤ b := by
      rcases e' with z | z
      · rw [z]; exact Nat.le_add_right _ _
      · rw [z]; exact Nat.le_refl _
    exact I1.fpOk hle (I1.hok.fresh hle)
theorem gx_enum {α : Type} {K : PySem.W.Frag} {a : Addr} {xs : List V} {g : TG} {tt : TT} {te : TE} {vs : List Nat} {σ0 : L2.St} {End : α → Hp → Prop} {Yd : α → V → Hp → (α → Hp → Prop) → Prop} {a0 : α} {H0 : Hp} (Pv : Nat → α → Hp → Prop) (h0 : Pv 0 a0 H0)
    (hl : ∀ i c H, i ≤ xs.length → Pv i c H → SqT K H a xs)
    (hs : ∀ i x T c H, xs[i]? = some x → H T = none → Pv i c H → g (.ref T) σ0 (upd H T (.tup [.int (i : Nat), x])) fun σ2 H2 => wipe σ2 vs = σ0 ∧ tt σ2 H2 fun b H3 => if b = true then te σ2 H3 fun y H4 => Yd c y H4 (Pv (i + 1)) else Pv (i + 1) c H3) (hd : ∀ c H, Pv xs.length c H → End c H) :
    ∃ W : Nat → Nat → α → Hp → Prop, (∃ m, W 0 m a0 H0) ∧ tGx (IteT K a) g tt te σ0 vs End Yd W := by
  refine ⟨fun i m c H => m = xs.length - i ∧ i ≤ xs.length ∧ Pv i c H, ⟨xs.length, rfl, Nat.zero_le _, h0⟩, ?_⟩
  rintro i m c H ⟨rfl, hi, p⟩
  by_cases hlt : i < xs.length
  · have hx : xs[i]? = some xs[i] := List.getElem?_eq_getElem hlt
    refine .inr ⟨⟨xs, xs[i], hl i c H hi p, hx⟩, Pv (i + 1), fun c' H' p' => ⟨xs.length - (i + 1), by omega, rfl, hlt, p'⟩, fun x H' y => ?_⟩
    obtain ⟨T, x1, rfl, nT, rfl, e1⟩ := y
    exact hs i x1 T c H (e1 xs (hl i c _ hi p)) nT p
  · have e : i = xs.length := by omega
    subst e
    exact .inl ⟨⟨xs, hl _ c H hi p, rfl⟩, hd c H p⟩
theorem gx_str {α : Type} {z : Str} {g : TG} {tt : TT} {te : TE} {vs : List Nat} {σ0 : L2.St} {End : α → Hp → Prop} {Yd : α → V → Hp → (α → Hp → Prop) → Prop} {a0 : α} {H0 : Hp} (Pv : Nat → α → Hp → Prop) (h0 : Pv 0 a0 H0)
    (hs : ∀ i x c H, z.cps[i]? = some x → Pv i c H → g (.str ⟨#[x]⟩) σ0 H fun σ2 H2 => wipe σ2 vs = σ0 ∧ tt σ2 H2 fun b H3 => if b = true then te σ2 H3 fun y H4 => Yd c y H4 (Pv (i + 1)) else Pv (i + 1) c H3) (hd : ∀ c H, Pv z.cps.size c H → End c H) :
    ∃ W : Nat → Nat → α → Hp → Prop, (∃ m, W 0 m a0 H0) ∧ tGx (Its z) g tt te σ0 vs End Yd W := by
  refine ⟨fun i m c H => m = z.cps.size - i ∧ i ≤ z.cps.size ∧ Pv i c H, ⟨z.cps.size, rfl, Nat.zero_le _, h0⟩, ?_⟩
  rintro i m c H ⟨rfl, hi, p⟩
  by_cases hlt : i < z.cps.size
  · refine .inr ⟨hlt, Pv (i + 1), fun c' H' p' => ⟨z.cps.size - (i + 1), by omega, rfl, hlt, p'⟩, fun x H' y => ?_⟩
    obtain ⟨rfl, ch, hc, rfl⟩ := y
    exact hs i ch c _ hc p
  · have e : i = z.cps.size := by omega
    subst e
    exact .inl ⟨Nat.le_refl _, hd c H p⟩

/-! ### nets, and the words of nets -/
abbrev Gt := List Bool × List Nat
def gD (g : Gt) : PyData := .tuple [.str (tabOf g.1), .tuple ((g.2.map Int.ofNat).map PyData.int)]
def netD (many : Int) (gs : List Gt) : PyData := .tuple [.int many, .tuple (gs.map gD)]
def rowD (r : List Int) : PyData := .tuple (r.map PyData.int)
def chD (a b : List Int) : PyData := .tuple [rowD a, rowD b]
def GtOk (n : Nat) (g : Gt) : Prop := g.1.length = 2 ^ g.2.length ∧ 1 ≤ g.2.length ∧ g.2.length ≤ 3 ∧ ∀ i ∈ g.2, i < n
def NetOk (n : Nat) (gs : List Gt) : Prop := ∀ k g, gs[k]? = some g → GtOk (n + k) g
def Row01 (r : List Int) : Prop := ∀ x ∈ r, x = 0 ∨ x = 1
mutual
theorem Tk.gr {H H' : Hp} (s : Gr H H') : ∀ {v : V} {d : PyData}, Tk H v d → Tk H' v d
  | _, _, .bl b => .bl b
  | _, _, .int i => .int i
  | _, _, .str x => .str x
  | _, _, .lst h t => .lst (s.lst h) (t.gr s)
  | _, _, .tup h t => .tup (s.tup h) (t.gr s)
theorem TkAll.gr {H H' : Hp} (s : Gr H H') : ∀ {vs : List V} {ds : List PyData}, TkAll H vs ds → TkAll H' vs ds
  | _, _, .nil => .nil
  | _, _, .cons h t => .cons (h.gr s) (t.gr s)
end
theorem Tk.row_inv {H : Hp} {v : V} {r : List Int} (h : Tk H v (rowD r)) : ∃ a, v = .ref a ∧ H a = some (.tup (r.map V.int)) := by
  obtain ⟨a, xs, rfl, ha, t⟩ := h.tup_inv
  rw [t.int_inv] at ha
  exact ⟨a, rfl, ha⟩
theorem Tk.ch_inv {H : Hp} {v : V} {a b : List Int} (h : Tk H v (chD a b)) : ∃ c ra rb, v = .ref c ∧ H c = some (.tup [.ref ra, .ref rb]) ∧ H ra = some (.tup (a.map V.int)) ∧ H rb = some (.tup (b.map V.int)) := by
  obtain ⟨c, xs, rfl, hc, t⟩ := h.tup_inv
  cases t with
  | cons h1 t => cases t with
    | cons h2 t =>
      cases t
      obtain ⟨ra, rfl, ha⟩ := h1.row_inv
      obtain ⟨rb, rfl, hb⟩ := h2.row_inv
      exact ⟨c, ra, rb, rfl, hc, ha, hb⟩
theorem Tk.net_inv {H : Hp} {v : V} {m : Int} {gs : List Gt} (h : Tk H v (netD m gs)) : ∃ n g xs, v = .ref n ∧ H n = some (.tup [.int m, .ref g]) ∧ H g = some (.tup xs) ∧ TkAll H xs (gs.map gD) := by
  obtain ⟨n, xs, rfl, hn, t⟩ := h.tup_inv
  cases t with
  | cons h1 t => cases t with
    | cons h2 t =>
      cases t
      cases h1
      obtain ⟨g, ys, rfl, hg, t2⟩ := h2.tup_inv
      exact ⟨n, g, ys, rfl, hn, hg, t2⟩
theorem Tk.gt_inv {H : Hp} {v : V} {g : Gt} (h : Tk H v (gD g)) : ∃ a i, v = .ref a ∧ H a = some (.tup [.str (tabOf g.1), .ref i]) ∧ H i = some (.tup ((g.2.map Int.ofNat).map V.int)) := by
  obtain ⟨a, xs, rfl, ha, t⟩ := h.tup_inv
  cases t with
  | cons h1 t => cases t with
    | cons h2 t =>
      cases t
      cases h1
      obtain ⟨i, rfl, hi⟩ := (show Tk H _ (rowD (g.2.map Int.ofNat)) from h2).row_inv
      exact ⟨a, i, rfl, ha, hi⟩
theorem TkAll.at {H : Hp} {α : Type} {f : α → PyData} {xs : List V} {ds : List α} (t : TkAll H xs (ds.map f)) {j : Nat} {v : V} (h : xs[j]? = some v) : ∃ x, ds[j]? = some x ∧ Tk H v (f x) := by
  obtain ⟨dx, hdx, tx⟩ := t.get h
  rw [List.getElem?_map] at hdx
  cases hz : ds[j]? with
  | none => rw [hz] at hdx; cases hdx
  | some x =>
    rw [hz] at hdx
    cases Option.some.inj hdx
    exact ⟨x, rfl, tx⟩
theorem TkAll.at' {H : Hp} {α : Type} {f : α → PyData} {xs : List V} {ds : List α} (t : TkAll H xs (ds.map f)) {j : Nat} {x : α} (h : ds[j]? = some x) : ∃ v, xs[j]? = some v ∧ Tk H v (f x) := by
  have hl := t.length
  rw [List.length_map] at hl
  have hj := (List.getElem?_eq_some_iff.mp h).1
  obtain ⟨y, hy, ty⟩ := t.at (List.getElem?_eq_getElem (l := xs) (i := j) (by omega))
  cases Option.some.inj (h.symm.trans hy)
  exact ⟨_, List.getElem?_eq_getElem _, ty⟩
theorem grow_upd {H H' : Hp} {p : Addr} {o : HO} (g : Gr H H') (n : H' p = none) : Gr H (upd H' p o) := g.trans (Gr.none n)
/-- no table, no older list: only the list at D is written -/
def GrD (D : Addr) (H H' : Hp) : Prop := Gr H (hd1 D H')
theorem GrD.gr {D : Addr} {H H' : Hp} (g : GrD D H H') : Gr H H' := g.trans (Gr.of hd1_le)
theorem TabG_hd1 {D P : Addr} {H : Hp} (h : GxR.TabG H P) (n : D ≠ P) : GxR.TabG (hd1 D H) P := by
  obtain ⟨ps, e, t⟩ := h
  exact ⟨ps, by rw [hd1_at (Ne.symm n)]; exact e, t⟩
theorem GrD.new {D : Addr} {H : Hp} {o : HO} (n : H D = none) : GrD D H (upd H D o) := Gr.of (hd1_of (same_upd n) n)
theorem hd1_gr {D : Addr} {H H' : Hp} (g : Gr H H') (hD : ∀ P, GxR.TabG H P → D ≠ P) : Gr (hd1 D H) (hd1 D H') := by
  refine ⟨fun b o n e => ?_, fun b t => ?_⟩
  · have hb : b ≠ D := fun z => by
      unfold hd1 at e
      rw [if_pos z] at e; cases e
    rw [hd1_at hb] at e ⊢
    exact g.1 b o n e
  · obtain ⟨ps, e, t⟩ := t
    have e' := hd1_le _ _ e
    exact TabG_hd1 (g.2 b ⟨ps, e', t⟩) (hD b ⟨ps, e', t⟩)
theorem GrD.then {D : Addr} {H H1 H2 : Hp} {xs : List V} (a : GrD D H H1) (hD : H1 D = some (.lst xs)) (b : Gr H1 H2) : GrD D H H2 := a.trans (hd1_gr b fun P ⟨ps, e, _⟩ z => by
  rw [← z, hD] at e
  cases e)
theorem GrD.set {D : Addr} {H H1 : Hp} {o : HO} (a : GrD D H H1) : GrD D H (upd H1 D o) := a.trans (Gr.of hd1_upd)

end Gk

set_option Elab.async false
set_option linter.all false
set_option maxRecDepth 100000
set_option maxHeartbeats 1000000
set_option pp.maxSteps 1500
set_option pp.deepTerms false
namespace Gk
open PySem PySem.Spec PyProof.Rows L2
/-! ### data of tuples alone: no list that is written can harm it -/
mutual
def noL : PyData → Bool
  | .list _ => false
  | .tuple ds => noLs ds
  | _ => true
def noLs : List PyData → Bool
  | [] => true
  | d :: r => noL d && noLs r
end
def Ts (H H' : Hp) : Prop := ∀ b xs, H b = some (HO.tup xs) → H' b = some (.tup xs)
theorem Ts.refl {H : Hp} : Ts H H := fun _ _ e => e
theorem Ts.trans {H H1 H2 : Hp} (a : Ts H H1) (b : Ts H1 H2) : Ts H H2 := fun c xs e => b c xs (a c xs e)
theorem Ts.same {H H' : Hp} (s : Same H H') : Ts H H' := fun b xs e => s _ _ e
theorem Ts.gr {H H' : Hp} (s : Gr H H') : Ts H H' := fun b xs e => s.tup e
theorem Ts.new {H : Hp} {p : Addr} {o : HO} (h : H p = none) : Ts H (upd H p o) := Ts.same (same_upd h)
theorem Ts.set {H : Hp} {p : Addr} {xs ys : List V} (h : H p = some (.lst xs)) : Ts H (upd H p (.lst ys)) := fun b zs e => by
  rw [upd_ne (ne_of e h (by intro z; cases z))]
  exact e
mutual
theorem Tk.ts {H H' : Hp} (s : Ts H H') : ∀ {v : V} {d : PyData}, Tk H v d → noL d = true → Tk H' v d
  | _, _, .bl b, _ => .bl b
  | _, _, .int i, _ => .int i
  | _, _, .str x, _ => .str x
  | _, _, .lst h t, n => by cases n
  | _, _, .tup h t, n => .tup (s _ _ h) (t.ts s n)
theorem TkAll.ts {H H' : Hp} (s : Ts H H') : ∀ {vs : List V} {ds : List PyData}, TkAll H vs ds → noLs ds = true → TkAll H' vs ds
  | _, _, .nil, _ => .nil
  | _, _, .cons (d := d) (ds := ds) h t, n => by
    have n' : noL d = true ∧ noLs ds = true := Bool.and_eq_true_iff.mp n
    exact .cons (h.ts s n'.1) (t.ts s n'.2)
end
theorem noLs_map {α : Type} {f : α → PyData} (h : ∀ x, noL (f x) = true) : ∀ l : List α, noLs (l.map f) = true
  | [] => rfl
  | x :: r => by
    show (noL (f x) && noLs (r.map f)) = true
    rw [h x, noLs_map h r]
    rfl
theorem noL_row (r : List Int) : noL (rowD r) = true := noLs_map (fun _ => rfl) r
theorem noL_gate (g : Gt) : noL (gD g) = true := by
  show (true && (noLs ((g.2.map Int.ofNat).map PyData.int) && true)) = true
  rw [noLs_map (fun _ => rfl)]
  rfl
theorem noL_gates (gs : List Gt) : noLs (gs.map gD) = true := noLs_map noL_gate gs
theorem noL_net (m : Int) (gs : List Gt) : noL (netD m gs) = true := by
  show (true && (noLs (gs.map gD) && true)) = true
  rw [noL_gates]
  rfl
theorem noL_ch (a b : List Int) : noL (chD a b) = true := by
  show (noL (rowD a) && (noL (rowD b) && true)) = true
  rw [noL_row, noL_row]
  rfl

section
variable {P : Program} {w : World} {K : PySem.W.Frag} {mg : Str → Option Value} {base : Heap}
/-! ### the deck whose cells are taken from behind -/
def DeckC (H : Hp) (d l : Addr) (n : Int) : Prop := d ≠ l ∧ ∃ (cs : List Int) (y z : Int), H d = some (.lst [.ref l, .int y, .int z]) ∧ H l = some (.lst (cs.map V.int)) ∧ cs.length ≤ 63 ∧ 0 ≤ z ∧ z ≤ n
theorem DeckC.mono {H : Hp} {d l : Addr} {n m : Int} (D : DeckC H d l n) (h : n ≤ m) : DeckC H d l m := by
  obtain ⟨ne, cs, z, y, h1, h2, h3, h4, h5⟩ := D
  exact ⟨ne, cs, z, y, h1, h2, h3, h4, Int.le_trans h5 h⟩
theorem DeckC.same {H H' : Hp} {d l : Addr} {n : Int} (D : DeckC H d l n) (s : Same H H') : DeckC H' d l n := by
  obtain ⟨ne, cs, z, y, hd, hl, r⟩ := D
  exact ⟨ne, cs, z, y, s _ _ hd, s _ _ hl, r⟩
theorem DeckC.gr {H H' : Hp} {d l : Addr} {n : Int} (D : DeckC H d l n) (s : Gr H H') : DeckC H' d l n := by
  obtain ⟨ne, cs, z, y, hd, hl, r⟩ := D
  exact ⟨ne, cs, z, y, s.lst hd, s.lst hl, r⟩
theorem DeckC.upd {H : Hp} {d l p : Addr} {n : Int} {o : HO} (D : DeckC H d l n) (h1 : p ≠ d) (h2 : p ≠ l) : DeckC (upd H p o) d l n := by
  obtain ⟨ne, cs, z, y, hd, hl, r⟩ := D
  exact ⟨ne, cs, z, y, by rw [upd_ne h1.symm]; exact hd, by rw [upd_ne h2.symm]; exact hl, r⟩
theorem DeckC.off {H : Hp} {d l p : Addr} {n : Int} (D : DeckC H d l n) (h : H p = none) : p ≠ d ∧ p ≠ l := by
  obtain ⟨ne, cs, z, y, hd, hl, r⟩ := D
  exact ⟨(ne_of_none hd h).symm, (ne_of_none hl h).symm⟩
theorem Ts.frC {H H' : Hp} {d l : Addr} {n : Int} (D : DeckC H d l n) (f : Fr d l H H') : Ts H H' := fun b xs e => by
  obtain ⟨ne, cs, z, y, hd, hl, r⟩ := D
  exact f b _ (ne_of e hd (by intro z; cases z)) (ne_of e hl (by intro z; cases z)) e
theorem Fr.upd {d l p : Addr} {H H' : Hp} {o : HO} (f : Fr d l H H') (h : H p = none) : Fr d l H (upd H' p o) := fun b u h1 h2 e => by
  rw [upd_ne (ne_of_none e h)]
  exact f b u h1 h2 e
theorem tab_frC {H H' : Hp} {d l P : Addr} {n : Int} (D : DeckC H d l n) (f : Fr d l H H') (t : GxR.TabG H P) : GxR.TabG H' P := by
  obtain ⟨ps, e, tr⟩ := t
  obtain ⟨ne, cs, z, y, hd, hl, r⟩ := D
  exact ⟨ps, f _ _ (ne_of e hd (by intro z; cases z)) (ne_of e hl (by intro z; cases z)) e, tr⟩
theorem none_of_frC {d l p : Addr} {H H' : Hp} {n : Int} (f : Fr d l H H') (D : DeckC H' d l n) (h : H' p = none) : H p = none := by
  have o := D.off h
  cases z : H p with
  | none => rfl
  | some u => rw [f _ _ o.1 o.2 z] at h; cases h
theorem cut63 {ns : List Int} (h : ns.length ≤ 63) : cutV (ns.map V.int) none (some 63) = ns.map V.int := by
  unfold cutV
  have e : HT.sIx (ns.map V.int).length (ns.map V.int).length (some 63) = min 63 (ns.map V.int).length := HT.sIx_nat _ _ 63
  rw [HT.sIx_none, e, List.length_map, List.drop_zero]
  apply List.take_of_length_le
  rw [List.length_map]
  omega
theorem sq_same {K : PySem.W.Frag} {H H' : Hp} {a : Addr} {xs : List V} (s : Same H H') (h : SqL K H a xs) : SqL K H' a xs := h.imp (fun r => r.imp (fun e => s _ _ e) (fun ⟨ob, e⟩ => ⟨ob, s _ _ e⟩)) id
def sp_deck (K : PySem.W.Frag) : Sp := fun vs H Q _ => ∃ (a : Addr) (ns : List Int), vs = [.ref a] ∧ SqL K H a (ns.map V.int) ∧ ns.length ≤ 63 ∧ ∀ H' d l, Same H H' → DeckC H' d l 0 → Q (.ref d) H'
theorem ok_deck (T : Tx w K mg) : FnOk P w K mg base CX0 1 T.f_deck T.fd_deck ["_law_script"] (sp_deck K) := by
  refine T.F_deck.ok sc_deck (fun vs H Q E h => ?_) (fun cdv A outer s H vs Q E hr h => ?_)
  · obtain ⟨a, ns, rfl, _⟩ := h
    rfl
  · obtain ⟨a, ns, rfl, hS, hlen, q⟩ := h
    refine ⟨_, (pss_one (ps_ret (pe_lst (pa_cons (RevL.pe_lstRev rfl (by rfl) T.m_list (by rfl) T.m_reversed (pe_slice sl_list (pv 0) po_none (po_some pe_int))) (pa_cons (pe_op op_add (pe_callB (cr_sum rfl) (by rfl) T.m_sum (by decide +kernel) (pa_cons (pe_slice sl_list (pv 0) po_none (po_some pe_int)) pa_nil)) (pe_callB call_len_seq (by rfl) T.m_len PySem.boot_len (pa_cons (pe_slice sl_list (pv 0) po_none (po_some pe_int)) pa_nil))) (pa_cons pe_int pa_nil)))))), ?_⟩
    refine ⟨.ref a, rfl, 63, rfl, a, _, rfl, hS, fun c1 n1 => ?_⟩
    rw [cut63 hlen]
    have s1 := same_upd (o := HO.lst (ns.map V.int)) n1
    refine ⟨c1, _, rfl, SqL.of upd_same, fun l nl => ?_⟩
    have s2 := same_upd (o := HO.lst (ns.map V.int).reverse) nl
    refine ⟨.ref a, rfl, 63, rfl, a, _, rfl, sq_same (s1.trans s2) hS, fun c3 n3 => ?_⟩
    rw [cut63 hlen]
    have s3 := same_upd (o := HO.lst (ns.map V.int)) n3
    refine ⟨c3, ns, rfl, SqL.of upd_same, .ref a, rfl, 63, rfl, a, _, rfl, sq_same ((s1.trans s2).trans s3) hS, fun c4 n4 => ?_⟩
    rw [cut63 hlen]
    have s4 := same_upd (o := HO.lst (ns.map V.int)) n4
    refine ⟨c4, _, rfl, .inl (SqL.of upd_same), _, _, rfl, rfl, sl3, fun d nd => ?_⟩
    have s5 := same_upd (o := HO.lst [V.ref l, V.int (ns.sum + ((ns.map V.int).length : Nat)), V.int 0]) nd
    have hl4 := s4 _ _ (s3 _ _ (show (upd (upd H c1 (.lst (ns.map V.int))) l (.lst (ns.map V.int).reverse)) l = _ from upd_same))
    refine q _ d l ((((s1.trans s2).trans s3).trans s4).trans s5) ⟨(ne_of_none hl4 nd).symm, ns.reverse, _, 0, upd_same, ?_, by rw [List.length_reverse]; exact hlen, Int.le_refl _, Int.le_refl _⟩
    rw [List.map_reverse]
    exact s5 _ _ hl4
def sp_mixed (K : PySem.W.Frag) : Sp := fun vs H Q _ => ∃ c k : Int, vs = [.int c, .int k] ∧ 0 ≤ k ∧ k < 2000000000 ∧ ∀ v, 0 ≤ v → Q (.int v) H
theorem ok_mixed (T : Tx w K mg) : FnOk P w K mg base CX0 1 T.f_mixed T.fd_mixed ["_law_cell", "_law_k"] (sp_mixed K) := by
  refine T.F_mixed.ok sc_mixed (fun vs H Q E h => ?_) (fun cdv A outer s H vs Q E hr h => ?_)
  · obtain ⟨c, k, rfl, _⟩ := h
    rfl
  · obtain ⟨c, k, rfl, k0, k1, q⟩ := h
    refine ⟨_, (pss_cons (ps_set (i := 2) sc_mixed.nd rfl (by first | exact .inl rfl | exact .inr rfl) (pe_op op_mod (pe_op op_mul (pe_op op_add (pe_op op_add (pe_op op_mod (pv 0) pe_int) (pe_op op_mul pe_int (pv 1))) pe_int) pe_int) pe_int)) (pss_cons (ps_set (i := 2) sc_mixed.nd rfl (by first | exact .inl rfl | exact .inr rfl) (pe_op op_mod (pe_op op_add (pe_op op_add (pe_op op_mul (pv 2) (pv 2)) (pe_op op_mul pe_int (pv 1))) pe_int) pe_int)) (pss_one (ps_ret (pe_op op_add (pe_op op_mul (pv 2) pe_int) (pe_op op_mod (pe_op op_add (pe_op op_add (pe_op op_mul (pv 2) (pv 2)) (pe_op op_mul pe_int (pv 2))) (pv 1)) pe_int)))))), ?_⟩
    refine ⟨.int c, rfl, _, _, rfl, rfl, p29, .int k, rfl, 7919, k, rfl, rfl, .inl ⟨by decide, by decide⟩, _, _, rfl, rfl, _, _, rfl, rfl, _, 48271, rfl, rfl, .inr ⟨by decide, by decide⟩, _, _, rfl, rfl, p47, ?_⟩
    dsimp only
    have v0 := Int.emod_nonneg ((c % 2147483629 + 7919 * k + 1) * 48271) (show (2147483647 : Int) ≠ 0 by decide)
    have v1 := Int.emod_lt_of_pos ((c % 2147483629 + 7919 * k + 1) * 48271) (show (0 : Int) < 2147483647 by decide)
    revert v0 v1
    generalize ((c % 2147483629 + 7919 * k + 1) * 48271) % 2147483647 = v
    intro v0 v1
    refine ⟨.int v, rfl, .int v, rfl, v, v, rfl, rfl, .inl ⟨by omega, by omega⟩, .int k, rfl, 69621, k, rfl, rfl, .inl ⟨by decide, by decide⟩, _, _, rfl, rfl, _, _, rfl, rfl, _, _, rfl, rfl, p87, ?_⟩
    dsimp only
    have u0 := Int.emod_nonneg (v * v + 69621 * k + 7) (show (2147483587 : Int) ≠ 0 by decide)
    have u1 := Int.emod_lt_of_pos (v * v + 69621 * k + 7) (show (0 : Int) < 2147483587 by decide)
    revert u0 u1
    generalize (v * v + 69621 * k + 7) % 2147483587 = u
    intro u0 u1
    refine ⟨.int u, rfl, u, 2147483563, rfl, rfl, .inl ⟨by omega, by omega⟩, .int u, rfl, .int u, rfl, u, u, rfl, rfl, .inl ⟨by omega, by omega⟩, .int u, rfl, 16807, u, rfl, rfl, .inl ⟨by decide, by decide⟩, _, _, rfl, rfl, .int k, rfl, _, _, rfl, rfl, _, _, rfl, rfl, (show (0 : Int) < 2147483563 by decide), _, _, rfl, rfl, ?_⟩
    refine q _ ?_
    have a := Int.emod_nonneg (u * u + 16807 * u + k) (show (2147483563 : Int) ≠ 0 by decide)
    have b : 0 ≤ u * 2147483563 := by omega
    omega
def sp_take (K : PySem.W.Frag) : Sp := fun vs H Q _ => ∃ (d l : Addr) (m n : Int), vs = [.ref d, .int m] ∧ DeckC H d l n ∧ n < 1000000000 ∧ 0 < m ∧ m < 1152921504606846976 ∧ ∀ H' v, DeckC H' d l (n + 1) → Fr d l H H' → 0 ≤ v → v < m → Q (.int v) H'
theorem ok_take (T : Tx w K mg) : FnOk P w K mg base CX0 2 T.f_take T.fd_take ["_law_deck_here", "_law_most"] (sp_take K) := by
  refine T.F_take.ok sc_take (fun vs H Q E h => ?_) (fun cdv A outer s H vs Q E hr h => ?_)
  · obtain ⟨d, l, m, n, rfl, _⟩ := h
    rfl
  · obtain ⟨d, l, m, n, rfl, D, hn, hm0, hm1, q⟩ := h
    obtain ⟨ne, cs, y, z, hd, hl, hcs, hz0, hz1⟩ := D
    refine ⟨_, (pss_cons (ps_set (i := 2) sc_take.nd rfl (by first | exact .inl rfl | exact .inr rfl) (pe_ix ix_list (pv 0) pe_int (fun _ _ => rfl))) (pss_cons (ps_asg (pe_op op_add (pe_ix ix_list (pv 0) pe_int (fun _ _ => rfl)) pe_int) (pg_sub (pv 0) pe_int set_list)) (pss_cons (ps_if (pt_cmpR (op_eqD hr.units) (pv 2) (pe_lst pa_nil) (nomark _)) (pss_one (ps_ret (pe_op op_mod (pe_call (ok_mixed T) (hr.mono (by decide)) (by rfl) T.g_mixed T.F_mixed.kp T.b_mixed .nil pass0 (pa_cons (pe_ix ix_list (pv 0) pe_int (fun _ _ => rfl)) (pa_cons (pe_ix ix_list (pv 0) pe_int (fun _ _ => rfl)) pa_nil))) (pv 1)))) pss_nil) (pss_cons (ps_set (i := 3) sc_take.nd rfl (by first | exact .inl rfl | exact .inr rfl) (pe_bm0 PySem.F.plainAttrs_list PySem.F.slot_list_pop PySem.F.type_list_pop mt_pop (pv 2))) (pss_cons (ps_if (pt_cmpR op_lt (pv 3) (pe_op op_pow pe_int pe_int) (nomark _)) (pss_one (ps_ret (pe_op op_mod (pe_call (ok_mixed T) (hr.mono (by decide)) (by rfl) T.g_mixed T.F_mixed.kp T.b_mixed .nil pass0 (pa_cons (pv 3) (pa_cons (pe_ix ix_list (pv 0) pe_int (fun _ _ => rfl)) pa_nil))) (pv 1)))) pss_nil) (C8.pss_cut (ps_if (pt_cmpR op_gt (pe_op op_fdivW (pv 3) (pv 1)) pe_int (nomark _)) (pss_one (ps_expr (pe_bm PySem.F.plainAttrs_list PySem.F.slot_list_append PySem.F.type_list_append mt_append (pv 2) (pa_cons (pe_op op_fdivW (pv 3) (pv 1)) pa_nil)))) pss_nil) (pss_one (ps_ret (pe_op op_mod (pv 3) (pv 1)))))))))), ?_⟩
    refine ⟨.ref d, rfl, d, _, 0, .ref l, rfl, rfl, SqL.of hd, rfl, ?_⟩
    refine ⟨.ref d, rfl, d, _, 2, .int z, rfl, rfl, SqL.of hd, rfl, z, 1, rfl, rfl, .ref d, rfl, d, _, 2, 2, rfl, rfl, hd, rfl, ?_⟩
    have hd1 : (upd H d (.lst [.ref l, .int y, .int (z + 1)])) d = some (.lst [.ref l, .int y, .int (z + 1)]) := upd_same
    have hl1 : (upd H d (.lst [.ref l, .int y, .int (z + 1)])) l = some (.lst (cs.map V.int)) := by rw [upd_ne ne.symm]; exact hl
    have fr1 : Fr d l H (upd H d (.lst [.ref l, .int y, .int (z + 1)])) := Fr.d
    have hz2 : 0 ≤ z + 1 := by omega
    have hz3 : z + 1 ≤ n + 1 := by omega
    have hz4 : z + 1 < 2000000000 := by omega
    show tSeq _ _ _ _ (upd H d (.lst [.ref l, .int y, .int (z + 1)]))
    revert hd1 hl1 fr1 hz2 hz3 hz4
    generalize upd H d (.lst [.ref l, .int y, .int (z + 1)]) = H1
    generalize z + 1 = z'
    intro hd1 hl1 fr1 hz2 hz3 hz4
    refine ⟨.ref l, rfl, Nat.zero_le _, fun p np => ?_⟩
    have fr2 : Fr d l H (upd H1 p (.lst [])) := fr1.trans (Fr.new np)
    have hd2 : (upd H1 p (.lst [])) d = some (.lst [.ref l, .int y, .int z']) := same_upd np _ _ hd1
    have hl2 : (upd H1 p (.lst [])) l = some (.lst (cs.map V.int)) := same_upd np _ _ hl1
    refine ⟨.list (cs.map .int), .list [], .lst (SqL.of hl2) (dpInts cs), .lst (SqL.of upd_same) .nil, shInts cs, rfl, _, rfl, ?_⟩
    revert fr2 hd2 hl2
    generalize upd H1 p (.lst []) = H2
    intro fr2 hd2 hl2
    by_cases hc : cs = []
    · subst hc
      refine iteT ?_
      refine ⟨.ref d, rfl, d, _, 1, .int y, rfl, rfl, SqL.of hd2, rfl, .ref d, rfl, d, _, 2, .int z', rfl, rfl, SqL.of hd2, rfl, y, z', rfl, hz2, hz4, fun v v0 => ⟨.int m, rfl, _, _, rfl, rfl, hm0, ?_⟩⟩
      exact q _ _ ⟨ne, [], y, z', hd2, hl2, hcs, hz2, hz3⟩ fr2 (Int.emod_nonneg _ (by omega)) (Int.emod_lt_of_pos _ hm0)
    · obtain ⟨r, c, rfl⟩ : ∃ r c, cs = r ++ [c] := ⟨cs.dropLast, cs.getLast hc, (List.dropLast_concat_getLast hc).symm⟩
      have en : PyData.eqv (.list ((r ++ [c]).map PyData.int)) (.list []) = false := by
        cases r <;> rfl
      rw [en]
      refine iteF ?_
      have la : ((r ++ [c]).map V.int)[((r ++ [c]).map V.int).length - 1]? = some (.int c) := by simp
      refine ⟨.ref l, rfl, .inl ⟨rfl, _, SqL.of hl2⟩, l, _, .int c, rfl, rfl, hl2, la, ?_⟩
      have dl : ((r ++ [c]).map V.int).dropLast = r.map V.int := by rw [List.map_append]; exact List.dropLast_concat
      rw [dl]
      have hd3 : (upd H2 l (.lst (r.map V.int))) d = some (.lst [.ref l, .int y, .int z']) := by rw [upd_ne ne]; exact hd2
      have hl3 : (upd H2 l (.lst (r.map V.int))) l = some (.lst (r.map V.int)) := upd_same
      have fr3 : Fr d l H (upd H2 l (.lst (r.map V.int))) := fr2.trans Fr.l
      have hr63 : r.length + 1 ≤ 63 := by rw [List.length_append] at hcs; exact hcs
      revert hd3 hl3 fr3
      generalize upd H2 l (.lst (r.map V.int)) = H3
      intro hd3 hl3 fr3
      refine ⟨.int c, rfl, _, _, rfl, rfl, ⟨by decide, by decide, by decide⟩, _, _, rfl, rfl, _, rfl, ite2 (fun _ => ?_) (fun _ => ?_)⟩
      · refine ⟨.int c, rfl, .ref d, rfl, d, _, 2, .int z', rfl, rfl, SqL.of hd3, rfl, c, z', rfl, hz2, hz4, fun v v0 => ⟨.int m, rfl, _, _, rfl, rfl, hm0, ?_⟩⟩
        exact q _ _ ⟨ne, r, y, z', hd3, hl3, by omega, hz2, hz3⟩ fr3 (Int.emod_nonneg _ (by omega)) (Int.emod_lt_of_pos _ hm0)
      · refine ⟨fun σ H' => σ = [some (.ref d), some (.int m), some (.ref l), some (.int c)] ∧ ∃ cs : List Int, cs.length ≤ 63 ∧ H' d = some (.lst [.ref l, .int y, .int z']) ∧ H' l = some (.lst (cs.map V.int)) ∧ Fr d l H H', ?_, ?_⟩
        · refine ⟨.int c, rfl, .int m, rfl, _, _, rfl, rfl, (wide_div hm0 (b := 60) (Nat.lt_of_lt_of_le (show m.natAbs < 1152921504606846976 by omega) (by decide)) (by decide) (by decide)), _, _, rfl, rfl, _, rfl, ite2 (fun _ => ?_) (fun _ => ?_)⟩
          · refine ⟨.ref l, rfl, .inl ⟨rfl, _, SqL.of hl3⟩, .int c, rfl, .int m, rfl, _, _, rfl, rfl, (wide_div hm0 (b := 60) (Nat.lt_of_lt_of_le (show m.natAbs < 1152921504606846976 by omega) (by decide)) (by decide) (by decide)), l, _, _, rfl, rfl, hl3, ?_, ?_⟩
            · rw [List.length_map]
              exact Nat.lt_of_lt_of_le (show r.length < 64 by omega) (by decide)
            · refine ⟨rfl, r ++ [c / m], by rw [List.length_append]; exact hr63, by rw [upd_ne ne]; exact hd3, ?_, fr3.trans Fr.l⟩
              rw [upd_same, List.map_append]
              rfl
          · exact ⟨rfl, r, by omega, hd3, hl3, fr3⟩
        · rintro σ H4 ⟨rfl, cs4, l4, hd4, hl4, fr4⟩
          refine ⟨.int c, rfl, .int m, rfl, _, _, rfl, rfl, hm0, ?_⟩
          exact q _ _ ⟨ne, cs4, y, z', hd4, hl4, l4, hz2, hz3⟩ fr4 (Int.emod_nonneg _ (by omega)) (Int.emod_lt_of_pos _ hm0)

end
end Gk

set_option Elab.async false
set_option linter.all false
set_option maxRecDepth 100000
set_option maxHeartbeats 1000000
set_option pp.maxSteps 1500
set_option pp.deepTerms false
namespace Gk
open PySem PySem.Spec PyProof.Rows L2
/-! ### slices and sums of tuples: what is told stands in a heap that has grown -/
theorem cut_all {xs : List V} {lo hi : Option Int} (h : HT.sIx xs.length 0 lo = 0 ∧ HT.sIx xs.length xs.length hi = xs.length) : cutV xs lo hi = xs := by
  unfold cutV
  rw [h.1, h.2, List.drop_zero, Nat.sub_zero, List.take_length]
theorem same_refl {H : Hp} : Same H H := fun _ _ e => e
theorem slA {K : PySem.W.Frag} {a : Addr} {xs : List V} {lo hi : Option Int} {H : Hp} {Q : VK} (h : H a = some (.tup xs)) (q : ∀ p H', Same H H' → H' p = some (.tup (cutV xs lo hi)) → Q (.ref p) H') : rSlA K (.ref a) lo hi H Q :=
  ⟨a, xs, rfl, SqT.of h, fun w => q a H same_refl (by rw [cut_all w]; exact h), fun _ p np => q p _ (same_upd np) upd_same⟩
theorem slAn {K : PySem.W.Frag} {a : Addr} {xs : List V} {lo : Option Int} {H : Hp} {Q : VK} {σ : L2.St} (h : H a = some (.tup xs)) (q : ∀ p H', Same H H' → H' p = some (.tup (cutV xs lo none)) → Q (.ref p) H') : tNoPart σ H (fun u H3 => rSlA K (.ref a) lo u H3 Q) := slA h q
theorem catA {K : PySem.W.Frag} {a b : Addr} {xs ys : List V} {H : Hp} {Q : VK} (ha : H a = some (.tup xs)) (hb : H b = some (.tup ys)) (hl : xs.length + ys.length ≤ sizeLine) (q : ∀ p H', Same H H' → H' p = some (.tup (xs ++ ys)) → Q (.ref p) H') : rCatA K (.ref a) (.ref b) H Q :=
  ⟨a, b, xs, ys, rfl, rfl, SqT.of ha, SqT.of hb, hl, fun e => q b H same_refl (by rw [e]; exact hb), fun _ e => q a H same_refl (by rw [e, List.append_nil]; exact ha), fun _ _ p np => q p _ (same_upd np) upd_same⟩
theorem cut_to {xs : List V} {k : Nat} : cutV xs none (some (k : Int)) = xs.take k := by
  unfold cutV
  rw [HT.sIx_none, HT.sIx_nat, List.drop_zero, Nat.sub_zero]
  apply List.ext_getElem?
  intro i
  rw [List.getElem?_take, List.getElem?_take]
  by_cases h : i < k
  · rw [if_pos h]
    by_cases h2 : i < xs.length
    · rw [if_pos (by omega)]
    · rw [List.getElem?_eq_none (by omega)]
      split <;> rfl
  · rw [if_neg h, if_neg (by omega)]
theorem cut_from {xs : List V} {k : Nat} : cutV xs (some (k : Int)) none = xs.drop k := by
  unfold cutV
  rw [HT.sIx_none, HT.sIx_nat]
  by_cases h : k ≤ xs.length
  · rw [Nat.min_eq_left h]
    exact List.take_of_length_le (by rw [List.length_drop]; exact Nat.le_refl _)
  · rw [Nat.min_eq_right (by omega), Nat.sub_self, List.take_zero, List.drop_eq_nil_of_le (by omega)]
theorem TkAll.take {H : Hp} : ∀ {xs : List V} {ds : List PyData} (k : Nat), TkAll H xs ds → TkAll H (xs.take k) (ds.take k)
  | _, _, 0, _ => by rw [List.take_zero, List.take_zero]; exact .nil
  | _, _, _ + 1, .nil => .nil
  | _, _, k + 1, .cons a t => .cons a (t.take k)
theorem TkAll.drop {H : Hp} : ∀ {xs : List V} {ds : List PyData} (k : Nat), TkAll H xs ds → TkAll H (xs.drop k) (ds.drop k)
  | _, _, 0, t => t
  | _, _, _ + 1, .nil => .nil
  | _, _, k + 1, .cons _ t => t.drop k
theorem set_put {α : Type} {l : List α} {i : Nat} {x : α} (h : i < l.length) : (l.take i ++ [x]) ++ l.drop (i + 1) = l.set i x := by
  rw [List.set_eq_take_append_cons_drop, if_pos h, List.append_assoc]
  rfl
def rJoinK (K : PySem.W.Frag) : V → List V → Hp → VK → Prop := fun x xs H Q => ∃ a p, ∃ ys : List Str, x = .str a ∧ xs = [.ref p] ∧ (SqL K H p (ys.map V.str) ∨ SqT K H p (ys.map V.str)) ∧ (ys.map (·.length)).sum + ys.length * a.length ≤ 16777216 ∧ Q (.str (Txt.join a ys)) H

/-! ### sizes of what is shown -/
def fineB (n m : Nat) (d : PyData) : Bool := d.showable && (d.leavesShort 200 && (decide (d.weight ≤ n) && decide (d.depth ≤ m)))
theorem fine_iff {n m : Nat} {d : PyData} : fineB n m d = true ↔ d.showable = true ∧ d.leavesShort 200 = true ∧ d.weight ≤ n ∧ d.depth ≤ m := by
  unfold fineB
  rw [Bool.and_eq_true, Bool.and_eq_true, Bool.and_eq_true, decide_eq_true_eq, decide_eq_true_eq]
theorem fine_mono {n m n' m' : Nat} {d : PyData} (h : fineB n m d = true) (a : n ≤ n') (b : m ≤ m') : fineB n' m' d = true := by
  obtain ⟨h1, h2, h3, h4⟩ := fine_iff.mp h
  exact fine_iff.mpr ⟨h1, h2, Nat.le_trans h3 a, Nat.le_trans h4 b⟩
theorem fine_fits {n m : Nat} {d : PyData} (h : fineB n m d = true) (hn : n ≤ 50000) : d.shown.length ≤ sizeLine := by
  obtain ⟨_, h2, h3, _⟩ := fine_iff.mp h
  have := PyData.shown_le 200 (by decide) d h2
  have e : sizeLine = 16777216 := by decide
  rw [e]
  omega
theorem fine_all {n m : Nat} : ∀ {ds : List PyData}, (∀ d ∈ ds, fineB n m d = true) → PyData.showableAll ds = true ∧ PyData.leavesShortAll 200 ds = true ∧ PyData.weightAll ds ≤ ds.length * (n + 1) ∧ PyData.depthAll ds ≤ m
  | [], _ => ⟨rfl, rfl, Nat.zero_le _, Nat.zero_le _⟩
  | d :: r, h => by
    obtain ⟨a1, a2, a3, a4⟩ := fine_iff.mp (h d (List.mem_cons_self ..))
    obtain ⟨b1, b2, b3, b4⟩ := fine_all (ds := r) fun x hx => h x (List.mem_cons_of_mem _ hx)
    refine ⟨?_, ?_, ?_, ?_⟩
    · unfold PyData.showableAll
      rw [a1, b1]
      rfl
    · unfold PyData.leavesShortAll
      rw [a2, b2]
      rfl
    · unfold PyData.weightAll
      rw [List.length_cons, Nat.succ_mul]
      omega
    · unfold PyData.depthAll
      omega
theorem fine_tup {n m k : Nat} {ds : List PyData} (h : ∀ d ∈ ds, fineB n m d = true) (hk : ds.length ≤ k) : fineB (k * (n + 1)) (m + 1) (.tuple ds) = true := by
  obtain ⟨b1, b2, b3, b4⟩ := fine_all h
  refine fine_iff.mpr ⟨b1, b2, ?_, ?_⟩
  · show PyData.weightAll ds ≤ _
    exact Nat.le_trans b3 (Nat.mul_le_mul_right _ hk)
  · show PyData.depthAll ds + 1 ≤ _
    omega
theorem fine_lst {n m k : Nat} {ds : List PyData} (h : ∀ d ∈ ds, fineB n m d = true) (hk : ds.length ≤ k) : fineB (k * (n + 1)) (m + 1) (.list ds) = true := by
  obtain ⟨b1, b2, b3, b4⟩ := fine_all h
  refine fine_iff.mpr ⟨b1, b2, ?_, ?_⟩
  · show PyData.weightAll ds ≤ _
    exact Nat.le_trans b3 (Nat.mul_le_mul_right _ hk)
  · show PyData.depthAll ds + 1 ≤ _
    omega

mutual
theorem Sh.gr {H H' : Hp} (s : Gr H H') : ∀ {v : V} {d : PyData}, Sh H v d → Sh H' v d
  | _, _, .non => .non
  | _, _, .bl b => .bl b
  | _, _, .int i => .int i
  | _, _, .str x => .str x
  | _, _, .lst h n t => .lst (s.lst h) n (t.gr s)
  | _, _, .tup h t => .tup (s.tup h) (t.gr s)
  | _, _, .dic h t => .dic (s.1 _ _ (fun _ z => by cases z) h) (t.gr s)
theorem ShAll.gr {H H' : Hp} (s : Gr H H') : ∀ {vs : List V} {ds : List PyData}, ShAll H vs ds → ShAll H' vs ds
  | _, _, .nil => .nil
  | _, _, .cons h t => .cons (h.gr s) (t.gr s)
end
theorem ShAll.get {H : Hp} : ∀ {xs : List V} {ds : List PyData} {j : Nat} {x : V}, ShAll H xs ds → xs[j]? = some x → ∃ d, ds[j]? = some d ∧ Sh H x d
  | _, _, _, _, .nil, h => by simp at h
  | _, _, 0, _, .cons (d := d) a _, h => by
    cases (Option.some.inj h)
    exact ⟨d, rfl, a⟩
  | _, _, j + 1, _, .cons _ t, h => t.get h
theorem ShAll.append {H : Hp} : ∀ {xs ys : List V} {ds es : List PyData}, ShAll H xs ds → ShAll H ys es → ShAll H (xs ++ ys) (ds ++ es)
  | _, _, _, _, .nil, t => t
  | _, _, _, _, .cons a r, t => .cons a (r.append t)
theorem ShAll.take {H : Hp} : ∀ {xs : List V} {ds : List PyData} (n : Nat), ShAll H xs ds → ShAll H (xs.take n) (ds.take n)
  | _, _, 0, _ => by rw [List.take_zero, List.take_zero]; exact .nil
  | _, _, n + 1, .nil => .nil
  | _, _, n + 1, .cons a r => .cons a (r.take n)
theorem ShAll.drop {H : Hp} : ∀ {xs : List V} {ds : List PyData} (n : Nat), ShAll H xs ds → ShAll H (xs.drop n) (ds.drop n)
  | _, _, 0, h => h
  | _, _, n + 1, .nil => .nil
  | _, _, n + 1, .cons _ r => r.drop n
theorem notT {b : Bool} (h : (!b) = true) : ¬ b = true := by cases b <;> simp_all
theorem notF {b : Bool} (h : ¬ (!b) = true) : b = true := by cases b <;> simp_all

/-! ### anything against a text: ==, in a tuple of texts -/
def sB (z : Str) : PyData → Bool
  | .str x => decide (x = z)
  | _ => false
namespace EqS
open PySem PySem.Spec PyProof.Rows L2 PySem.SeqAt
theorem dict_declines_str (l : Addr) (es : Array DictEntry) (n : Nat) (dd : Option Addr) (sl : Array (Option Value)) (b : PySem.Str) (u : Tok) :
    Meets (Builtin.«dict.__eq__» ⟨[.ref l, .str b u], []⟩) (fun _ R s => s.heap.get? l = some { cls := .type "dict", dict := dd, data := .dict es n, slots := sl } ∧ R (.ok (.ret .notImplemented)) s) :=
  .of_wp fun prog w A R s h => by obtain ⟨hp, g, d, tk, os⟩ := s; obtain ⟨hl, h⟩ := h; have f1 := F.sub_str_dict; wp_walk using wpAny_loadPart' hl; exact ⟨_, rfl, h⟩
theorem str_declines_dict (b : PySem.Str) (u : Tok) (l : Addr) (es : Array DictEntry) (n : Nat) (dd : Option Addr) (sl : Array (Option Value)) :
    Meets (Builtin.«str.__eq__» ⟨[.str b u, .ref l], []⟩) (fun _ R s => s.heap.get? l = some { cls := .type "dict", dict := dd, data := .dict es n, slots := sl } ∧ R (.ok (.ret .notImplemented)) s) :=
  .of_wp fun prog w A R s h => by obtain ⟨hp, g, d, tk, os⟩ := s; obtain ⟨hl, h⟩ := h; wp_walk using wpAny_loadPart' hl, wpAny_load hl; exact ⟨_, rfl, h⟩
section
variable {A : Around} {s : Shared}
theorem rc_dict_str {l : Addr} {o : Obj} {es : Array DictEntry} {n : Nat} (b : PySem.Str) (u : Tok) (ho : s.heap.get? l = some o) (hc : o.cls = .type "dict") (hd : o.data = .dict es n) (hu : A.units < cLine) : RcAt A s (.ref l) (.str b u) false := fun prog w E Q h => by
  obtain ⟨cls, dd, data, sl⟩ := o
  simp only at hc hd
  subst hc hd
  exact rc_eq_decline_or (k := false) ⟨_, ho, rfl⟩ (typeIs_str s b u) (by decide) F.sub_str_dict F.slot_dict_eq F.slot_str_eq_refl
    (fun _ hq => call_meets F.slot_dict_eq ⟨_, ho, rfl⟩ F.entry_dict_eq (F.args_dict_eq_2 _ _) (dict_declines_str l es n dd sl b u) ⟨ho, hq⟩)
    (fun _ hq => call_meets F.slot_str_eq_refl (typeIs_str s b u) F.entry_str_eq (F.args_str_eq_2 _ _) (str_declines_dict b u l es n dd sl) ⟨ho, hq⟩)
    (fun _ hq => wpAny_of_eq (rfl : isSame (.ref l) (.str b u) = pure false) hq) (.inr hu) h
theorem rc_str_dict {l : Addr} {o : Obj} {es : Array DictEntry} {n : Nat} (b : PySem.Str) (u : Tok) (ho : s.heap.get? l = some o) (hc : o.cls = .type "dict") (hd : o.data = .dict es n) (hu : A.units < cLine) : RcAt A s (.str b u) (.ref l) false := fun prog w E Q h => by
  obtain ⟨cls, dd, data, sl⟩ := o
  simp only at hc hd
  subst hc hd
  exact rc_eq_decline_or (k := false) (typeIs_str s b u) ⟨_, ho, rfl⟩ (by decide) F.sub_dict_str F.slot_str_eq F.slot_dict_eq_refl
    (fun _ hq => call_meets F.slot_str_eq (typeIs_str s b u) F.entry_str_eq (F.args_str_eq_2 _ _) (str_declines_dict b u l es n dd sl) ⟨ho, hq⟩)
    (fun _ hq => call_meets F.slot_dict_eq_refl ⟨_, ho, rfl⟩ F.entry_dict_eq (F.args_dict_eq_2 _ _) (dict_declines_str l es n dd sl b u) ⟨ho, hq⟩)
    (fun _ hq => wpAny_of_eq (rfl : isSame (.str b u) (.ref l) = pure false) hq) (.inr hu) h
theorem beq_sB (x z : PySem.Str) : (x == z) = decide (x = z) := by
  by_cases h : x = z
  · rw [decide_eq_true h, h, beq_self_eq_true]
  · rw [decide_eq_false h]
    exact beq_eq_false_iff_ne.mpr h
theorem rc_any {v : Value} {d : PyData} {as : List Addr} (r : Reads s.heap v d as) (z : PySem.Str) (t : Tok) (hu : A.units < cLine) : RcAt A s v (.str z t) (sB z d) := by
  cases r with
  | none => exact RcAt.none_str z t
  | bool b => exact RcAt.bool_str b z t
  | int i k => exact RcAt.int_str i k z t
  | str x k =>
    have := RcAt.str_str (A := A) (s := s) x k z t
    rw [beq_sB] at this
    exact this
  | list h1 h2 h3 _ => exact RcAt.list_str z t ⟨_, h1, h2, _, h3⟩ hu
  | tuple h1 h2 h3 _ => exact RcAt.tuple_str z t ⟨_, h1, h2, _, h3⟩ hu
  | dict h1 h2 h3 _ _ => exact rc_dict_str z t h1 h2 h3 hu
theorem eq_any {v : Value} {d : PyData} {as : List Addr} (r : Reads s.heap v d as) (z : PySem.Str) (t : Tok) (hu : A.units < cLine) : EqAt A s (.str z t) v (sB z d) := by
  cases r with
  | none => exact EqAt.str_none z t
  | bool b => exact EqAt.str_bool z t b
  | int i k => exact EqAt.str_int z t i k
  | str x k =>
    have := EqAt.str_str (A := A) (s := s) z t x k
    have e : (z == x) = sB z (.str x) := by
      rw [beq_sB]
      show decide (z = x) = decide (x = z)
      exact decide_eq_decide.mpr ⟨Eq.symm, Eq.symm⟩
    rw [e] at this
    exact this
  | list h1 h2 h3 _ => exact EqAt.str_list z t ⟨_, h1, h2, _, h3⟩ hu
  | tuple h1 h2 h3 _ => exact EqAt.str_tuple z t ⟨_, h1, h2, _, h3⟩ hu
  | dict h1 h2 h3 _ _ =>
    intro prog w E Q h
    unfold eqBool
    refine wpAny_holding ?_
    refine wpAny_ite_split (fun hab => absurd (eq_of_beq hab) nofun) (fun _ => ?_)
    exact wpAny_bind (rc_str_dict z t h1 h2 h3 hu prog w E _ (wpAny_truthy_bool h))
end
theorem u0 {n c : Nat} (h : n + 64 < c) : n < c := by omega
theorem u1 {n c : Nat} (h : n + 64 < c) : n + 1 < c := by omega
section
variable {X : Cx}
def rEqS : R2 := fun x y H Q => ∃ d z, Sh H x d ∧ y = .str z ∧ Q (.bl (sB z d)) H
theorem op_eqS (hu : X.A.units < cLine) : OpR X (compareOp .Eq) rEqS := by
  intro pins s σ H x y v u Q I rx ry h
  obtain ⟨d, z, sh, rfl, q⟩ := h
  obtain ⟨as, r, _⟩ := Sh.reads I x d v sh rx
  obtain ⟨t, rfl⟩ := ry
  exact rc_any r z t hu X.prog X.w X.xe _ ⟨.bl _, H, I, rfl, q⟩
def rInS : R2 := fun x y H Q => ∃ (d : PyData) (a : Addr) (zs : List PySem.Str), Sh H x d ∧ y = .ref a ∧ H a = some (.tup (zs.map V.str)) ∧ Q (.bl (zs.any fun z => sB z d)) H
theorem any_vals : ∀ {zs : List PySem.Str} {us : List Value} (d : PyData), Vals (zs.map V.str) us → (us.any fun u => match u with | .str z _ => sB z d | _ => false) = zs.any fun z => sB z d
  | [], _, _, .nil => rfl
  | z :: r, _, d, .cons h t => by
    obtain ⟨k, rfl⟩ := h
    rw [List.any_cons, List.any_cons, any_vals d t]
theorem mem_vals : ∀ {zs : List PySem.Str} {us : List Value}, Vals (zs.map V.str) us → ∀ u ∈ us, ∃ z t, u = Value.str z t
  | [], _, .nil, _, h => by cases h
  | z :: r, _, .cons h t, u, hu => by
    obtain ⟨k, rfl⟩ := h
    rcases List.mem_cons.mp hu with e | e
    · exact ⟨_, _, e⟩
    · exact mem_vals t u e
theorem op_inS (hu : X.A.units + 1 < cLine) : OpR X (compareOp .In) rInS := by
  intro pins s σ H x y v u Q I rx ry h
  obtain ⟨d, a, zs, sh, rfl, ha, q⟩ := h
  obtain ⟨as, r, _⟩ := Sh.reads I x d v sh rx
  cases ry
  obtain ⟨its, rv, ⟨⟨cls, dd, data, sl⟩, ho, hc, n, hd⟩, hs⟩ := I.tuple (SqT.of (K := X.K) ha)
  refine in_tupleAt (fun u => match u with | .str z _ => sB z d | _ => false) ⟨_, ho, hc, n, hd⟩ (fun u hu' => ?_) ⟨.bl _, H, I, rfl, ?_⟩
  · obtain ⟨z, t, rfl⟩ := mem_vals rv u (by simpa using hu')
    exact eq_any r z t (by show X.A.units + 1 < cLine; exact hu)
  · have e : (its.toArray.any fun u => match u with | .str z _ => sB z d | _ => false) = zs.any fun z => sB z d := by
      rw [← any_vals d rv]
      simp
    rw [e]
    exact q
end
end EqS

section
variable {P : Program} {w : World} {K : PySem.W.Frag} {mg : Str → Option Value} {base : Heap}
/-! ### kinds of data -/
def isIntD : PyData → Bool
  | .int _ => true
  | .bool _ => true
  | _ => false
def isBoolD : PyData → Bool
  | .bool _ => true
  | _ => false
def isTupD : PyData → Bool
  | .tuple _ => true
  | _ => false
def isStrD : PyData → Bool
  | .str _ => true
  | _ => false
theorem kitInt : ∀ d : PyData, kitB (tyD d) "int" = some (isIntD d)
  | .none => (by decide +kernel : kitB "NoneType" "int" = some false)
  | .bool _ => (by decide +kernel : kitB "bool" "int" = some true)
  | .int _ => (by decide +kernel : kitB "int" "int" = some true)
  | .str _ => (by decide +kernel : kitB "str" "int" = some false)
  | .list _ => (by decide +kernel : kitB "list" "int" = some false)
  | .tuple _ => (by decide +kernel : kitB "tuple" "int" = some false)
  | .dict _ => (by decide +kernel : kitB "dict" "int" = some false)
theorem kitBool : ∀ d : PyData, kitB (tyD d) "bool" = some (isBoolD d)
  | .none => (by decide +kernel : kitB "NoneType" "bool" = some false)
  | .bool _ => (by decide +kernel : kitB "bool" "bool" = some true)
  | .int _ => (by decide +kernel : kitB "int" "bool" = some false)
  | .str _ => (by decide +kernel : kitB "str" "bool" = some false)
  | .list _ => (by decide +kernel : kitB "list" "bool" = some false)
  | .tuple _ => (by decide +kernel : kitB "tuple" "bool" = some false)
  | .dict _ => (by decide +kernel : kitB "dict" "bool" = some false)
theorem kitTup : ∀ d : PyData, kitB (tyD d) "tuple" = some (isTupD d)
  | .none => (by decide +kernel : kitB "NoneType" "tuple" = some false)
  | .bool _ => (by decide +kernel : kitB "bool" "tuple" = some false)
  | .int _ => (by decide +kernel : kitB "int" "tuple" = some false)
  | .str _ => (by decide +kernel : kitB "str" "tuple" = some false)
  | .list _ => (by decide +kernel : kitB "list" "tuple" = some false)
  | .tuple _ => (by decide +kernel : kitB "tuple" "tuple" = some true)
  | .dict _ => (by decide +kernel : kitB "dict" "tuple" = some false)
theorem kitStr : ∀ d : PyData, kitB (tyD d) "str" = some (isStrD d)
  | .none => (by decide +kernel : kitB "NoneType" "str" = some false)
  | .bool _ => (by decide +kernel : kitB "bool" "str" = some false)
  | .int _ => (by decide +kernel : kitB "int" "str" = some false)
  | .str _ => (by decide +kernel : kitB "str" "str" = some true)
  | .list _ => (by decide +kernel : kitB "list" "str" = some false)
  | .tuple _ => (by decide +kernel : kitB "tuple" "str" = some false)
  | .dict _ => (by decide +kernel : kitB "dict" "str" = some false)
def wholeD : PyData → Bool
  | .int _ => true
  | _ => false
def worthD : PyData → Bool
  | .int i => decide (0 ≤ i) && decide (i ≤ 1)
  | _ => false
theorem whole_of : ∀ {d : PyData}, isIntD d = true → wholeD d = !isBoolD d
  | .int _, _ => rfl
  | .bool _, _ => rfl
  | .none, h => by cases h
  | .str _, h => by cases h
  | .list _, h => by cases h
  | .tuple _, h => by cases h
  | .dict _, h => by cases h
theorem whole_not : ∀ {d : PyData}, ¬ isIntD d = true → wholeD d = false
  | .int _, h => absurd rfl h
  | .bool _, h => absurd rfl h
  | .none, _ => rfl
  | .str _, _ => rfl
  | .list _, _ => rfl
  | .tuple _, _ => rfl
  | .dict _, _ => rfl
theorem whole_int : ∀ {d : PyData}, wholeD d = true → ∃ i, d = .int i
  | .int i, _ => ⟨i, rfl⟩
  | .bool _, h => by cases h
  | .none, h => by cases h
  | .str _, h => by cases h
  | .list _, h => by cases h
  | .tuple _, h => by cases h
  | .dict _, h => by cases h
theorem worth_not : ∀ {d : PyData}, ¬ wholeD d = true → worthD d = false
  | .int _, h => absurd rfl h
  | .bool _, _ => rfl
  | .none, _ => rfl
  | .str _, _ => rfl
  | .list _, _ => rfl
  | .tuple _, _ => rfl
  | .dict _, _ => rfl
theorem tup_of : ∀ {d : PyData}, isTupD d = true → ∃ ds, d = .tuple ds
  | .tuple ds, _ => ⟨ds, rfl⟩
  | .bool _, h => by cases h
  | .none, h => by cases h
  | .str _, h => by cases h
  | .list _, h => by cases h
  | .int _, h => by cases h
  | .dict _, h => by cases h

end
end Gk

set_option Elab.async false
set_option linter.all false
set_option maxRecDepth 100000
set_option maxHeartbeats 1000000
set_option pp.maxSteps 1500
set_option pp.deepTerms false
namespace Gk
open PySem PySem.Spec PyProof.Rows L2
theorem str_len (x : String) : (Str.ofString x).length = x.length := PySem.ofString_length x

theorem int_weight {i : Int} {k : Nat} (h : i.natAbs < 2 ^ k) : (PyData.int i).weight ≤ k := by
  show (if i == 0 then 0 else i.natAbs.log2 + 1) ≤ k
  by_cases z : i = 0
  · rw [if_pos (by rw [z]; rfl)]
    exact Nat.zero_le _
  · rw [if_neg (by simpa using z)]
    exact (Nat.log2_lt (by omega)).mpr h

/-! ### what is spoilt stays small -/
mutual
def gd (B : Nat) : PyData → Bool
  | .none => true
  | .bool _ => true
  | .int i => decide (i.natAbs ≤ B)
  | .str x => x.cps.toList.all fun c => decide (c < 128)
  | .list xs => gds B xs
  | .tuple xs => gds B xs
  | .dict kvs => kvs.isEmpty
def gds (B : Nat) : List PyData → Bool
  | [] => true
  | x :: r => gd B x && gds B r
end
theorem gds_iff {B : Nat} : ∀ {l : List PyData}, gds B l = true ↔ ∀ x ∈ l, gd B x = true
  | [] => ⟨fun _ x hx => (by cases hx), fun _ => rfl⟩
  | y :: r => by
    show (gd B y && gds B r) = true ↔ _
    rw [Bool.and_eq_true, gds_iff (l := r)]
    exact ⟨fun ⟨a, b⟩ x hx => (List.mem_cons.mp hx).elim (fun e => e ▸ a) (b x), fun h => ⟨h y (List.mem_cons_self ..), fun x hx => h x (List.mem_cons_of_mem _ hx)⟩⟩
mutual
theorem gd_mono {B C : Nat} (h : B ≤ C) : ∀ {d : PyData}, gd B d = true → gd C d = true
  | .none, _ => rfl
  | .bool _, _ => rfl
  | .int _, e => decide_eq_true (Nat.le_trans (of_decide_eq_true e) h)
  | .str _, e => e
  | .list _, e => gds_mono h e
  | .tuple _, e => gds_mono h e
  | .dict _, e => e
theorem gds_mono {B C : Nat} (h : B ≤ C) : ∀ {l : List PyData}, gds B l = true → gds C l = true
  | [], _ => rfl
  | _ :: _, e => by
    have e' := Bool.and_eq_true_iff.mp e
    exact Bool.and_eq_true_iff.mpr ⟨gd_mono h e'.1, gds_mono h e'.2⟩
end
theorem small_log {i : Int} {B : Nat} (h : i.natAbs ≤ B) (hB : B < 2 ^ 190) : i.natAbs.log2 < 190 := by
  by_cases z : i.natAbs = 0
  · rw [z]; decide
  · exact (Nat.log2_lt z).mpr (Nat.lt_of_le_of_lt h hB)
mutual
theorem gd_show {B : Nat} (hB : B < 2 ^ 190) : ∀ {d : PyData}, gd B d = true → d.showable = true ∧ d.leavesShort 200 = true
  | .none, _ => ⟨rfl, rfl⟩
  | .bool _, _ => ⟨rfl, rfl⟩
  | .int i, e => by
    have l := small_log (of_decide_eq_true e) hB
    refine ⟨decide_eq_true (Nat.lt_trans l (by decide)), decide_eq_true ?_⟩
    have := PySem.int_text_length_le (a := i) (k := 190) (by decide) l
    show (Str.ofString (toString i)).length ≤ 200
    rw [str_len]
    omega
  | .str x, e => by
    refine ⟨rfl, ?_⟩
    show (x.cps.toList.all fun c => decide (c < 16 ^ 8)) = true
    refine List.all_eq_true.mpr fun c hc => decide_eq_true (Nat.lt_trans (of_decide_eq_true (List.all_eq_true.mp e c hc)) (by decide))
  | .list _, e => gds_show hB e
  | .tuple _, e => gds_show hB e
  | .dict [], _ => ⟨rfl, rfl⟩
  | .dict (_ :: _), e => by cases e
theorem gds_show {B : Nat} (hB : B < 2 ^ 190) : ∀ {l : List PyData}, gds B l = true → PyData.showableAll l = true ∧ PyData.leavesShortAll 200 l = true
  | [], _ => ⟨rfl, rfl⟩
  | _ :: _, e => by
    have e' := Bool.and_eq_true_iff.mp e
    have a := gd_show hB e'.1
    have b := gds_show hB e'.2
    exact ⟨Bool.and_eq_true_iff.mpr ⟨a.1, b.1⟩, Bool.and_eq_true_iff.mpr ⟨a.2, b.2⟩⟩
end
def Fit (B n m : Nat) (d : PyData) : Prop := gd B d = true ∧ d.weight ≤ n ∧ d.depth ≤ m
def FitL (B n m : Nat) (ds : List PyData) : Prop := gds B ds = true ∧ PyData.weightAll ds ≤ n ∧ PyData.depthAll ds ≤ m
theorem Fit.mono {B n m B' n' m' : Nat} {d : PyData} (h : Fit B n m d) (a : B ≤ B') (b : n ≤ n') (c : m ≤ m') : Fit B' n' m' d := ⟨gd_mono a h.1, Nat.le_trans h.2.1 b, Nat.le_trans h.2.2 c⟩
theorem Fit.tup {B n m : Nat} {ds : List PyData} (h : FitL B n m ds) : Fit B n (m + 1) (.tuple ds) := ⟨h.1, h.2.1, Nat.succ_le_succ h.2.2⟩
theorem Fit.lst {B n m : Nat} {ds : List PyData} (h : FitL B n m ds) : Fit B n (m + 1) (.list ds) := ⟨h.1, h.2.1, Nat.succ_le_succ h.2.2⟩
theorem Fit.inv {B n m : Nat} {ds : List PyData} (h : Fit B n (m + 1) (.tuple ds)) : FitL B n m ds := ⟨h.1, h.2.1, Nat.le_of_succ_le_succ h.2.2⟩
theorem Fit.fine {B n m : Nat} {d : PyData} (h : Fit B n m d) (hB : B < 2 ^ 190) (hn : n ≤ 50000) (hm : m ≤ 50) : d.showable = true ∧ d.shown.length ≤ sizeLine ∧ d.depth ≤ 50 := by
  have s := gd_show hB h.1
  exact ⟨s.1, fine_fits (n := n) (m := m) (fine_iff.mpr ⟨s.1, s.2, h.2.1, h.2.2⟩) hn, Nat.le_trans h.2.2 hm⟩
theorem weight_app : ∀ a b : List PyData, PyData.weightAll (a ++ b) = PyData.weightAll a + PyData.weightAll b
  | [], b => (Nat.zero_add _).symm
  | x :: r, b => by
    show x.weight + 1 + PyData.weightAll (r ++ b) = x.weight + 1 + PyData.weightAll r + PyData.weightAll b
    rw [weight_app r b]
    omega
theorem depth_app : ∀ a b : List PyData, PyData.depthAll (a ++ b) = max (PyData.depthAll a) (PyData.depthAll b)
  | [], b => (Nat.zero_max _).symm
  | x :: r, b => by
    show max x.depth (PyData.depthAll (r ++ b)) = max (max x.depth (PyData.depthAll r)) (PyData.depthAll b)
    rw [depth_app r b, Nat.max_assoc]
theorem FitL.app {B n n' m : Nat} {a b : List PyData} (h : FitL B n m a) (g : FitL B n' m b) : FitL B (n + n') m (a ++ b) := by
  refine ⟨gds_iff.mpr fun x hx => ?_, ?_, ?_⟩
  · rcases List.mem_append.mp hx with z | z
    · exact gds_iff.mp h.1 x z
    · exact gds_iff.mp g.1 x z
  · rw [weight_app]
    exact Nat.add_le_add h.2.1 g.2.1
  · rw [depth_app]
    exact Nat.max_le.mpr ⟨h.2.2, g.2.2⟩
theorem FitL.parts {B n m : Nat} {a b : List PyData} (h : FitL B n m (a ++ b)) : FitL B n m a ∧ FitL B n m b := by
  obtain ⟨h1, h2, h3⟩ := h
  rw [weight_app] at h2
  rw [depth_app] at h3
  exact ⟨⟨gds_iff.mpr fun x hx => gds_iff.mp h1 x (List.mem_append_left _ hx), by omega, by omega⟩, ⟨gds_iff.mpr fun x hx => gds_iff.mp h1 x (List.mem_append_right _ hx), by omega, by omega⟩⟩
theorem FitL.take {B n m : Nat} {a : List PyData} (h : FitL B n m a) (k : Nat) : FitL B n m (a.take k) := by
  rw [← List.take_append_drop k a] at h
  exact h.parts.1
theorem FitL.drop {B n m : Nat} {a : List PyData} (h : FitL B n m a) (k : Nat) : FitL B n m (a.drop k) := by
  rw [← List.take_append_drop k a] at h
  exact h.parts.2
theorem FitL.one {B n m : Nat} {d : PyData} (h : Fit B n m d) : FitL B (n + 1) m [d] := by
  refine ⟨gds_iff.mpr fun x hx => by rw [List.mem_singleton.mp hx]; exact h.1, ?_, ?_⟩
  · show d.weight + 1 + 0 ≤ n + 1
    have := h.2.1
    omega
  · show max d.depth 0 ≤ m
    have := h.2.2
    omega
theorem FitL.get {B n m : Nat} {ds : List PyData} (h : FitL B n m ds) {j : Nat} {d : PyData} (e : ds[j]? = some d) : Fit B n m d := by
  have s : ds = ds.take j ++ [d] ++ ds.drop (j + 1) := by
    obtain ⟨hl, e'⟩ := List.getElem?_eq_some_iff.mp e
    rw [← e', List.append_assoc, List.singleton_append, List.getElem_cons_drop, List.take_append_drop]
  rw [s] at h
  obtain ⟨h1, h2, h3⟩ := h.parts.1.parts.2
  refine ⟨gds_iff.mp h1 d (List.mem_singleton.mpr rfl), ?_, ?_⟩
  · have : d.weight + 1 + 0 ≤ n := h2
    omega
  · have : max d.depth 0 ≤ m := h3
    omega
theorem weight_rev (a : List PyData) : PyData.weightAll a.reverse = PyData.weightAll a := by
  induction a with
  | nil => rfl
  | cons x r ih =>
    rw [List.reverse_cons, weight_app, ih]
    show PyData.weightAll r + (x.weight + 1 + 0) = x.weight + 1 + PyData.weightAll r
    omega
theorem depth_rev (a : List PyData) : PyData.depthAll a.reverse = PyData.depthAll a := by
  induction a with
  | nil => rfl
  | cons x r ih =>
    rw [List.reverse_cons, depth_app, ih]
    show max (PyData.depthAll r) (max x.depth 0) = max x.depth (PyData.depthAll r)
    omega
theorem FitL.rev {B n m : Nat} {a : List PyData} (h : FitL B n m a) : FitL B n m a.reverse :=
  ⟨gds_iff.mpr fun x hx => gds_iff.mp h.1 x (List.mem_reverse.mp hx), by rw [weight_rev]; exact h.2.1, by rw [depth_rev]; exact h.2.2⟩
theorem ShAll.rev {H : Hp} : ∀ {xs : List V} {ds : List PyData}, ShAll H xs ds → ShAll H xs.reverse ds.reverse
  | _, _, .nil => .nil
  | _, _, .cons a r => by
    rw [List.reverse_cons, List.reverse_cons]
    exact (ShAll.rev r).append (.cons a .nil)

section
variable {P : Program} {w : World} {K : PySem.W.Frag} {mg : Str → Option Value} {base : Heap}
/-! ### forms, as data: what is one -/
def wIn : Str := Str.ofString "in"
def wNot : Str := Str.ofString "not"
def wAnd : Str := Str.ofString "and"
def wOr : Str := Str.ofString "or"
def wOne : Str := Str.ofString "one"
def wNou : Str := Str.ofString "nought"
def wireD (w : Int) : PyData → Bool
  | .int i => decide (0 ≤ i) && decide (i < w)
  | _ => false
def stillD (d : PyData) : Bool := sB wOne d || sB wNou d
def restD : PyData → Bool
  | .tuple ps => decide (2 ≤ ps.length) && decide (ps.length ≤ 4)
  | _ => false
def outP (m : Int) (h r : PyData) : Bool := if sB wIn h = true then wireD m r else if (sB wAnd h || sB wOr h) = true then restD r else sB wNot h
def outD (m : Int) : PyData → Bool
  | .tuple ds => (match ds with
    | [x] => stillD x
    | [h, r] => outP m h r
    | _ => false)
  | _ => false
def partsD : PyData → List PyData
  | .tuple ps => ps
  | _ => []
def inP (h r : PyData) : List PyData := if sB wNot h = true then [r] else if (sB wAnd h || sB wOr h) = true then partsD r else []
def inD : PyData → List PyData
  | .tuple ds => (match ds with
    | [h, r] => inP h r
    | _ => [])
  | _ => []
theorem parts_weight (r : PyData) : PyData.weightAll (partsD r) ≤ r.weight := by
  cases r <;> first | exact Nat.le_refl _ | exact Nat.zero_le _
theorem inD_weight (d : PyData) : PyData.weightAll (inD d) ≤ d.weight := by
  match d with
  | .tuple [h, r] =>
    show PyData.weightAll (inP h r) ≤ h.weight + 1 + (r.weight + 1 + 0)
    unfold inP
    split
    · show r.weight + 1 + 0 ≤ _
      omega
    · split
      · have := parts_weight r
        omega
      · exact Nat.zero_le _
  | .tuple [] => exact Nat.zero_le _
  | .tuple [_] => exact Nat.zero_le _
  | .tuple (_ :: _ :: _ :: _) => exact Nat.zero_le _
  | .none => exact Nat.zero_le _
  | .bool _ => exact Nat.zero_le _
  | .int _ => exact Nat.zero_le _
  | .str _ => exact Nat.zero_le _
  | .list _ => exact Nat.zero_le _
  | .dict _ => exact Nat.zero_le _
theorem mem_weight : ∀ {l : List PyData} {x : PyData}, x ∈ l → x.weight + 1 ≤ PyData.weightAll l
  | y :: r, x, h => by
    show _ ≤ y.weight + 1 + PyData.weightAll r
    rcases List.mem_cons.mp h with e | e
    · rw [e]; omega
    · have := mem_weight e
      omega
def isF (m : Int) (d : PyData) : Bool := outD m d && ((inD d).attach.all fun x => isF m x.1)
termination_by d.weight
decreasing_by
  have h1 := mem_weight x.2
  have h2 := inD_weight d
  omega
theorem isF_eq (m : Int) (d : PyData) : isF m d = (outD m d && (inD d).all (isF m)) := by
  rw [isF]
  congr 1
  rw [← List.attach_map_subtype_val (inD d), List.all_map]
  simp
theorem isF_out {m : Int} {d : PyData} (h : outD m d = false) : isF m d = false := by rw [isF_eq, h]; rfl
theorem isF_in {m : Int} {d : PyData} (h : outD m d = true) : isF m d = (inD d).all (isF m) := by rw [isF_eq, h]; rfl

end
end Gk

set_option Elab.async false
set_option linter.all false
set_option maxRecDepth 100000
set_option maxHeartbeats 1000000
set_option pp.maxSteps 1500
set_option pp.deepTerms false
namespace Gk
open PySem PySem.Spec PyProof.Rows L2
/-! ### d.get(key), d a module's dict -/
namespace KdG
open PySem PySem.W PySem.Calls PyProof.Rows L2
section
variable {X : Cx} {d : Addr} {es : Array DictEntry} {n : Nat} {o e : Expr} {apos cpos : Pos} {td ty : TE}
def tKGet (K : PySem.W.Frag) (d : Addr) (td ty : TE) : TE := fun σ H Q => td σ H fun x H1 => x = .ref d ∧ ty σ H1 fun y H2 => ∃ (z : Str) (r : Option Value) (v : V), y = .str z ∧ PySem.W.nsIn K d z = some r ∧ RelV v (r.getD .none) ∧ Q v H2
theorem pe_kget (D : KDict X.K X.w d es n) (ho : PE X o td) (he : PE X e ty) (m : M1 X o "get" apos e cpos) : PE X (.Call (.Attribute o "get" apos) [e] [] cpos) (tKGet X.K d td ty) := by
  refine ⟨fun pins s σ H Q I h => ?_⟩
  refine wpAny_Call_method m.base m.few m.line PySem.F.plainAttrs_dict PySem.F.slot_dict_get PySem.F.type_dict_get (thn (ho.run pins s σ H _ I h) fun u s1 ⟨x, H1, I1, rx, ex, q1⟩ => ?_)
  subst ex
  obtain rfl : u = Value.ref d := rx
  refine ⟨kd_type D I1, fun b q => ?_, ?_⟩
  · cases q
    exact ⟨_, I1.kIn _ _ D.at_, rfl⟩
  rw [m.trees]
  refine Calls.callWith_builtin rfl (Calls.evalArgs_plain (Calls.spliced_cons (thn (he.run pins s1 σ H1 _ I1 q1) fun iv s2 ⟨y, H2, I2, ry, z, r, v, ey, e1, rv, q2⟩ => Calls.spliced_nil ?_)))
  subst ey
  obtain ⟨t, rfl⟩ := ry
  refine call_meetsIn PySem.F.slot_dict_get (kd_type D I2) PySem.F.entry_dict_get (PySem.F.args_dict_get_2 _ _) (meets_dict_get (strKind X.prog X.w) d (PySem.strKind_is X.prog X.w z t) D.low) ⟨_, PySem.W.mapOf_K (prog := X.prog) I2.kIn D.at_ D.lit, v, H2, I2.tok _, ?_, q2⟩
  show RelV v ((findBy Value.isStrOf es z).getD .none)
  rw [PySem.W.find_K D.at_ e1]
  exact rv
end
end KdG

section
variable {P : Program} {w : World} {K : PySem.W.Frag} {mg : Str → Option Value} {base : Heap}
/-! ### forms -/
inductive Fm where
  | st (b : Bool)
  | inp (i : Nat)
  | no (f : Fm)
  | op (c : Bool) (fs : List Fm)
def wSt (b : Bool) : Str := if b = true then wOne else wNou
def wOp (c : Bool) : Str := if c = true then wAnd else wOr
mutual
def Fm.d : Fm → PyData
  | .st b => .tuple [.str (wSt b)]
  | .inp i => .tuple [.str wIn, .int i]
  | .no f => .tuple [.str wNot, f.d]
  | .op c fs => .tuple [.str (wOp c), .tuple (Fm.dl fs)]
def Fm.dl : List Fm → List PyData
  | [] => []
  | f :: r => f.d :: Fm.dl r
end
theorem Fm.dl_map : ∀ fs : List Fm, Fm.dl fs = fs.map Fm.d
  | [] => rfl
  | f :: r => by
    show f.d :: Fm.dl r = _
    rw [Fm.dl_map r]
    rfl
mutual
def Fm.ok (m : Nat) : Fm → Bool
  | .st _ => true
  | .inp i => decide (i < m)
  | .no f => f.ok m
  | .op _ fs => (decide (2 ≤ fs.length) && decide (fs.length ≤ 4)) && Fm.oks m fs
def Fm.oks (m : Nat) : List Fm → Bool
  | [] => true
  | f :: r => f.ok m && Fm.oks m r
end
mutual
def Fm.cnt : Fm → Nat
  | .st _ => 1
  | .inp _ => 1
  | .no f => 1 + f.cnt
  | .op _ fs => 1 + Fm.cnts fs
def Fm.cnts : List Fm → Nat
  | [] => 0
  | f :: r => f.cnt + Fm.cnts r
end
mutual
def Fm.lv : Fm → Nat
  | .st _ => 1
  | .inp _ => 1
  | .no f => f.lv
  | .op _ fs => Fm.lvs fs
def Fm.lvs : List Fm → Nat
  | [] => 0
  | f :: r => f.lv + Fm.lvs r
end
mutual
def Fm.dep : Fm → Nat
  | .st _ => 1
  | .inp _ => 1
  | .no f => f.dep + 1
  | .op _ fs => Fm.deps fs + 1
def Fm.deps : List Fm → Nat
  | [] => 0
  | f :: r => max f.dep (Fm.deps r)
end
def Fm.inner : Fm → List Fm
  | .no f => [f]
  | .op _ fs => fs
  | _ => []
theorem Fm.oks_mem {m : Nat} : ∀ {fs : List Fm}, Fm.oks m fs = true ↔ ∀ f ∈ fs, f.ok m = true
  | [] => ⟨(fun _ f h => by cases h), fun _ => rfl⟩
  | f :: r => by
    show (f.ok m && Fm.oks m r) = true ↔ _
    rw [Bool.and_eq_true, Fm.oks_mem (fs := r)]
    exact ⟨fun ⟨a, b⟩ x hx => (List.mem_cons.mp hx).elim (fun e => e ▸ a) (b x), fun h => ⟨h f List.mem_cons_self, fun x hx => h x (List.mem_cons_of_mem _ hx)⟩⟩
theorem Fm.deps_mem : ∀ {fs : List Fm} {f : Fm}, f ∈ fs → f.dep ≤ Fm.deps fs
  | g :: r, f, h => by
    show f.dep ≤ max g.dep (Fm.deps r)
    rcases List.mem_cons.mp h with e | e
    · rw [e]; exact Nat.le_max_left _ _
    · exact Nat.le_trans (Fm.deps_mem e) (Nat.le_max_right _ _)
theorem Fm.deps_le : ∀ {fs : List Fm} {k : Nat}, (∀ f ∈ fs, f.dep ≤ k) → Fm.deps fs ≤ k
  | [], _, _ => Nat.zero_le _
  | g :: r, k, h => Nat.max_le.mpr ⟨h g List.mem_cons_self, Fm.deps_le fun f hf => h f (List.mem_cons_of_mem _ hf)⟩
theorem Fm.inner_dep {f g : Fm} (h : g ∈ f.inner) : g.dep + 1 ≤ f.dep := by
  cases f with
  | st _ => cases h
  | inp _ => cases h
  | no f => rw [List.mem_singleton.mp h]; exact Nat.le_refl _
  | op c fs => exact Nat.succ_le_succ (Fm.deps_mem h)
theorem Fm.cnts_app : ∀ a b : List Fm, Fm.cnts (a ++ b) = Fm.cnts a + Fm.cnts b
  | [], b => (Nat.zero_add _).symm
  | f :: r, b => by
    show f.cnt + Fm.cnts (r ++ b) = f.cnt + Fm.cnts r + Fm.cnts b
    rw [Fm.cnts_app r b]
    omega
theorem Fm.lvs_app : ∀ a b : List Fm, Fm.lvs (a ++ b) = Fm.lvs a + Fm.lvs b
  | [], b => (Nat.zero_add _).symm
  | f :: r, b => by
    show f.lv + Fm.lvs (r ++ b) = f.lv + Fm.lvs r + Fm.lvs b
    rw [Fm.lvs_app r b]
    omega
theorem Fm.cnt_eq (f : Fm) : f.cnt = 1 + Fm.cnts f.inner := by
  cases f with
  | st _ => rfl
  | inp _ => rfl
  | no f => show 1 + f.cnt = 1 + (f.cnt + 0); omega
  | op c fs => rfl
mutual
theorem Fm.cnt_pos : ∀ f : Fm, 1 ≤ f.cnt
  | .st _ => Nat.le_refl _
  | .inp _ => Nat.le_refl _
  | .no f => by show 1 ≤ 1 + f.cnt; omega
  | .op _ fs => by show 1 ≤ 1 + Fm.cnts fs; omega
end
theorem w_head (z : Str) : ∀ x : Str, (sB z (.str x) = true) = (x = z) := fun x => by
  show (decide (x = z) = true) = _
  simp
theorem heads (c : Bool) : sB wIn (.str (wOp c)) = false ∧ sB wNot (.str (wOp c)) = false ∧ (sB wAnd (.str (wOp c)) || sB wOr (.str (wOp c))) = true := by
  cases c <;> decide +kernel
theorem headsN : sB wIn (.str wNot) = false ∧ sB wNot (.str wNot) = true ∧ (sB wAnd (.str wNot) || sB wOr (.str wNot)) = false := by decide +kernel
theorem headsI : sB wIn (.str wIn) = true ∧ sB wNot (.str wIn) = false ∧ (sB wAnd (.str wIn) || sB wOr (.str wIn)) = false := by decide +kernel
theorem headsS (b : Bool) : sB wIn (.str (wSt b)) = false ∧ sB wNot (.str (wSt b)) = false ∧ (sB wAnd (.str (wSt b)) || sB wOr (.str (wSt b))) = false := by cases b <;> decide +kernel
mutual
theorem Fm.isF {m : Nat} : ∀ {f : Fm}, f.ok m = true → isF m f.d = true
  | .st b, _ => by
    rw [isF_eq]
    show (stillD (.str (wSt b)) && true) = true
    cases b <;> decide +kernel
  | .inp i, h => by
    have h : i < m := of_decide_eq_true h
    rw [isF_eq]
    show (outP m (.str wIn) (.int i) && (inP (.str wIn) (.int i)).all (Gk.isF m)) = true
    unfold outP inP
    rw [if_pos headsI.1, headsI.2.1, if_neg (by decide), headsI.2.2, if_neg (by decide)]
    show ((decide (0 ≤ (i : Int)) && decide ((i : Int) < (m : Int))) && true) = true
    rw [decide_eq_true (by omega), decide_eq_true (by omega)]
    rfl
  | .no f, h => by
    have h : f.ok m = true := h
    rw [isF_eq]
    show (outP m (.str wNot) f.d && (inP (.str wNot) f.d).all (Gk.isF m)) = true
    unfold outP inP
    rw [if_pos headsN.2.1, headsN.1, if_neg (by decide), headsN.2.2, if_neg (by decide), headsN.2.1]
    show (true && (Gk.isF m f.d && true)) = true
    rw [Fm.isF h]
    rfl
  | .op c fs, h => by
    have h : ((decide (2 ≤ fs.length) && decide (fs.length ≤ 4)) && Fm.oks m fs) = true := h
    rw [Bool.and_eq_true] at h
    rw [isF_eq]
    show (outP m (.str (wOp c)) (.tuple (Fm.dl fs)) && (inP (.str (wOp c)) (.tuple (Fm.dl fs))).all (Gk.isF m)) = true
    unfold outP inP
    rw [(heads c).1, if_neg (by decide), (heads c).2.2, if_pos rfl, (heads c).2.1, if_neg (by decide), if_pos rfl]
    show ((decide (2 ≤ (Fm.dl fs).length) && decide ((Fm.dl fs).length ≤ 4)) && (Fm.dl fs).all (Gk.isF m)) = true
    have l : (Fm.dl fs).length = fs.length := by rw [Fm.dl_map, List.length_map]
    rw [l, h.1, Fm.isFs h.2]
    rfl
theorem Fm.isFs {m : Nat} : ∀ {fs : List Fm}, Fm.oks m fs = true → (Fm.dl fs).all (Gk.isF m) = true
  | [], _ => rfl
  | f :: r, h => by
    have h : (f.ok m && Fm.oks m r) = true := h
    rw [Bool.and_eq_true] at h
    show (Gk.isF m f.d && (Fm.dl r).all (Gk.isF m)) = true
    rw [Fm.isF h.1, Fm.isFs h.2]
    rfl
end
theorem w_len (c : Bool) : (wOp c).length ≤ 3 ∧ (wSt c).length ≤ 6 ∧ wIn.length = 2 ∧ wNot.length = 3 := by cases c <;> decide +kernel
theorem w_gd (c : Bool) : gd 100 (.str (wOp c)) = true ∧ gd 100 (.str (wSt c)) = true ∧ gd 100 (.str wIn) = true ∧ gd 100 (.str wNot) = true := by cases c <;> decide +kernel
mutual
theorem Fm.fit {m : Nat} (m6 : m ≤ 6) : ∀ {f : Fm}, f.ok m = true → gd 100 f.d = true ∧ f.d.weight + 1 ≤ 8 * f.cnt ∧ f.d.depth ≤ 2 * f.dep
  | .st b, _ => by cases b <;> decide +kernel
  | .inp i, h => by
    have h : i < m := of_decide_eq_true h
    have : i = 0 ∨ i = 1 ∨ i = 2 ∨ i = 3 ∨ i = 4 ∨ i = 5 := by omega
    rcases this with rfl | rfl | rfl | rfl | rfl | rfl <;> decide +kernel
  | .no f, h => by
    have h : f.ok m = true := h
    obtain ⟨a, b, c⟩ := Fm.fit m6 h
    refine ⟨?_, ?_, ?_⟩
    · show (gd 100 (.str wNot) && (gd 100 f.d && true)) = true
      rw [(w_gd true).2.2.2, a]
      rfl
    · show wNot.length + 1 + (f.d.weight + 1 + 0) + 1 ≤ 8 * (1 + f.cnt)
      have := (w_len true).2.2.2
      omega
    · show max 0 (max f.d.depth 0) + 1 ≤ 2 * (f.dep + 1)
      omega
  | .op c fs, h => by
    have h : ((decide (2 ≤ fs.length) && decide (fs.length ≤ 4)) && Fm.oks m fs) = true := h
    rw [Bool.and_eq_true] at h
    obtain ⟨a, b, e⟩ := Fm.fits m6 h.2
    refine ⟨?_, ?_, ?_⟩
    · show (gd 100 (.str (wOp c)) && (gds 100 (Fm.dl fs) && true)) = true
      rw [(w_gd c).1, a]
      rfl
    · show (wOp c).length + 1 + (PyData.weightAll (Fm.dl fs) + 1 + 0) + 1 ≤ 8 * (1 + Fm.cnts fs)
      have := (w_len c).1
      omega
    · show max 0 (max (PyData.depthAll (Fm.dl fs) + 1) 0) + 1 ≤ 2 * (Fm.deps fs + 1)
      omega
theorem Fm.fits {m : Nat} (m6 : m ≤ 6) : ∀ {fs : List Fm}, Fm.oks m fs = true → gds 100 (Fm.dl fs) = true ∧ PyData.weightAll (Fm.dl fs) ≤ 8 * Fm.cnts fs ∧ PyData.depthAll (Fm.dl fs) ≤ 2 * Fm.deps fs
  | [], _ => ⟨rfl, Nat.le_refl _, Nat.le_refl _⟩
  | f :: r, h => by
    have h : (f.ok m && Fm.oks m r) = true := h
    rw [Bool.and_eq_true] at h
    obtain ⟨a, b, c⟩ := Fm.fit m6 h.1
    obtain ⟨a2, b2, c2⟩ := Fm.fits m6 h.2
    refine ⟨?_, ?_, ?_⟩
    · show (gd 100 f.d && gds 100 (Fm.dl r)) = true
      rw [a, a2]
      rfl
    · show f.d.weight + 1 + PyData.weightAll (Fm.dl r) ≤ 8 * (f.cnt + Fm.cnts r)
      omega
    · show max f.d.depth (PyData.depthAll (Fm.dl r)) ≤ 2 * max f.dep (Fm.deps r)
      omega
end
mutual
theorem Fm.noL : ∀ f : Fm, noL f.d = true
  | .st _ => rfl
  | .inp _ => rfl
  | .no f => by
    show (true && (Gk.noL f.d && true)) = true
    rw [Fm.noL f]
    rfl
  | .op c fs => by
    show (true && (noLs (Fm.dl fs) && true)) = true
    rw [Fm.noLl fs]
    rfl
theorem Fm.noLl : ∀ fs : List Fm, noLs (Fm.dl fs) = true
  | [] => rfl
  | f :: r => by
    show (Gk.noL f.d && noLs (Fm.dl r)) = true
    rw [Fm.noL f, Fm.noLl r]
    rfl
end
theorem Fm.dep_pos (f : Fm) : 1 ≤ f.dep := by
  cases f with
  | st _ => exact Nat.le_refl _
  | inp _ => exact Nat.le_refl _
  | no f => exact Nat.succ_le_succ (Nat.zero_le _)
  | op c fs => exact Nat.succ_le_succ (Nat.zero_le _)
theorem Fm.inner_few {m : Nat} {f : Fm} (h : f.ok m = true) : f.inner.length ≤ 4 := by
  cases f with
  | st _ => exact Nat.zero_le _
  | inp _ => exact Nat.zero_le _
  | no f => show 1 ≤ 4; decide
  | op c fs =>
    have h : ((decide (2 ≤ fs.length) && decide (fs.length ≤ 4)) && Fm.oks m fs) = true := h
    rw [Bool.and_eq_true, Bool.and_eq_true (decide _)] at h
    exact of_decide_eq_true h.1.2
theorem Fm.inner_ok {m : Nat} {f g : Fm} (h : f.ok m = true) (hg : g ∈ f.inner) : g.ok m = true := by
  cases f with
  | st _ => cases hg
  | inp _ => cases hg
  | no f => rw [List.mem_singleton.mp hg]; exact h
  | op c fs =>
    have h : ((decide (2 ≤ fs.length) && decide (fs.length ≤ 4)) && Fm.oks m fs) = true := h
    rw [Bool.and_eq_true] at h
    exact Fm.oks_mem.mp h.2 g hg
theorem Fm.cnts_sum : ∀ fs : List Fm, (fs.map fun g => ((g.cnt : Nat) : Int)).sum = (Fm.cnts fs : Nat)
  | [] => rfl
  | f :: r => by
    rw [List.map_cons, List.sum_cons, Fm.cnts_sum r]
    show ((f.cnt : Nat) : Int) + (Fm.cnts r : Nat) = ((f.cnt + Fm.cnts r : Nat) : Int)
    push_cast
    rfl

theorem any_and_or (h : PyData) : ([wAnd, wOr].any fun z => sB z h) = (sB wAnd h || sB wOr h) := by
  show (sB wAnd h || (sB wOr h || false)) = _
  rw [Bool.or_false]
/-! ### forms on the heap -/
theorem Fm.tk_st {H : Hp} {v : V} {b : Bool} (h : Tk H v (Fm.st b).d) : ∃ a, v = .ref a ∧ H a = some (.tup [.str (wSt b)]) := by
  obtain ⟨a, xs, rfl, ha, t⟩ := Tk.tup_inv (ds := [.str (wSt b)]) h
  match xs, t with
  | [_], .cons (.str _) .nil => exact ⟨a, rfl, ha⟩
theorem Fm.tk_inp {H : Hp} {v : V} {i : Nat} (h : Tk H v (Fm.inp i).d) : ∃ a, v = .ref a ∧ H a = some (.tup [.str wIn, .int i]) := by
  obtain ⟨a, xs, rfl, ha, t⟩ := Tk.tup_inv (ds := [.str wIn, .int i]) h
  match xs, t with
  | [_, _], .cons (.str _) (.cons (.int _) .nil) => exact ⟨a, rfl, ha⟩
theorem Fm.tk_no {H : Hp} {v : V} {f : Fm} (h : Tk H v (Fm.no f).d) : ∃ a w, v = .ref a ∧ H a = some (.tup [.str wNot, w]) ∧ Tk H w f.d := by
  obtain ⟨a, xs, rfl, ha, t⟩ := Tk.tup_inv (ds := [.str wNot, f.d]) h
  match xs, t with
  | [_, w], .cons (.str _) (.cons tw .nil) => exact ⟨a, w, rfl, ha, tw⟩
theorem Fm.tk_op {H : Hp} {v : V} {c : Bool} {fs : List Fm} (h : Tk H v (Fm.op c fs).d) : ∃ a b ys, v = .ref a ∧ H a = some (.tup [.str (wOp c), .ref b]) ∧ H b = some (.tup ys) ∧ TkAll H ys (fs.map Fm.d) := by
  obtain ⟨a, xs, rfl, ha, t⟩ := Tk.tup_inv (ds := [.str (wOp c), .tuple (Fm.dl fs)]) h
  match xs, t with
  | [_, w], .cons (.str _) (.cons tw .nil) =>
    obtain ⟨b, ys, rfl, hb, ty⟩ := tw.tup_inv
    rw [Fm.dl_map] at ty
    exact ⟨a, b, ys, rfl, ha, hb, ty⟩

/-! ### what a form has within -/
def sp_inner_of (K : PySem.W.Frag) : Sp := fun vs H Q _ => ∃ (v : V) (f : Fm), vs = [v] ∧ Tk H v f.d ∧ ∀ H' a xs, Same H H' → H' a = some (.tup xs) → TkAll H' xs (f.inner.map Fm.d) → Q (.ref a) H'
theorem ok_inner_of (T : Tx w K mg) : FnOk P w K mg base CX0 1 T.f_inner_of T.fd_inner_of ["form"] (sp_inner_of K) := by
  refine T.F_inner_of.ok sc_inner_of (fun vs H Q E h => ?_) (fun cdv A outer s H vs Q E hr h => ?_)
  · obtain ⟨v, f, rfl, _⟩ := h
    rfl
  · obtain ⟨v, f, rfl, tk, q⟩ := h
    refine ⟨_, (pss_cons (ps_if (pt_cmpR op_eq (pe_ix ix_tup (pv 0) pe_int (fun _ _ => rfl)) pe_str (nomark _)) (pss_one (ps_ret (pe_tup (pa_cons (pe_ix ix_tup (pv 0) pe_int (fun _ _ => rfl)) pa_nil)))) pss_nil) (pss_one (ps_ret (pe_ifExp (pt_cmpR (EqS.op_inS (EqS.u1 hr.units)) (pe_ix ix_tup (pv 0) pe_int (fun _ _ => rfl)) (pe_tup (pa_cons pe_str (pa_cons pe_str pa_nil))) rfl) (pe_ix ix_tup (pv 0) pe_int (fun _ _ => rfl)) (pe_tup pa_nil))))), ?_⟩
    have key : (∃ a z r, v = .ref a ∧ H a = some (.tup (.str z :: r)) ∧ z ≠ wNot ∧ (sB wAnd (.str z) || sB wOr (.str z)) = false ∧ f.inner = []) ∨ (∃ g, f = .no g) ∨ ∃ c fs, f = .op c fs := by
      cases f with
      | st b =>
        obtain ⟨a, rfl, ha⟩ := Fm.tk_st tk
        exact .inl ⟨a, _, _, rfl, ha, by cases b <;> decide +kernel, (headsS b).2.2, rfl⟩
      | inp i =>
        obtain ⟨a, rfl, ha⟩ := Fm.tk_inp tk
        exact .inl ⟨a, _, _, rfl, ha, by decide +kernel, headsI.2.2, rfl⟩
      | no f => exact .inr (.inl ⟨f, rfl⟩)
      | op c fs => exact .inr (.inr ⟨c, fs, rfl⟩)
    rcases key with ⟨a, z, r, rfl, ha, n1, n2, fi⟩ | ⟨g, rfl⟩ | ⟨c, fs, rfl⟩
    · refine ⟨.ref a, rfl, a, _, ((0 : Nat) : Int), .str z, rfl, rfl, SqT.of ha, atI_nat rfl, rfl, _, rfl, ite2 (fun e => absurd (V.str.inj (of_decide_eq_true e)) n1) (fun _ => ?_)⟩
      refine ⟨.ref a, rfl, a, _, ((0 : Nat) : Int), .str z, rfl, rfl, SqT.of ha, atI_nat rfl, sl2, fun p np => ?_⟩
      have s1 := same_upd (o := HO.tup [V.str wAnd, V.str wOr]) np
      refine ⟨.str z, p, [wAnd, wOr], .str z, rfl, upd_same, _, rfl, ?_⟩
      rw [any_and_or, n2]
      exact iteF ⟨Nat.zero_le _, fun p2 np2 => q _ p2 [] (s1.trans (same_upd np2)) upd_same (by rw [fi]; exact .nil)⟩
    · obtain ⟨a, w', rfl, ha, tw⟩ := Fm.tk_no tk
      refine ⟨.ref a, rfl, a, _, 0, .str wNot, rfl, rfl, SqT.of ha, rfl, rfl, _, rfl, iteT ?_⟩
      refine ⟨.ref a, rfl, a, _, 1, w', rfl, rfl, SqT.of ha, rfl, sl1, fun p np => ?_⟩
      have s1 := same_upd (o := HO.tup [w']) np
      exact q _ p _ s1 upd_same (.cons (tw.same s1) .nil)
    · obtain ⟨a, b, ys, rfl, ha, hb, ty⟩ := Fm.tk_op tk
      refine ⟨.ref a, rfl, a, _, 0, .str (wOp c), rfl, rfl, SqT.of ha, rfl, rfl, _, rfl, ite2 (fun e => absurd (V.str.inj (of_decide_eq_true e)) (by cases c <;> decide +kernel)) (fun _ => ?_)⟩
      refine ⟨.ref a, rfl, a, _, 0, .str (wOp c), rfl, rfl, SqT.of ha, rfl, sl2, fun p np => ?_⟩
      have s1 := same_upd (o := HO.tup [V.str wAnd, V.str wOr]) np
      refine ⟨.str (wOp c), p, [wAnd, wOr], .str _, rfl, upd_same, _, rfl, ?_⟩
      rw [any_and_or, (heads c).2.2]
      exact iteT ⟨.ref a, rfl, a, _, 1, .ref b, rfl, rfl, SqT.of (s1 _ _ ha), rfl, q _ b ys s1 (s1 _ _ hb) (ty.same s1)⟩

end
end Gk

set_option Elab.async false
set_option linter.all false
set_option maxRecDepth 100000
set_option maxHeartbeats 1000000
set_option pp.maxSteps 1500
set_option pp.deepTerms false
namespace Gk
open PySem PySem.Spec PyProof.Rows L2
section
variable {P : Program} {w : World} {K : PySem.W.Frag} {mg : Str → Option Value} {base : Heap}
/-! ### the law's forms -/
def sp_l_inner (K : PySem.W.Frag) : Sp := fun vs H Q _ => ∃ (v : V) (f : Fm), vs = [v] ∧ Tk H v f.d ∧ ∀ H' a xs, Same H H' → H' a = some (.tup xs) → TkAll H' xs (f.inner.map Fm.d) → Q (.ref a) H'
theorem ok_inner (T : Tx w K mg) : FnOk P w K mg base CX0 1 T.f_inner T.fd_inner ["_law_form_here"] (sp_l_inner K) := by
  refine T.F_inner.ok sc_inner (fun vs H Q E h => ?_) (fun cdv A outer s H vs Q E hr h => ?_)
  · obtain ⟨v, f, rfl, _⟩ := h
    rfl
  · obtain ⟨v, f, rfl, tk, q⟩ := h
    refine ⟨_, (pss_cons (ps_if (pt_cmpR op_eq (pe_ix ix_tup (pv 0) pe_int (fun _ _ => rfl)) pe_str (nomark _)) (pss_one (ps_ret (pe_slice sl_tupA (pv 0) (po_some pe_int) po_none))) pss_nil) (pss_cons (ps_if (pt_cmpR (EqS.op_inS (EqS.u1 hr.units)) (pe_ix ix_tup (pv 0) pe_int (fun _ _ => rfl)) (pe_tup (pa_cons pe_str (pa_cons pe_str pa_nil))) rfl) (pss_one (ps_ret (pe_ix ix_tup (pv 0) pe_int (fun _ _ => rfl)))) pss_nil) (pss_one (ps_ret (pe_tup pa_nil))))), ?_⟩
    have key : (∃ a z r, v = .ref a ∧ H a = some (.tup (.str z :: r)) ∧ z ≠ wNot ∧ (sB wAnd (.str z) || sB wOr (.str z)) = false ∧ f.inner = []) ∨ (∃ g, f = .no g) ∨ ∃ c fs, f = .op c fs := by
      cases f with
      | st b =>
        obtain ⟨a, rfl, ha⟩ := Fm.tk_st tk
        exact .inl ⟨a, _, _, rfl, ha, by cases b <;> decide +kernel, (headsS b).2.2, rfl⟩
      | inp i =>
        obtain ⟨a, rfl, ha⟩ := Fm.tk_inp tk
        exact .inl ⟨a, _, _, rfl, ha, by decide +kernel, headsI.2.2, rfl⟩
      | no f => exact .inr (.inl ⟨f, rfl⟩)
      | op c fs => exact .inr (.inr ⟨c, fs, rfl⟩)
    rcases key with ⟨a, z, r, rfl, ha, n1, n2, fi⟩ | ⟨g, rfl⟩ | ⟨c, fs, rfl⟩
    · refine ⟨.ref a, rfl, a, _, ((0 : Nat) : Int), .str z, rfl, rfl, SqT.of ha, atI_nat rfl, rfl, _, rfl, ite2 (fun e => absurd (V.str.inj (of_decide_eq_true e)) n1) (fun _ => ?_)⟩
      refine ⟨.ref a, rfl, a, _, ((0 : Nat) : Int), .str z, rfl, rfl, SqT.of ha, atI_nat rfl, sl2, fun p np => ?_⟩
      have s1 := same_upd (o := HO.tup [V.str wAnd, V.str wOr]) np
      refine ⟨.str z, p, [wAnd, wOr], .str z, rfl, upd_same, _, rfl, ?_⟩
      rw [any_and_or, n2]
      exact iteF ⟨Nat.zero_le _, fun p2 np2 => q _ p2 [] (s1.trans (same_upd np2)) upd_same (by rw [fi]; exact .nil)⟩
    · obtain ⟨a, w', rfl, ha, tw⟩ := Fm.tk_no tk
      refine ⟨.ref a, rfl, a, _, 0, .str wNot, rfl, rfl, SqT.of ha, rfl, rfl, _, rfl, iteT ?_⟩
      refine ⟨.ref a, rfl, _, rfl, slAn ha fun p H1 s1 h1 => ?_⟩
      exact q H1 p _ s1 h1 (.cons (tw.same s1) .nil)
    · obtain ⟨a, b, ys, rfl, ha, hb, ty⟩ := Fm.tk_op tk
      refine ⟨.ref a, rfl, a, _, 0, .str (wOp c), rfl, rfl, SqT.of ha, rfl, rfl, _, rfl, ite2 (fun e => absurd (V.str.inj (of_decide_eq_true e)) (by cases c <;> decide +kernel)) (fun _ => ?_)⟩
      refine ⟨.ref a, rfl, a, _, 0, .str (wOp c), rfl, rfl, SqT.of ha, rfl, sl2, fun p np => ?_⟩
      have s1 := same_upd (o := HO.tup [V.str wAnd, V.str wOr]) np
      refine ⟨.str (wOp c), p, [wAnd, wOr], .str _, rfl, upd_same, _, rfl, ?_⟩
      rw [any_and_or, (heads c).2.2]
      exact iteT ⟨.ref a, rfl, a, _, 1, .ref b, rfl, rfl, SqT.of (s1 _ _ ha), rfl, q _ b ys s1 (s1 _ _ hb) (ty.same s1)⟩
/-- how many parts a form has, by its depth -/
def sp_count (K : PySem.W.Frag) (e : Nat) : Sp := fun vs H Q _ => ∃ (v : V) (f : Fm) (m : Nat), vs = [v] ∧ Tk H v f.d ∧ f.ok m = true ∧ f.dep ≤ e ∧ ∀ H', Same H H' → Q (.int (f.cnt : Nat)) H'
theorem ok_countE (T : Tx w K mg) : ∀ e : Nat, FnOk P w K mg base CX0 (e + 2) T.f_count T.fd_count ["_law_form_here"] (sp_count K e)
  | 0 => ⟨fun _ _ _ _ h => by obtain ⟨_, f, _, _, _, _, h, _⟩ := h; exact absurd h (by have := Fm.dep_pos f; omega), fun _ _ _ _ _ _ _ _ _ _ _ _ _ h => by obtain ⟨_, f, _, _, _, _, h, _⟩ := h; exact absurd h (by have := Fm.dep_pos f; omega)⟩
  | e + 1 => by
    have ih := ok_countE T e
    refine T.F_count.ok sc_count (fun vs H Q E h => ?_) (fun cdv A outer s H vs Q E hr h => ?_)
    · obtain ⟨v, f, m, rfl, _⟩ := h
      rfl
    · obtain ⟨v, f, m, rfl, tk, ok, de, q⟩ := h
      refine ⟨_, (pss_one (ps_ret (pe_op op_add pe_int (pe_callB (cr_sum rfl) (by rfl) T.m_sum (by decide +kernel) (pa_cons (pe_lc (own := [("_law_part", 1)]) (by rfl) sc_count.nd (pi_tup (pe_call (ok_inner T) (hr.mono (by omega)) (by rfl) T.g_inner T.F_inner.kp T.b_inner .nil pass0 (pa_cons (pv 0) pa_nil))) (blkOk_by (own := [("_law_part", 1)]) (N := ["_law_form_here", "_law_part"]) (sc := defScope s_count) (by decide +kernel)) (fun _ _ _ _ _ => (pg_name (i := 1) sc_count.nd rfl (by first | exact .inl rfl | exact .inr rfl))) (fun _ _ _ _ _ => pts_nil) (fun _ _ _ _ _ => (pe_call (ih) (hr.mono (by omega)) (by rfl) T.g_count T.F_count.kp T.b_count .nil pass0 (pa_cons (pv 1) pa_nil)))) pa_nil))))), ?_⟩
      refine ⟨v, rfl, v, f, rfl, tk, fun H1 a xs s1 ha txs => ⟨a, rfl, ⟨_, SqT.of ha⟩, fun D nD => ?_⟩⟩
      have lxs : xs.length = f.inner.length := by rw [txs.length, List.length_map]
      have few : f.inner.length ≤ 4 := Fm.inner_few ok
      refine lc_tup (K := K) (a := a) (xs := xs) (fun i H' => Same H1 (hd1 D H') ∧ H' D = some (.lst (((f.inner.take i).map fun g => ((g.cnt : Nat) : Int)).map V.int))) ⟨hd1_of (same_upd nD) nD, upd_same⟩ (fun i H' _ z => SqT.of (hd1_le _ _ (z.1 _ _ ha))) ?_ ?_
      · rintro i u H2 hu ⟨s2, hD⟩
        obtain ⟨g, hg, tg⟩ := txs.at hu
        have gm := List.mem_of_getElem? hg
        have k2 : Same H1 H2 := fun b o z => hd1_le _ _ (s2 b o z)
        have il := (List.getElem?_eq_some_iff.mp hg).1
        refine ⟨rfl, u, rfl, u, g, m, rfl, tg.same k2, Fm.inner_ok ok gm, by have := Fm.inner_dep gm; omega, fun H3 s3 => ⟨_, s3 _ _ hD, ?_, (s2.trans (hd1_same s3)).trans hd1_upd, ?_⟩⟩
        · rw [List.length_map, List.length_map, List.length_take]
          exact Nat.lt_of_le_of_lt (show min i f.inner.length ≤ 4 by omega) (by decide)
        · rw [upd_same, List.take_add_one, hg, List.map_append, List.map_append]
          rfl
      · rintro H2 ⟨s2, hD⟩
        rw [lxs, List.take_length] at hD
        have k2 : Same H1 H2 := fun b o z => hd1_le _ _ (s2 b o z)
        refine ⟨D, _, rfl, SqL.of hD, _, _, rfl, rfl, ?_⟩
        have e1 : (f.inner.map fun g => ((g.cnt : Nat) : Int)).sum = (Fm.cnts f.inner : Nat) := Fm.cnts_sum _
        rw [e1]
        have q := q H2 (s1.trans k2)
        rw [Fm.cnt_eq f] at q
        have e2 : ((1 + Fm.cnts f.inner : Nat) : Int) = 1 + (Fm.cnts f.inner : Nat) := by push_cast; rfl
        rw [e2] at q
        exact q

end
end Gk

set_option Elab.async false
set_option linter.all false
set_option maxRecDepth 100000
set_option maxHeartbeats 1000000
set_option pp.maxSteps 1500
set_option pp.deepTerms false
namespace Gk
open PySem PySem.Spec PyProof.Rows L2
section
variable {P : Program} {w : World} {K : PySem.W.Frag} {mg : Str → Option Value} {base : Heap}
/-! ### forms drawn -/
def Kp3 (a b c : Addr) (H H' : Hp) : Prop := ∀ x o, x ≠ a → x ≠ b → x ≠ c → H x = some o → H' x = some o
theorem Kp3.refl {a b c : Addr} {H : Hp} : Kp3 a b c H H := fun _ _ _ _ _ e => e
theorem Kp3.trans {a b c : Addr} {H H1 H2 : Hp} (s : Kp3 a b c H H1) (t : Kp3 a b c H1 H2) : Kp3 a b c H H2 := fun x o h1 h2 h3 e => t x o h1 h2 h3 (s x o h1 h2 h3 e)
theorem Kp3.fr {a b c : Addr} {H H' : Hp} (f : Fr a b H H') : Kp3 a b c H H' := fun x o h1 h2 _ e => f x o h1 h2 e
theorem Kp3.of {a b c : Addr} {H H' : Hp} (s : Same H H') : Kp3 a b c H H' := fun x o _ _ _ e => s x o e
theorem Kp3.ts {d l L : Addr} {n : Int} {b : V} {H H' : Hp} (k : Kp3 d l L H H') (D : DeckC H d l n) (hL : H L = some (.lst [b])) : Ts H H' := fun x xs e => by
  obtain ⟨_, cs, y, z, h1, h2, _⟩ := D
  exact k x _ (ne_of e h1 (by intro z; cases z)) (ne_of e h2 (by intro z; cases z)) (ne_of e hL (by intro z; cases z)) e
theorem Kp3.add {d l L : Addr} {H H' : Hp} {p : Addr} {o : HO} (k : Kp3 d l L H H') (n : H p = none) : Kp3 d l L H (upd H' p o) := fun x u h1 h2 h3 e => by
  rw [upd_ne (ne_of_none e n)]
  exact k x u h1 h2 h3 e
def sp_form (K : PySem.W.Frag) (e : Nat) : Sp := fun vs H Q _ => ∃ (d l L : Addr) (n : Int) (m : Nat) (b : Int), vs = [.ref d, .int (m : Nat), .int (e : Nat), .ref L] ∧ DeckC H d l n ∧ n + 40000 * (e + 1) ≤ 100000000 ∧ e ≤ 9 ∧ H L = some (.lst [.int b]) ∧ L ≠ d ∧ L ≠ l ∧ 1 ≤ m ∧ m ≤ 6 ∧ b ≤ 1000 ∧
  ∀ (v : V) (H' : Hp) (f : Fm), DeckC H' d l (n + 3 * ((e : Int) + 1) * (f.lv : Nat)) → Kp3 d l L H H' → H' L = some (.lst [.int (b - (f.lv : Nat))]) → Tk H' v f.d → f.ok m = true → f.dep ≤ e + 1 → 1 ≤ f.lv → (f.lv = 1 ∨ (f.lv : Int) ≤ b + 3 * e) → Q v H'
theorem never_okF {f : Addr} {fd : FuncData} {ps : List Str} : FnOk P w K mg base CX0 0 f fd ps (fun _ _ _ _ => False) := ⟨fun _ _ _ _ h => h.elim, fun _ _ _ _ _ _ _ _ _ _ _ _ _ h => h.elim⟩
theorem st_at {x : Int} (h0 : 7 < x) (h1 : x < 10) (u v : V) : ∃ b : Bool, atI [u, v] (x - 8) = some (if b = true then u else v) := by
  have : x = 8 ∨ x = 9 := by omega
  rcases this with rfl | rfl
  · exact ⟨true, rfl⟩
  · exact ⟨false, rfl⟩
theorem op_at {x : Int} (h0 : 0 ≤ x) (h1 : x < 2) : ∃ c : Bool, atI [V.str wAnd, V.str wOr] x = some (.str (wOp c)) := by
  have : x = 0 ∨ x = 1 := by omega
  rcases this with rfl | rfl
  · exact ⟨true, rfl⟩
  · exact ⟨false, rfl⟩
theorem num_at {x : Int} (h0 : 0 ≤ x) (h1 : x < 4) : ∃ c : Nat, atI [V.int 2, V.int 2, V.int 3, V.int 4] x = some (.int (c : Nat)) ∧ 2 ≤ c ∧ c ≤ 4 := by
  have : x = 0 ∨ x = 1 ∨ x = 2 ∨ x = 3 := by omega
  rcases this with rfl | rfl | rfl | rfl
  · exact ⟨2, rfl, by decide, by decide⟩
  · exact ⟨2, rfl, by decide, by decide⟩
  · exact ⟨3, rfl, by decide, by decide⟩
  · exact ⟨4, rfl, by decide, by decide⟩
theorem ok_formB (T : Tx w K mg) (e : Nat) (sub : Sp) (lvl : Nat) (hl : lvl + 3 ≤ e + 3) (ih : FnOk P w K mg base CX0 (lvl + 2) T.f_form T.fd_form ["_law_deck_here", "_law_many", "_law_deep", "_law_left"] sub) (hsub : ∀ k, e = k + 1 → ∀ vs H Q E, sp_form K k vs H Q E → sub vs H Q E) : FnOk P w K mg base CX0 (e + 3) T.f_form T.fd_form ["_law_deck_here", "_law_many", "_law_deep", "_law_left"] (sp_form K e) := by
  refine T.F_form.ok sc_form (fun vs H Q E h => ?_) (fun cdv A outer s H vs Q E hr h => ?_)
  · obtain ⟨d, l, L, n, m, b, rfl, _⟩ := h
    rfl
  · obtain ⟨d, l, L, n, m, b, rfl, D, hn, e9, hL, Ld, Ll, m1, m6, b1, q⟩ := h
    refine ⟨_, (pss_cons (ps_set (i := 4) sc_form.nd rfl (by first | exact .inl rfl | exact .inr rfl) (pe_call (ok_take T) (hr.mono (by omega)) (by rfl) T.g_take T.F_take.kp T.b_take .nil pass0 (pa_cons (pv 0) (pa_cons pe_int pa_nil)))) (pss_cons (ps_if (pt_cut (pw_or (pt_cmpR op_eq (pv 2) pe_int (nomark _)) (pw_or (pt_cmpR op_lt (pe_ix ix_list (pv 3) pe_int (fun _ _ => rfl)) pe_int (nomark _)) (pw_or1 (pt_cmpR op_lt (pv 4) pe_int (nomark _))))).pt) (pss_cons (ps_asg (pe_op op_sub (pe_ix ix_list (pv 3) pe_int (fun _ _ => rfl)) pe_int) (pg_sub (pv 3) pe_int set_list)) (pss_cons (ps_set (i := 5) sc_form.nd rfl (by first | exact .inl rfl | exact .inr rfl) (pe_call (ok_take T) (hr.mono (by omega)) (by rfl) T.g_take T.F_take.kp T.b_take .nil pass0 (pa_cons (pv 0) (pa_cons pe_int pa_nil)))) (pss_cons (ps_if (pt_cmpR op_gt (pv 5) pe_int (nomark _)) (pss_one (ps_ret (pe_ix ix_list (pe_lst (pa_cons (pe_tup (pa_cons pe_str pa_nil)) (pa_cons (pe_tup (pa_cons pe_str pa_nil)) pa_nil))) (pe_op op_sub (pv 5) pe_int) (fun _ _ => rfl)))) pss_nil) (pss_one (ps_ret (pe_tup (pa_cons pe_str (pa_cons (pe_call (ok_take T) (hr.mono (by omega)) (by rfl) T.g_take T.F_take.kp T.b_take .nil pass0 (pa_cons (pv 0) (pa_cons (pv 1) pa_nil))) pa_nil)))))))) pss_nil) (pss_cons (ps_if (pt_cmpR op_lt (pv 4) pe_int (nomark _)) (pss_one (ps_ret (pe_tup (pa_cons pe_str (pa_cons (pe_call (ih) (hr.mono (by omega)) (by rfl) T.g_form T.F_form.kp T.b_form .nil pass0 (pa_cons (pv 0) (pa_cons (pv 1) (pa_cons (pe_op op_sub (pv 2) pe_int) (pa_cons (pv 3) pa_nil))))) pa_nil))))) pss_nil) (pss_cons (ps_set (i := 6) sc_form.nd rfl (by first | exact .inl rfl | exact .inr rfl) (pe_ix ix_list (pe_lst (pa_cons pe_str (pa_cons pe_str pa_nil))) (pe_call (ok_take T) (hr.mono (by omega)) (by rfl) T.g_take T.F_take.kp T.b_take .nil pass0 (pa_cons (pv 0) (pa_cons pe_int pa_nil))) (fun _ _ => rfl))) (pss_cons (ps_set (i := 7) sc_form.nd rfl (by first | exact .inl rfl | exact .inr rfl) (pe_lst pa_nil)) (pss_cons (ps_for PassesOwn.never rfl (pi_range1 (by rfl) T.m_range (pa_cons (pe_ix ix_list (pe_lst (pa_cons pe_int (pa_cons pe_int (pa_cons pe_int (pa_cons pe_int pa_nil))))) (pe_call (ok_take T) (hr.mono (by omega)) (by rfl) T.g_take T.F_take.kp T.b_take .nil pass0 (pa_cons (pv 0) (pa_cons pe_int pa_nil))) (fun _ _ => rfl)) pa_nil)) (pg_name (i := 8) sc_form.nd rfl (by first | exact .inl rfl | exact .inr rfl)) (pss_one (ps_expr (pe_bm PySem.F.plainAttrs_list PySem.F.slot_list_append PySem.F.type_list_append mt_append (pv 7) (pa_cons (pe_call (ih) (hr.mono (by omega)) (by rfl) T.g_form T.F_form.kp T.b_form .nil pass0 (pa_cons (pv 0) (pa_cons (pv 1) (pa_cons (pe_op op_sub (pv 2) pe_int) (pa_cons (pv 3) pa_nil))))) pa_nil))))) (pss_one (ps_ret (pe_tup (pa_cons (pv 6) (pa_cons (pe_callTy call_tuple_of (by rfl) T.m_tuple (by decide +kernel) (pa_cons (pv 7) pa_nil)) pa_nil))))))))))), ?_⟩
    refine ⟨.ref d, rfl, d, l, 8, _, rfl, D, by omega, by decide, by decide, fun H1 way D1 fr1 w0 w1 => ?_⟩
    have hL1 := fr1 _ _ Ld Ll hL
    refine ⟨fun c H' => H' = H1 ∧ (c = false → e ≠ 0 ∧ 2 ≤ b), ?_, ?_⟩
    · refine ⟨.int (e : Nat), rfl, rfl, _, rfl, ite2 (fun _ => ⟨rfl, fun z => by cases z⟩) (fun ne => ?_)⟩
      have ne : e ≠ 0 := fun z => ne (by rw [z]; exact decide_eq_true rfl)
      refine ⟨.ref L, rfl, L, _, 0, .int b, rfl, rfl, SqL.of hL1, rfl, _, _, rfl, rfl, _, rfl, ite2 (fun _ => ⟨rfl, fun z => by cases z⟩) (fun nb => ?_)⟩
      have nb : ¬ b < 2 := fun z => nb (decide_eq_true z)
      exact ⟨.int way, rfl, _, _, rfl, rfl, _, rfl, rfl, fun _ => ⟨ne, by omega⟩⟩
    rintro c H2 ⟨h21, hc⟩
    have h21 := h21.symm
    subst h21
    cases c with
    | true =>
      refine iteT ?_
      refine ⟨.ref L, rfl, L, _, 0, .int b, rfl, rfl, SqL.of hL1, rfl, _, _, rfl, rfl, .ref L, rfl, L, _, _, 0, rfl, rfl, hL1, rfl, ?_⟩
      have D3 := D1.upd (p := L) (o := .lst [.int (b - 1)]) Ld Ll
      have k3 : Kp3 d l L H (upd H1 L (.lst [.int (b - 1)])) := (Kp3.fr fr1).trans fun x o _ _ h3 e => by
        rw [upd_ne h3]
        exact e
      have hL3 : upd H1 L (.lst [.int (b - 1)]) L = some (.lst [.int (b - 1)]) := upd_same
      show tSeq _ _ _ _ (upd H1 L (HO.lst [.int (b - 1)]))
      generalize upd H1 L (.lst [.int (b - 1)]) = H3 at D3 k3 hL3 ⊢
      have c1 : (1 : Int) ≤ 3 * ((e : Int) + 1) := by omega
      refine ⟨.ref d, rfl, d, l, 10, _, rfl, D3, by omega, by decide, by decide, fun H4 x D4 fr4 x0 x1 => ?_⟩
      have hL4 := fr4 _ _ Ld Ll hL3
      have k4 := k3.trans (Kp3.fr fr4)
      refine ⟨.int x, rfl, _, _, rfl, rfl, _, rfl, ite2 (fun x7 => ?_) (fun x7 => ?_)⟩
      · have x7 : 7 < x := of_decide_eq_true x7
        refine ⟨sl1, fun p1 np1 => ?_⟩
        have s5 := same_upd (o := (HO.tup [V.str (Str.ofString "one")])) np1
        have h5 : upd H4 p1 (HO.tup [V.str (Str.ofString "one")]) p1 = some (HO.tup [V.str (Str.ofString "one")]) := upd_same
        generalize upd H4 p1 (HO.tup [V.str (Str.ofString "one")]) = H5 at s5 h5 ⊢
        refine ⟨sl1, fun p2 np2 => ?_⟩
        have s6 := same_upd (o := (HO.tup [V.str (Str.ofString "nought")])) np2
        have h6 : upd H5 p2 (HO.tup [V.str (Str.ofString "nought")]) p2 = some (HO.tup [V.str (Str.ofString "nought")]) := upd_same
        generalize upd H5 p2 (HO.tup [V.str (Str.ofString "nought")]) = H6 at s6 h6 ⊢
        refine ⟨sl2, fun p3 np3 => ?_⟩
        have s7 := same_upd (o := (HO.lst [V.ref p1, V.ref p2])) np3
        have h7 : upd H6 p3 (HO.lst [V.ref p1, V.ref p2]) p3 = some (HO.lst [V.ref p1, V.ref p2]) := upd_same
        generalize upd H6 p3 (HO.lst [V.ref p1, V.ref p2]) = H7 at s7 h7 ⊢
        obtain ⟨sb, hsb⟩ := st_at x7 x1 (V.ref p1) (V.ref p2)
        have sA := s5.trans (s6.trans s7)
        refine ⟨.int x, rfl, _, _, rfl, rfl, p3, _, _, _, rfl, rfl, SqL.of h7, hsb, ?_⟩
        refine q _ H7 (.st sb) ((D4.same sA).mono (by show n + 1 + 1 ≤ n + 3 * ((e : Int) + 1) * 1; omega)) (k4.trans (Kp3.of sA)) (sA _ _ hL4) ?_ rfl (Nat.succ_le_succ (Nat.zero_le _)) (Nat.le_refl _) (.inl rfl)
        cases sb
        · exact .tup (s7 _ _ h6) (.cons (.str _) .nil)
        · exact .tup (s7 _ _ (s6 _ _ h5)) (.cons (.str _) .nil)
      · refine ⟨.ref d, rfl, .int (m : Nat), rfl, d, l, (m : Nat), _, rfl, D4, by omega, by omega, by omega, fun H5 i D5 fr5 i0 i1 => ?_⟩
        obtain ⟨i, rfl⟩ := Int.eq_ofNat_of_zero_le i0
        refine ⟨sl2, fun p np => ?_⟩
        have s6 := same_upd (o := HO.tup [V.str (Str.ofString "in"), V.int (i : Nat)]) np
        refine q _ _ (.inp i) ((D5.same s6).mono (by show n + 1 + 1 + 1 ≤ n + 3 * ((e : Int) + 1) * 1; omega)) ((k4.trans (Kp3.fr fr5)).trans (Kp3.of s6)) (s6 _ _ (fr5 _ _ Ld Ll hL4)) (.tup upd_same (.cons (.str _) (.cons (.int _) .nil))) (decide_eq_true (by omega)) (Nat.succ_le_succ (Nat.zero_le _)) (Nat.le_refl _) (.inl rfl)
    | false =>
      obtain ⟨ne, b2⟩ := hc rfl
      obtain ⟨k, rfl⟩ : ∃ k, e = k + 1 := ⟨e - 1, by omega⟩
      have e1 : (((k + 1 : Nat) : Int) - 1) = (k : Nat) := by omega
      have cc : 3 * (((k + 1 : Nat) : Int) + 1) = 3 * ((k : Int) + 1) + 3 := by omega
      rw [cc] at q
      refine iteF ?_
      refine ⟨.int way, rfl, _, _, rfl, rfl, _, rfl, ite2 (fun w4 => ?_) (fun w4 => ?_)⟩
      · refine ⟨.ref d, rfl, .int (m : Nat), rfl, .int ((k + 1 : Nat) : Int), rfl, _, _, rfl, rfl, .ref L, rfl, hsub k rfl _ _ _ _ ⟨d, l, L, _, m, b, (by show [V.ref d, V.int (m : Nat), V.int (((k + 1 : Nat) : Int) - 1), V.ref L] = _; rw [e1]), D1, by omega, by omega, hL1, Ld, Ll, m1, m6, b1, fun v H3 f D3 k3 hL3 tk ok de lp lb => ?_⟩⟩
        refine ⟨sl2, fun p np => ?_⟩
        have s4 := same_upd (o := HO.tup [V.str (Str.ofString "not"), v]) np
        have e2 : (3 * ((k : Int) + 1) + 3) * (f.lv : Nat) = 3 * ((k : Int) + 1) * (f.lv : Nat) + 3 * (f.lv : Nat) := Int.add_mul ..
        refine q _ _ (.no f) ((D3.same s4).mono (by show _ ≤ n + (3 * ((k : Int) + 1) + 3) * (f.lv : Nat); rw [e2]; omega)) (((Kp3.fr fr1).trans k3).trans (Kp3.of s4)) (s4 _ _ hL3) (.tup upd_same (.cons (.str _) (.cons (tk.same s4) .nil))) ok (Nat.succ_le_succ de) lp (by
          rcases lb with z | z
          · exact .inl z
          · exact .inr (by show (f.lv : Int) ≤ _; omega))
      · refine ⟨sl2, fun p np => ?_⟩
        have op := D1.off np
        have Lp : L ≠ p := ne_of_none hL1 np
        have s2 := same_upd (o := (HO.lst [V.str (Str.ofString "and"), V.str (Str.ofString "or")])) np
        have h2 : upd H1 p (HO.lst [V.str (Str.ofString "and"), V.str (Str.ofString "or")]) p = some (HO.lst [V.str (Str.ofString "and"), V.str (Str.ofString "or")]) := upd_same
        generalize upd H1 p (HO.lst [V.str (Str.ofString "and"), V.str (Str.ofString "or")]) = H2 at s2 h2 ⊢
        have D2 := D1.same s2
        refine ⟨.ref d, rfl, d, l, 2, _, rfl, D2, by omega, by decide, by decide, fun H3 x D3 fr3 x0 x1 => ?_⟩
        obtain ⟨cw, hcw⟩ := op_at x0 x1
        refine ⟨p, _, x, .str (wOp cw), rfl, rfl, SqL.of (fr3 _ _ op.1 op.2 h2), hcw, ?_⟩
        have hL3 := fr3 _ _ Ld Ll (s2 _ _ hL1)
        have k3 : Kp3 d l L H H3 := ((Kp3.fr fr1).trans (Kp3.of s2)).trans (Kp3.fr fr3)
        refine ⟨Nat.zero_le _, fun W nW => ?_⟩
        have oW := D3.off nW
        have LW : L ≠ W := ne_of_none hL3 nW
        have s4 := same_upd (o := (HO.lst [])) nW
        have hW : upd H3 W (HO.lst []) W = some (HO.lst []) := upd_same
        generalize upd H3 W (HO.lst []) = H4 at s4 hW ⊢
        have D4 := D3.same s4
        refine ⟨sl4, fun p5 np5 => ?_⟩
        have o5 := D4.off np5
        have s5 := same_upd (o := (HO.lst [V.int 2, V.int 2, V.int 3, V.int 4])) np5
        have h5 : upd H4 p5 (HO.lst [V.int 2, V.int 2, V.int 3, V.int 4]) p5 = some (HO.lst [V.int 2, V.int 2, V.int 3, V.int 4]) := upd_same
        generalize upd H4 p5 (HO.lst [V.int 2, V.int 2, V.int 3, V.int 4]) = H5 at s5 h5 ⊢
        have D5 := D4.same s5
        refine ⟨.ref d, rfl, d, l, 4, _, rfl, D5, by omega, by decide, by decide, fun H6 y D6 fr6 y0 y1 => ?_⟩
        obtain ⟨c, hcn, c2, c4⟩ := num_at y0 y1
        refine ⟨p5, _, y, .int (c : Nat), rfl, rfl, SqL.of (fr6 _ _ o5.1 o5.2 h5), hcn, c, rfl, by omega, by omega, ?_⟩
        have hW6 := fr6 _ _ oW.1 oW.2 (s5 _ _ hW)
        have hL6 := fr6 _ _ Ld Ll (s5 _ _ (s4 _ _ hL3))
        have k6 : Kp3 d l L H H6 := ((k3.trans (Kp3.of s4)).trans (Kp3.of s5)).trans (Kp3.fr fr6)
        have nW0 : H W = none := by
          cases z : H W with
          | none => rfl
          | some o =>
            have := k3 W o oW.1 oW.2 LW.symm z
            rw [nW] at this
            cases this
        refine for_range (lo := 0) (n := (c : Int).toNat) (fun i σ H' => ∃ y8 vs fs, σ = [some (.ref d), some (.int (m : Nat)), some (.int ((k + 1 : Nat) : Int)), some (.ref L), some (.int way), none, some (.str (wOp cw)), some (.ref W), y8] ∧ DeckC H' d l (n + 3 + 3 * ((k : Int) + 1) * (Fm.lvs fs : Nat)) ∧ Kp3 d l L H H' ∧ H' L = some (.lst [.int (b - (Fm.lvs fs : Nat))]) ∧ H' W = some (.lst vs) ∧ TkAll H' vs (fs.map Fm.d) ∧ fs.length = i ∧ Fm.oks m fs = true ∧ Fm.deps fs ≤ k + 1 ∧ i ≤ Fm.lvs fs ∧ (Fm.lvs fs : Int) ≤ b + 3 * (k : Int) + (i : Int) - 1)
          ⟨_, [], [], rfl, D6.mono (by show n + 1 + 1 + 1 ≤ n + 3 + 3 * ((k : Int) + 1) * ((0 : Nat) : Int); omega), k6, by show H6 L = some (.lst [.int (b - ((0 : Nat) : Int))]); rw [show b - ((0 : Nat) : Int) = b by omega]; exact hL6, hW6, .nil, rfl, rfl, Nat.zero_le _, Nat.le_refl _, by show ((0 : Nat) : Int) ≤ _; omega⟩ ?_ ?_
        · rintro i σ H7 hi ⟨y8, vs, fs, rfl, D7, k7, hL7, hW7, tv, lf, okf, df, ilv, lvb⟩
          have hi' : i < c := by omega
          have lvs : vs.length = i := by rw [tv.length, List.length_map, lf]
          have small : 3 * ((k : Int) + 1) * (Fm.lvs fs : Nat) ≤ 27 * 1050 := Int.mul_le_mul (by omega) (by omega) (by omega) (by decide)
          refine ⟨.ref W, rfl, .inl ⟨rfl, _, SqL.of hW7⟩, .ref d, rfl, .int (m : Nat), rfl, .int ((k + 1 : Nat) : Int), rfl, _, _, rfl, rfl, .ref L, rfl, hsub k rfl _ _ _ _ ⟨d, l, L, _, m, b - (Fm.lvs fs : Nat), (by show [V.ref d, V.int (m : Nat), V.int (((k + 1 : Nat) : Int) - 1), V.ref L] = _; rw [e1]), D7, by omega, by omega, hL7, Ld, Ll, m1, m6, by omega, fun v H8 f D8 k8 hL8 tk ok de lp lb => ?_⟩⟩
          have hW8 := k8 _ _ oW.1 oW.2 LW.symm hW7
          have ts8 := k8.ts D7 hL7
          have ts9 := Ts.set (ys := vs ++ [v]) hW8
          have la : Fm.lvs (fs ++ [f]) = Fm.lvs fs + f.lv := by rw [Fm.lvs_app]; rfl
          have e3 : 3 * ((k : Int) + 1) * ((Fm.lvs (fs ++ [f]) : Nat) : Int) = 3 * ((k : Int) + 1) * (Fm.lvs fs : Nat) + 3 * ((k : Int) + 1) * (f.lv : Nat) := by
            rw [la]
            push_cast
            rw [Int.mul_add]
          refine ⟨W, _, _, rfl, rfl, hW8, Nat.lt_of_lt_of_le (show vs.length < 64 by omega) (by decide), _, vs ++ [v], fs ++ [f], rfl, ?_, ?_, ?_, upd_same, ?_, by rw [List.length_append, lf]; rfl, ?_, ?_, ?_, ?_⟩
          · exact (D8.upd oW.1 oW.2).mono (by rw [e3]; omega)
          · exact fun x o h1 h2 h3 z => by
              rw [upd_ne (ne_of_none z nW0)]
              exact (k7.trans k8) x o h1 h2 h3 z
          · rw [upd_ne LW, hL8, la]
            congr 4
            push_cast
            omega
          · rw [List.map_append]
            exact ((tv.ts (ts8.trans ts9) (by rw [← Fm.dl_map]; exact Fm.noLl fs))).append (.cons (tk.ts ts9 (Fm.noL f)) .nil)
          · exact Fm.oks_mem.mpr fun g hg => by
              rcases List.mem_append.mp hg with z | z
              · exact Fm.oks_mem.mp okf g z
              · rw [List.mem_singleton.mp z]; exact ok
          · exact Fm.deps_le fun g hg => by
              rcases List.mem_append.mp hg with z | z
              · exact Nat.le_trans (Fm.deps_mem z) df
              · rw [List.mem_singleton.mp z]; exact de
          · rw [la]; omega
          · rw [la]
            push_cast
            rcases lb with z | z <;> omega
        · rintro σ H7 ⟨y8, vs, fs, rfl, D7, k7, hL7, hW7, tv, lf, okf, df, ilv, lvb⟩
          have ec : (c : Int).toNat = c := by omega
          rw [ec] at lf ilv lvb
          refine ⟨.str (wOp cw), rfl, .ref W, rfl, W, _, rfl, .inl ⟨SqL.of hW7, fun p8 np8 => ?_⟩⟩
          have s8 := same_upd (o := (HO.tup vs)) np8
          have h8 : upd H7 p8 (HO.tup vs) p8 = some (HO.tup vs) := upd_same
          generalize upd H7 p8 (HO.tup vs) = H8 at s8 h8 ⊢
          refine ⟨sl2, fun p9 np9 => ?_⟩
          have s9 := same_upd (o := HO.tup [V.str (wOp cw), V.ref p8]) np9
          have e2 : (3 * ((k : Int) + 1) + 3) * (Fm.lvs fs : Nat) = 3 * ((k : Int) + 1) * (Fm.lvs fs : Nat) + 3 * (Fm.lvs fs : Nat) := Int.add_mul ..
          refine q _ _ (.op cw fs) (((D7.same s8).same s9).mono (by show _ ≤ n + (3 * ((k : Int) + 1) + 3) * (Fm.lvs fs : Nat); rw [e2]; omega)) ((k7.trans (Kp3.of s8)).trans (Kp3.of s9)) (s9 _ _ (s8 _ _ hL7)) (.tup upd_same (.cons (.str _) (.cons (.tup (s9 _ _ h8) (by rw [Fm.dl_map]; exact tv.same (s8.trans s9))) .nil))) ?_ (Nat.succ_le_succ df) (by show 1 ≤ Fm.lvs fs; omega) (.inr (by show (Fm.lvs fs : Int) ≤ _; omega))
          show ((decide (2 ≤ fs.length) && decide (fs.length ≤ 4)) && Fm.oks m fs) = true
          rw [decide_eq_true (by omega), decide_eq_true (by omega), okf]
          rfl
theorem ok_formE (T : Tx w K mg) : ∀ e : Nat, FnOk P w K mg base CX0 (e + 3) T.f_form T.fd_form ["_law_deck_here", "_law_many", "_law_deep", "_law_left"] (sp_form K e)
  | 0 => ok_formB T 0 (fun _ _ _ _ => False) 0 (by omega) (never_okF.mono (by omega)) (fun k h => by cases h)
  | e + 1 => ok_formB T (e + 1) (sp_form K e) (e + 1) (by omega) (ok_formE T e) (fun k h vs H Q E z => by cases h; exact z)
def sp_formA (K : PySem.W.Frag) : Sp := fun vs H Q E => ∃ e ≤ 9, sp_form K e vs H Q E
theorem ok_form (T : Tx w K mg) : FnOk P w K mg base CX0 12 T.f_form T.fd_form ["_law_deck_here", "_law_many", "_law_deep", "_law_left"] (sp_formA K) :=
  ⟨fun vs H Q E ⟨e, _, h⟩ => (ok_formE (P := P) (base := base) T e).len vs H Q E h, fun A outer s H args us vs Q E hr e0 hb r ⟨e, he, h⟩ => (ok_formE (P := P) (base := base) T e).run A outer s H args us vs Q E (hr.mono (by omega)) e0 hb r h⟩

end
end Gk

set_option Elab.async false
set_option linter.all false
set_option maxRecDepth 100000
set_option maxHeartbeats 1000000
set_option pp.maxSteps 1500
set_option pp.deepTerms false
namespace Gk
open PySem PySem.Spec PyProof.Rows L2
section
variable {P : Program} {w : World} {K : PySem.W.Frag} {mg : Str → Option Value} {base : Heap}
/-! ### towers, some form -/
theorem third_at {k : Nat} {u w : V} : atI [u, w] (if decide (((k : Nat) : Int) > 0) = true then 1 else 0) = some (if 0 < k then w else u) := by
  by_cases z : 0 < k
  · rw [if_pos (decide_eq_true (by omega)), if_pos z]
    rfl
  · rw [if_neg (fun y => z (by have := of_decide_eq_true y; omega)), if_neg z]
    rfl
theorem five_at {x : Int} (h0 : 0 ≤ x) (h1 : x < 5) {P : V → Prop} {a b c d e : V} (ha : P a) (hb : P b) (hc : P c) (hd : P d) (he : P e) : ∃ v, atI ([a, b, c, d] ++ [e]) x = some v ∧ P v := by
  have : x = 0 ∨ x = 1 ∨ x = 2 ∨ x = 3 ∨ x = 4 := by omega
  rcases this with rfl | rfl | rfl | rfl | rfl
  · exact ⟨a, rfl, ha⟩
  · exact ⟨b, rfl, hb⟩
  · exact ⟨c, rfl, hc⟩
  · exact ⟨d, rfl, hd⟩
  · exact ⟨e, rfl, he⟩
/-- a form at v, of so many parts at most, so deep at most -/
def FmAt (H : Hp) (m c e : Nat) (v : V) : Prop := ∃ f : Fm, Tk H v f.d ∧ f.ok m = true ∧ f.cnt ≤ c ∧ f.dep ≤ e
theorem FmAt.same {H H' : Hp} {m c e : Nat} {v : V} (h : FmAt H m c e v) (s : Same H H') : FmAt H' m c e v := by
  obtain ⟨f, t, r⟩ := h
  exact ⟨f, t.same s, r⟩
theorem FmAt.ts {H H' : Hp} {m c e : Nat} {v : V} (h : FmAt H m c e v) (s : Ts H H') : FmAt H' m c e v := by
  obtain ⟨f, t, r⟩ := h
  exact ⟨f, t.ts s (Fm.noL f), r⟩
theorem FmAt.mono {H : Hp} {m c e c' e' : Nat} {v : V} (h : FmAt H m c e v) (a : c ≤ c') (b : e ≤ e') : FmAt H m c' e' v := by
  obtain ⟨f, t, o, h1, h2⟩ := h
  exact ⟨f, t, o, Nat.le_trans h1 a, Nat.le_trans h2 b⟩
theorem FmAt.inp {H : Hp} {m i : Nat} {a : Addr} (h : H a = some (.tup [.str (Str.ofString "in"), .int (i : Nat)])) (hi : i < m) : FmAt H m 1 1 (.ref a) :=
  ⟨.inp i, .tup h (.cons (.str _) (.cons (.int _) .nil)), decide_eq_true hi, Nat.le_refl _, Nat.le_refl _⟩
theorem FmAt.no {H : Hp} {m c e : Nat} {a : Addr} {v : V} (h : H a = some (.tup [.str (Str.ofString "not"), v])) (hv : FmAt H m c e v) : FmAt H m (1 + c) (e + 1) (.ref a) := by
  obtain ⟨f, t, o, h1, h2⟩ := hv
  exact ⟨.no f, .tup h (.cons (.str _) (.cons t .nil)), o, Nat.add_le_add_left h1 1, Nat.succ_le_succ h2⟩
theorem FmAt.op {H : Hp} {m : Nat} {a b : Addr} {vs : List V} {fs : List Fm} (c : Bool) (h : H a = some (.tup [.str (wOp c), .ref b])) (hb : H b = some (.tup vs)) (t : TkAll H vs (fs.map Fm.d)) (l2 : 2 ≤ fs.length) (l4 : fs.length ≤ 4) (ok : Fm.oks m fs = true) {C E : Nat} (hc : 1 + Fm.cnts fs ≤ C) (he : Fm.deps fs + 1 ≤ E) : FmAt H m C E (.ref a) :=
  ⟨.op c fs, .tup h (.cons (.str _) (.cons (.tup hb (by rw [Fm.dl_map]; exact t)) .nil)), by
    show ((decide (2 ≤ fs.length) && decide (fs.length ≤ 4)) && Fm.oks m fs) = true
    rw [decide_eq_true l2, decide_eq_true l4, ok]
    rfl, hc, he⟩
def sp_tower (K : PySem.W.Frag) : Sp := fun vs H Q _ => ∃ (d l : Addr) (n : Int) (m : Nat), vs = [.ref d, .int (m : Nat)] ∧ DeckC H d l n ∧ n ≤ 100000000 ∧ 1 ≤ m ∧ m ≤ 6 ∧ ∀ v H', DeckC H' d l (n + 19) → Fr d l H H' → FmAt H' m 37 11 v → Q v H'
theorem ok_tower (T : Tx w K mg) : FnOk P w K mg base CX0 3 T.f_tower T.fd_tower ["_law_deck_here", "_law_many"] (sp_tower K) := by
  refine T.F_tower.ok sc_tower (fun vs H Q E h => ?_) (fun cdv A outer s H vs Q E hr h => ?_)
  · obtain ⟨d, l, n, m, rfl, _⟩ := h
    rfl
  · obtain ⟨d, l, n, m, rfl, D, hn, m1, m6, q⟩ := h
    refine ⟨_, (pss_cons (ps_set (i := 2) sc_tower.nd rfl (by first | exact .inl rfl | exact .inr rfl) (pe_tup (pa_cons pe_str (pa_cons (pe_call (ok_take T) (hr.mono (by decide)) (by rfl) T.g_take T.F_take.kp T.b_take .nil pass0 (pa_cons (pv 0) (pa_cons (pv 1) pa_nil))) pa_nil)))) (pss_cons (ps_for PassesOwn.never rfl (pi_range1 (by rfl) T.m_range (pa_cons pe_int pa_nil)) (pg_name (i := 3) sc_tower.nd rfl (by first | exact .inl rfl | exact .inr rfl)) (pss_cons (ps_set (i := 4) sc_tower.nd rfl (by first | exact .inl rfl | exact .inr rfl) (pe_call (ok_take T) (hr.mono (by decide)) (by rfl) T.g_take T.F_take.kp T.b_take .nil pass0 (pa_cons (pv 0) (pa_cons pe_int pa_nil)))) (pss_cons (ps_set (i := 5) sc_tower.nd rfl (by first | exact .inl rfl | exact .inr rfl) (pe_tup (pa_cons pe_str (pa_cons (pe_call (ok_take T) (hr.mono (by decide)) (by rfl) T.g_take T.F_take.kp T.b_take .nil pass0 (pa_cons (pv 0) (pa_cons (pv 1) pa_nil))) pa_nil)))) (pss_cons (ps_set (i := 6) sc_tower.nd rfl (by first | exact .inl rfl | exact .inr rfl) (pe_ix ix_list (pe_lst (pa_cons (pv 5) (pa_cons (pe_tup (pa_cons pe_str (pa_cons (pv 5) pa_nil))) pa_nil))) (pe_callTy call_int1 (by rfl) T.m_int (by decide +kernel) (pa_cons (pe_cmpR op_gt (pv 3) pe_int (nomark _)) pa_nil)) (fun _ _ => rfl))) (pss_cons (ps_set (i := 7) sc_tower.nd rfl (by first | exact .inl rfl | exact .inr rfl) (pe_lst (pa_cons (pe_tup (pa_cons pe_str (pa_cons (pv 2) pa_nil))) (pa_cons (pe_tup (pa_cons pe_str (pa_cons (pe_tup (pa_cons (pv 2) (pa_cons (pv 5) pa_nil))) pa_nil))) (pa_cons (pe_tup (pa_cons pe_str (pa_cons (pe_tup (pa_cons (pv 5) (pa_cons (pv 2) pa_nil))) pa_nil))) (pa_cons (pe_tup (pa_cons pe_str (pa_cons (pe_tup (pa_cons (pv 5) (pa_cons (pv 2) (pa_cons (pv 6) pa_nil)))) pa_nil))) pa_nil)))))) (pss_one (ps_set (i := 2) sc_tower.nd rfl (by first | exact .inl rfl | exact .inr rfl) (pe_ix ix_list (pe_op op_cat (pv 7) (pe_lst (pa_cons (pe_tup (pa_cons pe_str (pa_cons (pe_tup (pa_cons (pv 2) (pa_cons (pv 5) (pa_cons (pe_tup (pa_cons pe_str pa_nil)) (pa_cons (pe_tup (pa_cons pe_str pa_nil)) pa_nil))))) pa_nil))) pa_nil))) (pv 4) (fun _ _ => rfl))))))))) (pss_one (ps_ret (pv 2))))), ?_⟩
    refine ⟨.ref d, rfl, .int (m : Nat), rfl, d, l, (m : Nat), _, rfl, D, by omega, by omega, by omega, fun H1 i D1 fr1 i0 i1 => ?_⟩
    obtain ⟨i, rfl⟩ := Int.eq_ofNat_of_zero_le i0
    refine ⟨sl2, fun p np => ?_⟩
    have s2 := same_upd (o := (HO.tup [V.str (Str.ofString "in"), V.int (i : Nat)])) np
    have h2 : upd H1 p (HO.tup [V.str (Str.ofString "in"), V.int (i : Nat)]) p = some (HO.tup [V.str (Str.ofString "in"), V.int (i : Nat)]) := upd_same
    generalize upd H1 p (HO.tup [V.str (Str.ofString "in"), V.int (i : Nat)]) = H2 at s2 h2 ⊢
    refine ⟨9, rfl, by decide, by decide, ?_⟩
    refine for_range (lo := 0) (n := (9 : Int).toNat) (fun k σ H' => ∃ v y3 y4 y5 y6 y7, σ = [some (.ref d), some (.int (m : Nat)), some v, y3, y4, y5, y6, y7] ∧ DeckC H' d l (n + 1 + 2 * (k : Nat)) ∧ Fr d l H H' ∧ FmAt H' m (1 + 4 * k) (2 + k) v)
      ⟨_, _, _, _, _, _, rfl, (D1.same s2).mono (by omega), fr1.trans (Fr.of s2), (FmAt.inp h2 (by omega)).mono (by omega) (by omega)⟩ ?_ ?_
    · rintro k σ H3 hk ⟨v, y3, y4, y5, y6, y7, rfl, D3, fr3, fm3⟩
      have hk' : k < 9 := hk
      refine ⟨.ref d, rfl, d, l, 5, _, rfl, D3, by omega, by decide, by decide, fun H4 way D4 fr4 w0 w1 => ?_⟩
      refine ⟨.ref d, rfl, .int (m : Nat), rfl, d, l, (m : Nat), _, rfl, D4, by omega, by omega, by omega, fun H5 j D5 fr5 j0 j1 => ?_⟩
      obtain ⟨j, rfl⟩ := Int.eq_ofNat_of_zero_le j0
      obtain ⟨f, tf, okf, cf, df⟩ := (fm3.ts (Ts.frC D3 fr4)).ts (Ts.frC D4 fr5)
      have fr05 := (fr3.trans fr4).trans fr5
      refine ⟨sl2, fun p1 np1 => ?_⟩
      have s6 := same_upd (o := (HO.tup [V.str (Str.ofString "in"), V.int (j : Nat)])) np1
      have h6 : upd H5 p1 (HO.tup [V.str (Str.ofString "in"), V.int (j : Nat)]) p1 = some (HO.tup [V.str (Str.ofString "in"), V.int (j : Nat)]) := upd_same
      generalize upd H5 p1 (HO.tup [V.str (Str.ofString "in"), V.int (j : Nat)]) = H6 at s6 h6 ⊢
      refine ⟨.ref p1, rfl, .ref p1, rfl, sl2, fun p2 np2 => ?_⟩
      have s7 := same_upd (o := (HO.tup [V.str (Str.ofString "not"), V.ref p1])) np2
      have h7 : upd H6 p2 (HO.tup [V.str (Str.ofString "not"), V.ref p1]) p2 = some (HO.tup [V.str (Str.ofString "not"), V.ref p1]) := upd_same
      generalize upd H6 p2 (HO.tup [V.str (Str.ofString "not"), V.ref p1]) = H7 at s7 h7 ⊢
      refine ⟨sl2, fun p3 np3 => ?_⟩
      have s8 := same_upd (o := (HO.lst [V.ref p1, V.ref p2])) np3
      have h8 : upd H7 p3 (HO.lst [V.ref p1, V.ref p2]) p3 = some (HO.lst [V.ref p1, V.ref p2]) := upd_same
      generalize upd H7 p3 (HO.lst [V.ref p1, V.ref p2]) = H8 at s8 h8 ⊢
      have e0 : (0 : Int) + (k : Int) = (k : Int) := Int.zero_add _
      rw [e0]
      refine ⟨.int (k : Nat), rfl, _, _, rfl, rfl, .inr ⟨_, rfl, p3, _, _, _, rfl, rfl, SqL.of h8, third_at, ?_⟩⟩
      generalize ew : (if 0 < k then V.ref p2 else V.ref p1) = w'
      refine ⟨v, rfl, sl2, fun p4 np4 => ?_⟩
      have s9 := same_upd (o := (HO.tup [V.str (Str.ofString "not"), v])) np4
      have h9 : upd H8 p4 (HO.tup [V.str (Str.ofString "not"), v]) p4 = some (HO.tup [V.str (Str.ofString "not"), v]) := upd_same
      generalize upd H8 p4 (HO.tup [V.str (Str.ofString "not"), v]) = H9 at s9 h9 ⊢
      refine ⟨v, rfl, .ref p1, rfl, sl2, fun p5 np5 => ?_⟩
      have s10 := same_upd (o := (HO.tup [v, V.ref p1])) np5
      have h10 : upd H9 p5 (HO.tup [v, V.ref p1]) p5 = some (HO.tup [v, V.ref p1]) := upd_same
      generalize upd H9 p5 (HO.tup [v, V.ref p1]) = H10 at s10 h10 ⊢
      refine ⟨sl2, fun p6 np6 => ?_⟩
      have s11 := same_upd (o := (HO.tup [V.str (Str.ofString "and"), V.ref p5])) np6
      have h11 : upd H10 p6 (HO.tup [V.str (Str.ofString "and"), V.ref p5]) p6 = some (HO.tup [V.str (Str.ofString "and"), V.ref p5]) := upd_same
      generalize upd H10 p6 (HO.tup [V.str (Str.ofString "and"), V.ref p5]) = H11 at s11 h11 ⊢
      refine ⟨.ref p1, rfl, v, rfl, sl2, fun p7 np7 => ?_⟩
      have s12 := same_upd (o := (HO.tup [V.ref p1, v])) np7
      have h12 : upd H11 p7 (HO.tup [V.ref p1, v]) p7 = some (HO.tup [V.ref p1, v]) := upd_same
      generalize upd H11 p7 (HO.tup [V.ref p1, v]) = H12 at s12 h12 ⊢
      refine ⟨sl2, fun p8 np8 => ?_⟩
      have s13 := same_upd (o := (HO.tup [V.str (Str.ofString "or"), V.ref p7])) np8
      have h13 : upd H12 p8 (HO.tup [V.str (Str.ofString "or"), V.ref p7]) p8 = some (HO.tup [V.str (Str.ofString "or"), V.ref p7]) := upd_same
      generalize upd H12 p8 (HO.tup [V.str (Str.ofString "or"), V.ref p7]) = H13 at s13 h13 ⊢
      refine ⟨.ref p1, rfl, v, rfl, w', rfl, sl3, fun p9 np9 => ?_⟩
      have s14 := same_upd (o := (HO.tup [V.ref p1, v, w'])) np9
      have h14 : upd H13 p9 (HO.tup [V.ref p1, v, w']) p9 = some (HO.tup [V.ref p1, v, w']) := upd_same
      generalize upd H13 p9 (HO.tup [V.ref p1, v, w']) = H14 at s14 h14 ⊢
      refine ⟨sl2, fun p10 np10 => ?_⟩
      have s15 := same_upd (o := (HO.tup [V.str (Str.ofString "and"), V.ref p9])) np10
      have h15 : upd H14 p10 (HO.tup [V.str (Str.ofString "and"), V.ref p9]) p10 = some (HO.tup [V.str (Str.ofString "and"), V.ref p9]) := upd_same
      generalize upd H14 p10 (HO.tup [V.str (Str.ofString "and"), V.ref p9]) = H15 at s15 h15 ⊢
      refine ⟨sl4, fun p11 np11 => ?_⟩
      have s16 := same_upd (o := (HO.lst [V.ref p4, V.ref p6, V.ref p8, V.ref p10])) np11
      have h16 : upd H15 p11 (HO.lst [V.ref p4, V.ref p6, V.ref p8, V.ref p10]) p11 = some (HO.lst [V.ref p4, V.ref p6, V.ref p8, V.ref p10]) := upd_same
      generalize upd H15 p11 (HO.lst [V.ref p4, V.ref p6, V.ref p8, V.ref p10]) = H16 at s16 h16 ⊢
      refine ⟨.ref p11, rfl, v, rfl, .ref p1, rfl, sl1, fun p12 np12 => ?_⟩
      have s17 := same_upd (o := (HO.tup [V.str (Str.ofString "one")])) np12
      have h17 : upd H16 p12 (HO.tup [V.str (Str.ofString "one")]) p12 = some (HO.tup [V.str (Str.ofString "one")]) := upd_same
      generalize upd H16 p12 (HO.tup [V.str (Str.ofString "one")]) = H17 at s17 h17 ⊢
      refine ⟨sl1, fun p13 np13 => ?_⟩
      have s18 := same_upd (o := (HO.tup [V.str (Str.ofString "nought")])) np13
      have h18 : upd H17 p13 (HO.tup [V.str (Str.ofString "nought")]) p13 = some (HO.tup [V.str (Str.ofString "nought")]) := upd_same
      generalize upd H17 p13 (HO.tup [V.str (Str.ofString "nought")]) = H18 at s18 h18 ⊢
      refine ⟨sl4, fun p14 np14 => ?_⟩
      have s19 := same_upd (o := (HO.tup [v, V.ref p1, V.ref p12, V.ref p13])) np14
      have h19 : upd H18 p14 (HO.tup [v, V.ref p1, V.ref p12, V.ref p13]) p14 = some (HO.tup [v, V.ref p1, V.ref p12, V.ref p13]) := upd_same
      generalize upd H18 p14 (HO.tup [v, V.ref p1, V.ref p12, V.ref p13]) = H19 at s19 h19 ⊢
      refine ⟨sl2, fun p15 np15 => ?_⟩
      have s20 := same_upd (o := (HO.tup [V.str (Str.ofString "or"), V.ref p14])) np15
      have h20 : upd H19 p15 (HO.tup [V.str (Str.ofString "or"), V.ref p14]) p15 = some (HO.tup [V.str (Str.ofString "or"), V.ref p14]) := upd_same
      generalize upd H19 p15 (HO.tup [V.str (Str.ofString "or"), V.ref p14]) = H20 at s20 h20 ⊢
      refine ⟨sl1, fun p16 np16 => ?_⟩
      have s21 := same_upd (o := (HO.lst [V.ref p15])) np16
      have h21 : upd H20 p16 (HO.lst [V.ref p15]) p16 = some (HO.lst [V.ref p15]) := upd_same
      generalize upd H20 p16 (HO.lst [V.ref p15]) = H21 at s21 h21 ⊢
      have k20 : Same H20 H21 := s21
      have k19 := s20.trans k20
      have k18 := s19.trans k19
      have k17 := s18.trans k18
      have k16 := s17.trans k17
      have k15 := s16.trans k16
      have k14 := s15.trans k15
      have k13 := s14.trans k14
      have k12 := s13.trans k13
      have k11 := s12.trans k12
      have k10 := s11.trans k11
      have k9 := s10.trans k10
      have k8 := s9.trans k9
      have k7 := s8.trans k8
      have k6 := s7.trans k7
      have k5 := s6.trans k6
      refine ⟨p11, p16, _, _, rfl, rfl, k16 _ _ h16, h21, (by show 5 ≤ sizeLine; decide), fun p17 np17 => ?_⟩
      have s22 := same_upd (o := (HO.lst ([V.ref p4, V.ref p6, V.ref p8, V.ref p10] ++ [V.ref p15]))) np17
      have h22 : upd H21 p17 (HO.lst ([V.ref p4, V.ref p6, V.ref p8, V.ref p10] ++ [V.ref p15])) p17 = some (HO.lst ([V.ref p4, V.ref p6, V.ref p8, V.ref p10] ++ [V.ref p15])) := upd_same
      generalize upd H21 p17 (HO.lst ([V.ref p4, V.ref p6, V.ref p8, V.ref p10] ++ [V.ref p15])) = H22 at s22 h22 ⊢
      have kk : ∀ {a : Addr} {o : HO}, H21 a = some o → H22 a = some o := fun e => s22 _ _ e
      have tf' : Tk H22 v f.d := tf.same (k5.trans s22)
      have t1 : Tk H22 (.ref p1) (Fm.inp j).d := .tup (kk (k6 _ _ h6)) (.cons (.str _) (.cons (.int _) .nil))
      obtain ⟨g, tg, okg, cg, dg⟩ : FmAt H22 m 2 2 w' := by
        rw [← ew]
        split
        · exact FmAt.no (kk (k7 _ _ h7)) (FmAt.inp (kk (k6 _ _ h6)) (by omega))
        · exact (FmAt.inp (kk (k6 _ _ h6)) (by omega)).mono (by omega) (by omega)
      have o1 : (Fm.inp j).ok m = true := decide_eq_true (by omega)
      have oks2 : ∀ {a b : Fm}, a.ok m = true → b.ok m = true → Fm.oks m [a, b] = true := fun x y => by
        show (_ && (_ && true)) = true
        rw [x, y]
        rfl
      have md : ∀ {a b c : Nat}, a ≤ c → b ≤ c → max a b ≤ c := fun x y => Nat.max_le.mpr ⟨x, y⟩
      have a1 : FmAt H22 m (1 + 4 * (k + 1)) (2 + (k + 1)) (.ref p4) := (FmAt.no (kk (k9 _ _ h9)) ⟨f, tf', okf, cf, df⟩).mono (by omega) (by omega)
      have a2 : FmAt H22 m (1 + 4 * (k + 1)) (2 + (k + 1)) (.ref p6) := FmAt.op (fs := [f, .inp j]) true (kk (k11 _ _ h11)) (kk (k10 _ _ h10)) (.cons tf' (.cons t1 .nil)) (Nat.le_refl 2) (by show 2 ≤ 4; decide) (oks2 okf o1) (by show 1 + (f.cnt + (1 + 0)) ≤ _; omega) (by show max f.dep (max 1 0) + 1 ≤ _; omega)
      have a3 : FmAt H22 m (1 + 4 * (k + 1)) (2 + (k + 1)) (.ref p8) := FmAt.op (fs := [.inp j, f]) false (kk (k13 _ _ h13)) (kk (k12 _ _ h12)) (.cons t1 (.cons tf' .nil)) (Nat.le_refl 2) (by show 2 ≤ 4; decide) (oks2 o1 okf) (by show 1 + (1 + (f.cnt + 0)) ≤ _; omega) (by show max 1 (max f.dep 0) + 1 ≤ _; omega)
      have a4 : FmAt H22 m (1 + 4 * (k + 1)) (2 + (k + 1)) (.ref p10) := FmAt.op (fs := [.inp j, f, g]) true (kk (k15 _ _ h15)) (kk (k14 _ _ h14)) (.cons t1 (.cons tf' (.cons tg .nil))) (by show 2 ≤ 3; decide) (by show 3 ≤ 4; decide) (by show (_ && (_ && (_ && true))) = true; rw [o1, okf, okg]; rfl) (by show 1 + (1 + (f.cnt + (g.cnt + 0))) ≤ _; omega) (by show max 1 (max f.dep (max g.dep 0)) + 1 ≤ _; omega)
      have a5 : FmAt H22 m (1 + 4 * (k + 1)) (2 + (k + 1)) (.ref p15) := FmAt.op (fs := [f, .inp j, .st true, .st false]) false (kk (k20 _ _ h20)) (kk (k19 _ _ h19)) (.cons tf' (.cons t1 (.cons (.tup (kk (k17 _ _ h17)) (.cons (.str _) .nil)) (.cons (.tup (kk (k18 _ _ h18)) (.cons (.str _) .nil)) .nil)))) (by show 2 ≤ 4; decide) (Nat.le_refl 4) (by show (_ && (_ && (true && (true && true)))) = true; rw [okf, o1]; rfl) (by show 1 + (f.cnt + (1 + (1 + (1 + 0)))) ≤ _; omega) (by show max f.dep (max 1 (max 1 (max 1 0))) + 1 ≤ _; omega)
      obtain ⟨u, hu, au⟩ := five_at w0 w1 (P := FmAt H22 m (1 + 4 * (k + 1)) (2 + (k + 1))) a1 a2 a3 a4 a5
      refine ⟨.int way, rfl, p17, _, way, u, rfl, rfl, SqL.of h22, hu, ?_⟩
      exact ⟨_, _, _, _, _, _, rfl, (D5.same (k5.trans s22)).mono (by push_cast; omega), fr05.trans (Fr.of (k5.trans s22)), au⟩
    · rintro σ H3 ⟨v, y3, y4, y5, y6, y7, rfl, D3, fr3, fm3⟩
      exact ⟨v, rfl, q _ H3 (D3.mono (by show n + 1 + 2 * ((9 : Nat) : Int) ≤ _; omega)) fr3 fm3⟩
theorem ok_count (T : Tx w K mg) : FnOk P w K mg base CX0 24 T.f_count T.fd_count ["_law_form_here"] (sp_count K 22) := ok_countE T 22
theorem deep_at {x : Int} (h0 : 0 ≤ x) (h1 : x < 8) (n7 : x ≠ 7) : (∃ e : Nat, atI [V.int 0, V.int 2, V.int 3, V.int 4, V.int 6, V.int 9, V.int 3] x = some (.int (e : Nat)) ∧ e ≤ 9) ∧ ∃ b : Int, atI [V.int 1, V.int 4, V.int 6, V.int 9, V.int 9, V.int 9, V.int 24] x = some (.int b) ∧ b ≤ 24 := by
  have : x = 0 ∨ x = 1 ∨ x = 2 ∨ x = 3 ∨ x = 4 ∨ x = 5 ∨ x = 6 := by omega
  rcases this with rfl | rfl | rfl | rfl | rfl | rfl | rfl
  · exact ⟨⟨0, rfl, by decide⟩, 1, rfl, by decide⟩
  · exact ⟨⟨2, rfl, by decide⟩, 4, rfl, by decide⟩
  · exact ⟨⟨3, rfl, by decide⟩, 6, rfl, by decide⟩
  · exact ⟨⟨4, rfl, by decide⟩, 9, rfl, by decide⟩
  · exact ⟨⟨6, rfl, by decide⟩, 9, rfl, by decide⟩
  · exact ⟨⟨9, rfl, by decide⟩, 9, rfl, by decide⟩
  · exact ⟨⟨3, rfl, by decide⟩, 24, rfl, by decide⟩
def sp_some_form (K : PySem.W.Frag) : Sp := fun vs H Q _ => ∃ (d l : Addr) (n : Int) (m : Nat), vs = [.ref d, .int (m : Nat)] ∧ DeckC H d l n ∧ n ≤ 90000000 ∧ 1 ≤ m ∧ m ≤ 6 ∧ ∀ v H', DeckC H' d l (n + 1600) → Fr d l H H' → FmAt H' m 40 11 v → Q v H'
theorem ok_some_form (T : Tx w K mg) : FnOk P w K mg base CX0 25 T.f_some_form T.fd_some_form ["_law_deck_here", "_law_many"] (sp_some_form K) := by
  refine T.F_some_form.ok sc_some_form (fun vs H Q E h => ?_) (fun cdv A outer s H vs Q E hr h => ?_)
  · obtain ⟨d, l, n, m, rfl, _⟩ := h
    rfl
  · obtain ⟨d, l, n, m, rfl, D, hn, m1, m6, q⟩ := h
    refine ⟨_, (pss_cons (ps_set (i := 2) sc_some_form.nd rfl (by first | exact .inl rfl | exact .inr rfl) (pe_call (ok_take T) (hr.mono (by decide)) (by rfl) T.g_take T.F_take.kp T.b_take .nil pass0 (pa_cons (pv 0) (pa_cons pe_int pa_nil)))) (pss_cons (ps_if (pt_cmpR op_eq (pv 2) pe_int (nomark _)) (pss_one (ps_ret (pe_call (ok_tower T) (hr.mono (by decide)) (by rfl) T.g_tower T.F_tower.kp T.b_tower .nil pass0 (pa_cons (pv 0) (pa_cons (pv 1) pa_nil))))) pss_nil) (pss_cons (ps_set (i := 3) sc_some_form.nd rfl (by first | exact .inl rfl | exact .inr rfl) (pe_call (ok_form T) (hr.mono (by decide)) (by rfl) T.g_form T.F_form.kp T.b_form .nil pass0 (pa_cons (pv 0) (pa_cons (pv 1) (pa_cons (pe_ix ix_list (pe_lst (pa_cons pe_int (pa_cons pe_int (pa_cons pe_int (pa_cons pe_int (pa_cons pe_int (pa_cons pe_int (pa_cons pe_int pa_nil)))))))) (pv 2) (fun _ _ => rfl)) (pa_cons (pe_lst (pa_cons (pe_ix ix_list (pe_lst (pa_cons pe_int (pa_cons pe_int (pa_cons pe_int (pa_cons pe_int (pa_cons pe_int (pa_cons pe_int (pa_cons pe_int pa_nil)))))))) (pv 2) (fun _ _ => rfl)) pa_nil)) pa_nil)))))) (pss_cons (ps_if (pt_cmpR op_gt (pe_call (ok_count T) (hr.mono (by decide)) (by rfl) T.g_count T.F_count.kp T.b_count .nil pass0 (pa_cons (pv 3) pa_nil)) pe_int (nomark _)) (pss_one (ps_ret (pe_tup (pa_cons pe_str (pa_cons (pe_tup (pa_cons (pe_tup (pa_cons pe_str (pa_cons pe_int pa_nil))) (pa_cons (pe_tup (pa_cons pe_str (pa_cons (pe_tup (pa_cons pe_str (pa_cons (pe_op op_sub (pv 1) pe_int) pa_nil))) pa_nil))) pa_nil))) pa_nil))))) pss_nil) (pss_one (ps_ret (pv 3))))))), ?_⟩
    refine ⟨.ref d, rfl, d, l, 8, _, rfl, D, by omega, by decide, by decide, fun H1 way D1 fr1 w0 w1 => ?_⟩
    refine ⟨.int way, rfl, rfl, _, rfl, ite2 (fun e7 => ?_) (fun n7 => ?_)⟩
    · exact ⟨.ref d, rfl, .int (m : Nat), rfl, d, l, _, m, rfl, D1, by omega, m1, m6, fun v H2 D2 fr2 fm => q v H2 (D2.mono (by omega)) (fr1.trans fr2) (fm.mono (by omega) (by omega))⟩
    have n7 : way ≠ 7 := fun z => n7 (by rw [z]; exact decide_eq_true rfl)
    obtain ⟨⟨e, he, e9⟩, b, hb, b24⟩ := deep_at w0 w1 n7
    refine ⟨.ref d, rfl, .int (m : Nat), rfl, (by show 7 ≤ sizeLine; decide), fun p1 np1 => ?_⟩
    have s2 := same_upd (o := (HO.lst [V.int 0, V.int 2, V.int 3, V.int 4, V.int 6, V.int 9, V.int 3])) np1
    have h2 : upd H1 p1 (HO.lst [V.int 0, V.int 2, V.int 3, V.int 4, V.int 6, V.int 9, V.int 3]) p1 = some (HO.lst [V.int 0, V.int 2, V.int 3, V.int 4, V.int 6, V.int 9, V.int 3]) := upd_same
    generalize upd H1 p1 (HO.lst [V.int 0, V.int 2, V.int 3, V.int 4, V.int 6, V.int 9, V.int 3]) = H2 at s2 h2 ⊢
    refine ⟨.int way, rfl, p1, _, way, _, rfl, rfl, SqL.of h2, he, (by show 7 ≤ sizeLine; decide), fun p2 np2 => ?_⟩
    have s3 := same_upd (o := (HO.lst [V.int 1, V.int 4, V.int 6, V.int 9, V.int 9, V.int 9, V.int 24])) np2
    have h3 : upd H2 p2 (HO.lst [V.int 1, V.int 4, V.int 6, V.int 9, V.int 9, V.int 9, V.int 24]) p2 = some (HO.lst [V.int 1, V.int 4, V.int 6, V.int 9, V.int 9, V.int 9, V.int 24]) := upd_same
    generalize upd H2 p2 (HO.lst [V.int 1, V.int 4, V.int 6, V.int 9, V.int 9, V.int 9, V.int 24]) = H3 at s3 h3 ⊢
    refine ⟨.int way, rfl, p2, _, way, _, rfl, rfl, SqL.of h3, hb, sl1, fun L nL => ?_⟩
    have D3 := D1.same (s2.trans s3)
    obtain ⟨Ld, Ll⟩ := D3.off nL
    have s4 := same_upd (o := (HO.lst [V.int b])) nL
    have hL : upd H3 L (HO.lst [V.int b]) L = some (HO.lst [V.int b]) := upd_same
    generalize upd H3 L (HO.lst [V.int b]) = H4 at s4 hL ⊢
    have D4 := D3.same s4
    have s14 := s2.trans (s3.trans s4)
    refine ⟨e, e9, d, l, L, _, m, b, rfl, D4, by omega, e9, hL, Ld, Ll, m1, m6, by omega, fun v H5 f D5 k5 hL5 tk ok de lp lb => ?_⟩
    have fr5 : Fr d l H3 H5 := fun x o h1 h2 z => k5 x o h1 h2 (ne_of_none z nL) (s4 _ _ z)
    have fr05 : Fr d l H H5 := (fr1.trans (Fr.of (s2.trans s3))).trans fr5
    have used : 3 * ((e : Int) + 1) * (f.lv : Nat) ≤ 30 * 51 := Int.mul_le_mul (by omega) (by omega) (by omega) (by decide)
    refine ⟨v, rfl, v, f, m, rfl, tk, ok, by omega, fun H6 s6 => ⟨_, _, rfl, rfl, _, rfl, ite2 (fun big => ?_) (fun small => ?_)⟩⟩
    · have D6 := D5.same s6
      refine ⟨sl2, fun p1 np1 => ?_⟩
      have s7 := same_upd (o := (HO.tup [V.str (Str.ofString "in"), V.int 0])) np1
      have h7 : upd H6 p1 (HO.tup [V.str (Str.ofString "in"), V.int 0]) p1 = some (HO.tup [V.str (Str.ofString "in"), V.int 0]) := upd_same
      generalize upd H6 p1 (HO.tup [V.str (Str.ofString "in"), V.int 0]) = H7 at s7 h7 ⊢
      refine ⟨.int (m : Nat), rfl, _, _, rfl, rfl, sl2, fun p2 np2 => ?_⟩
      have s8 := same_upd (o := (HO.tup [V.str (Str.ofString "in"), V.int ((m : Nat) - 1)])) np2
      have h8 : upd H7 p2 (HO.tup [V.str (Str.ofString "in"), V.int ((m : Nat) - 1)]) p2 = some (HO.tup [V.str (Str.ofString "in"), V.int ((m : Nat) - 1)]) := upd_same
      generalize upd H7 p2 (HO.tup [V.str (Str.ofString "in"), V.int ((m : Nat) - 1)]) = H8 at s8 h8 ⊢
      refine ⟨sl2, fun p3 np3 => ?_⟩
      have s9 := same_upd (o := (HO.tup [V.str (Str.ofString "not"), V.ref p2])) np3
      have h9 : upd H8 p3 (HO.tup [V.str (Str.ofString "not"), V.ref p2]) p3 = some (HO.tup [V.str (Str.ofString "not"), V.ref p2]) := upd_same
      generalize upd H8 p3 (HO.tup [V.str (Str.ofString "not"), V.ref p2]) = H9 at s9 h9 ⊢
      refine ⟨sl2, fun p4 np4 => ?_⟩
      have s10 := same_upd (o := (HO.tup [V.ref p1, V.ref p3])) np4
      have h10 : upd H9 p4 (HO.tup [V.ref p1, V.ref p3]) p4 = some (HO.tup [V.ref p1, V.ref p3]) := upd_same
      generalize upd H9 p4 (HO.tup [V.ref p1, V.ref p3]) = H10 at s10 h10 ⊢
      refine ⟨sl2, fun p5 np5 => ?_⟩
      have s11 := same_upd (o := (HO.tup [V.str (Str.ofString "and"), V.ref p4])) np5
      have h11 : upd H10 p5 (HO.tup [V.str (Str.ofString "and"), V.ref p4]) p5 = some (HO.tup [V.str (Str.ofString "and"), V.ref p4]) := upd_same
      generalize upd H10 p5 (HO.tup [V.str (Str.ofString "and"), V.ref p4]) = H11 at s11 h11 ⊢
      have em : ((m : Nat) : Int) - 1 = ((m - 1 : Nat) : Int) := by omega
      rw [em] at h8
      have sB := s10.trans s11
      have sA := s9.trans sB
      refine q _ H11 ((D6.same ((s7.trans s8).trans sA)).mono (by omega)) (fr05.trans (Fr.of (s6.trans ((s7.trans s8).trans sA)))) (FmAt.op (fs := [.inp 0, .no (.inp (m - 1))]) true h11 (s11 _ _ h10) (.cons (.tup ((s8.trans sA) _ _ h7) (.cons (.str _) (.cons (.int _) .nil))) (.cons (.tup (sB _ _ h9) (.cons (.str _) (.cons (.tup (sA _ _ h8) (.cons (.str _) (.cons (.int _) .nil))) .nil))) .nil)) (Nat.le_refl 2) (by show 2 ≤ 4; decide) (by show (decide (0 < m) && (decide (m - 1 < m) && true)) = true; rw [decide_eq_true (by omega), decide_eq_true (by omega)]; rfl) (by show 1 + (1 + ((1 + 1) + 0)) ≤ 40; decide) (by show max 1 (max (1 + 1) 0) + 1 ≤ 11; decide))
    · have small : ¬ ((f.cnt : Nat) : Int) > 40 := fun z => small (decide_eq_true z)
      exact ⟨v, rfl, q v H6 ((D5.same s6).mono (by omega)) (fr05.trans (Fr.of s6)) ⟨f, tk.same s6, ok, by omega, by omega⟩⟩

end
end Gk

set_option Elab.async false
set_option linter.all false
set_option maxRecDepth 100000
set_option maxHeartbeats 1000000
set_option pp.maxSteps 1500
set_option pp.deepTerms false
namespace Gk
open PySem PySem.Spec PyProof.Rows L2
section
variable {P : Program} {w : World} {K : PySem.W.Frag} {mg : Str → Option Value} {base : Heap}
/-! ### the worth of a form -/
mutual
def Fm.wo (r : List Int) : Fm → Int
  | .st b => if b = true then 1 else 0
  | .inp i => r.getD i 0
  | .no f => 1 - f.wo r
  | .op c fs => if c = true then (if 0 ∈ Fm.wos r fs then 0 else 1) else (if 1 ∈ Fm.wos r fs then 1 else 0)
def Fm.wos (r : List Int) : List Fm → List Int
  | [] => []
  | f :: fs => f.wo r :: Fm.wos r fs
end
theorem Fm.wos_map (r : List Int) : ∀ fs : List Fm, Fm.wos r fs = fs.map (Fm.wo r)
  | [] => rfl
  | f :: fs => by
    show f.wo r :: Fm.wos r fs = _
    rw [Fm.wos_map r fs]
    rfl
mutual
theorem Fm.wo01 {r : List Int} {m : Nat} (hr : Row01 r) (hl : r.length = m) : ∀ {f : Fm}, f.ok m = true → f.wo r = 0 ∨ f.wo r = 1
  | .st b, _ => by cases b <;> first | exact .inl rfl | exact .inr rfl
  | .inp i, h => by
    have h : i < m := of_decide_eq_true h
    have e : r[i]? = some (r.getD i 0) := by
      rw [List.getD_eq_getElem?_getD, List.getElem?_eq_getElem (by omega)]
      rfl
    exact hr _ (List.mem_of_getElem? e)
  | .no f, h => by
    have h := Fm.wo01 hr hl (f := f) h
    show 1 - f.wo r = 0 ∨ 1 - f.wo r = 1
    omega
  | .op c fs, _ => by
    show (if c = true then (if 0 ∈ Fm.wos r fs then (0 : Int) else 1) else (if 1 ∈ Fm.wos r fs then 1 else 0)) = 0 ∨ (if c = true then (if 0 ∈ Fm.wos r fs then (0 : Int) else 1) else (if 1 ∈ Fm.wos r fs then 1 else 0)) = 1
    repeat' split
    all_goals first | exact .inl rfl | exact .inr rfl
end
theorem still_get {K : PySem.W.Frag} {a : Addr} (at_ : ∀ z : PySem.Str, KdS.At K a [(("one" : PySem.Str), KdS.Kv.i 1), (("nought" : PySem.Str), KdS.Kv.i 0)] z) (z : Str) : ∃ (r : Option Value) (v : V), PySem.W.nsIn K a z = some r ∧ RelV v (r.getD .none) ∧ ((z = wOne ∧ v = .int 1) ∨ (z = wNou ∧ v = .int 0) ∨ (z ≠ wOne ∧ z ≠ wNou ∧ v = .non)) := by
  obtain ⟨r, h1, h2⟩ := at_ z
  rcases h2 with ⟨kv, u, f1, f2, f3⟩ | ⟨f1, f2⟩
  · subst f2
    unfold KdS.find at f1
    by_cases c : (Str.ofString "one") = z
    · rw [if_pos c] at f1
      cases Option.some.inj f1
      cases u <;> try cases f3
      rename_i j t
      have e : j = 1 := of_decide_eq_true f3
      exact ⟨_, .int 1, h1, ⟨t, by rw [← e]; rfl⟩, .inl ⟨c.symm, rfl⟩⟩
    · rw [if_neg c] at f1
      unfold KdS.find at f1
      by_cases c2 : (Str.ofString "nought") = z
      · rw [if_pos c2] at f1
        cases Option.some.inj f1
        cases u <;> try cases f3
        rename_i j t
        have e : j = 0 := of_decide_eq_true f3
        exact ⟨_, .int 0, h1, ⟨t, by rw [← e]; rfl⟩, .inr (.inl ⟨c2.symm, rfl⟩)⟩
      · rw [if_neg c2] at f1
        cases f1
  · subst f2
    refine ⟨none, .non, h1, rfl, .inr (.inr ⟨fun e => ?_, fun e => ?_, rfl⟩)⟩
    · subst e
      revert f1
      decide +kernel
    · subst e
      revert f1
      decide +kernel
def sp_still_worth (K : PySem.W.Frag) : Sp := fun vs H Q _ => ∃ (a : Addr) (z : Str) (r : List V), vs = [.ref a] ∧ H a = some (.tup (.str z :: r)) ∧ (z = wOne → Q (.int 1) H) ∧ (z = wNou → Q (.int 0) H) ∧ (z ≠ wOne → z ≠ wNou → Q .non H)
theorem ok_still_worth (T : Tx w K mg) : FnOk P w K mg base CX0 1 T.f_still_worth T.fd_still_worth ["form"] (sp_still_worth K) := by
  refine T.F_still_worth.ok sc_still_worth (fun vs H Q E h => ?_) (fun cdv A outer s H vs Q E hr h => ?_)
  · obtain ⟨a, z, r, rfl, _⟩ := h
    rfl
  · obtain ⟨a, z, rs, rfl, ha, q1, q2, q3⟩ := h
    refine ⟨_, (pss_one (ps_ret (KdG.pe_kget T.kd_STILL.choose_spec.choose_spec (pe_glob (v := .ref T.A_STILL) (by rfl) T.gA_STILL rfl) (pe_ix ix_tup (pv 0) pe_int (fun _ _ => rfl)) ⟨rfl, rfl, rfl, rfl⟩))), ?_⟩
    obtain ⟨r, v, e1, rv, cases3⟩ := still_get T.kv_STILL z
    refine ⟨rfl, .ref a, rfl, a, _, ((0 : Nat) : Int), .str z, rfl, rfl, SqT.of ha, atI_nat rfl, z, r, v, rfl, e1, rv, ?_⟩
    rcases cases3 with ⟨e, rfl⟩ | ⟨e, rfl⟩ | ⟨e, e', rfl⟩
    · exact q1 e
    · exact q2 e
    · exact q3 e e'
def sp_worth (K : PySem.W.Frag) (e : Nat) : Sp := fun vs H Q _ => ∃ (v : V) (f : Fm) (m : Nat) (a : Addr) (r : List Int), vs = [v, .ref a] ∧ Tk H v f.d ∧ f.ok m = true ∧ f.dep ≤ e ∧ H a = some (.tup (r.map V.int)) ∧ r.length = m ∧ Row01 r ∧ ∀ H', Same H H' → Q (.int (f.wo r)) H'

end
end Gk

set_option Elab.async false
set_option linter.all false
set_option maxRecDepth 100000
set_option maxHeartbeats 1000000
set_option pp.maxSteps 1500
set_option pp.deepTerms false
namespace Gk
open PySem PySem.Spec PyProof.Rows L2
section
variable {P : Program} {w : World} {K : PySem.W.Frag} {mg : Str → Option Value} {base : Heap}
/-! ### .. by the law -/
def sp_l_worth (K : PySem.W.Frag) (e : Nat) : Sp := fun vs H Q _ => ∃ (v : V) (f : Fm) (m : Nat) (a : Addr) (r : List Int), vs = [v, .ref a] ∧ Tk H v f.d ∧ f.ok m = true ∧ f.dep ≤ e ∧ H a = some (.tup (r.map V.int)) ∧ r.length = m ∧ Row01 r ∧ ∀ H', Same H H' → Q (.int (f.wo r)) H'
theorem ok_l_worthE (T : Tx w K mg) : ∀ e : Nat, FnOk P w K mg base CX0 (e + 2) T.f_worth T.fd_worth ["_law_form_here", "_law_row"] (sp_l_worth K e)
  | 0 => ⟨fun _ _ _ _ h => by obtain ⟨_, f, _, _, _, _, _, _, h, _⟩ := h; exact absurd h (by have := Fm.dep_pos f; omega), fun _ _ _ _ _ _ _ _ _ _ _ _ _ h => by obtain ⟨_, f, _, _, _, _, _, _, h, _⟩ := h; exact absurd h (by have := Fm.dep_pos f; omega)⟩
  | e + 1 => by
    have ih := ok_l_worthE T e
    refine T.F_worth.ok sc_worth (fun vs H Q E h => ?_) (fun cdv A outer s H vs Q E hr h => ?_)
    · obtain ⟨v, f, m, a, r, rfl, _⟩ := h
      rfl
    · obtain ⟨v, f, m, ar, r, rfl, tk, ok, de, har, hl, hr01, q⟩ := h
      refine ⟨_, (pss_cons (ps_set (i := 2) sc_worth.nd rfl (by first | exact .inl rfl | exact .inr rfl) (pe_ix ix_tup (pv 0) pe_int (fun _ _ => rfl))) (pss_cons (ps_if (pt_cmpR op_eq (pv 2) pe_str (nomark _)) (pss_one (ps_ret (pe_ix ix_tup (pv 1) (pe_ix ix_tup (pv 0) pe_int (fun _ _ => rfl)) (fun _ _ => rfl)))) pss_nil) (pss_cons (ps_if (pt_cmpR op_in_seq (pv 2) (pe_tup (pa_cons pe_str (pa_cons pe_str pa_nil))) rfl) (pss_one (ps_ret (pe_callTy call_int1 (by rfl) T.m_int (by decide +kernel) (pa_cons (pe_cmpR op_eq (pv 2) pe_str (nomark _)) pa_nil)))) pss_nil) (pss_cons (ps_setLc (i := 3) (own := [("_law_part", 4)]) (by rfl) sc_worth.nd rfl rfl (sw_true rfl rfl rfl (by decide +kernel)) (pi_tup (pe_call (ok_inner T) (hr.mono (by omega)) (by rfl) T.g_inner T.F_inner.kp T.b_inner .nil pass0 (pa_cons (pv 0) pa_nil))) (blkOk_by (own := [("_law_part", 4)]) (N := ["_law_form_here", "_law_row", "_law_word_here", "_law_told", "_law_part"]) (sc := defScope s_worth) (by decide +kernel)) (fun _ _ _ _ _ => (pg_name (i := 4) sc_worth.nd rfl (by first | exact .inl rfl | exact .inr rfl))) (fun _ _ _ _ _ => pts_nil) (fun _ _ _ _ _ => (pe_call (ih) (hr.mono (by omega)) (by rfl) T.g_worth T.F_worth.kp T.b_worth .nil pass0 (pa_cons (pv 4) (pa_cons (pv 1) pa_nil))))) (pss_cons (ps_if (pt_cmpR op_eq (pv 2) pe_str (nomark _)) (pss_one (ps_ret (pe_op op_sub pe_int (pe_ix ix_list (pv 3) pe_int (fun _ _ => rfl))))) pss_nil) (pss_cons (ps_if (pt_cmpR op_eq (pv 2) pe_str (nomark _)) (pss_one (ps_ret (pe_callTy call_int1 (by rfl) T.m_int (by decide +kernel) (pa_cons (pe_cmpR op_notIn_seq pe_int (pv 3) rfl) pa_nil)))) pss_nil) (pss_one (ps_ret (pe_callTy call_int1 (by rfl) T.m_int (by decide +kernel) (pa_cons (pe_cmpR op_in_seq pe_int (pv 3) rfl) pa_nil)))))))))), ?_⟩
      have key : (∃ b, f = .st b) ∨ (∃ i, f = .inp i) ∨ ∃ a z rest, v = .ref a ∧ H a = some (.tup (.str z :: rest)) ∧ z ≠ wIn ∧ z ≠ wOne ∧ z ≠ wNou ∧ ((z = wNot ∧ ∃ g, f = .no g) ∨ ∃ c fs, f = .op c fs ∧ z = wOp c ∧ fs ≠ []) := by
        cases f with
        | st b => exact .inl ⟨b, rfl⟩
        | inp i => exact .inr (.inl ⟨i, rfl⟩)
        | no f =>
          obtain ⟨a, w', rfl, ha, _⟩ := Fm.tk_no tk
          exact .inr (.inr ⟨a, _, _, rfl, ha, by decide +kernel, by decide +kernel, by decide +kernel, .inl ⟨rfl, f, rfl⟩⟩)
        | op c fs =>
          obtain ⟨a, b, ys, rfl, ha, _⟩ := Fm.tk_op tk
          refine .inr (.inr ⟨a, _, _, rfl, ha, by cases c <;> decide +kernel, by cases c <;> decide +kernel, by cases c <;> decide +kernel, .inr ⟨c, fs, rfl, rfl, fun z => ?_⟩⟩)
          subst z
          cases ok
      have two : ∀ z : Str, (if false = true then !inV (.str z) [V.str wOne, V.str wNou] else inV (.str z) [V.str wOne, V.str wNou]) = (decide (z = wOne) || decide (z = wNou)) := fun z => by
        rw [if_neg (by decide)]
        show (decide (wOne = z) || (decide (wNou = z) || false)) = _
        rw [Bool.or_false, decide_eq_decide.mpr (eq_comm (a := wOne)), decide_eq_decide.mpr (eq_comm (a := wNou))]
      rcases key with ⟨b, rfl⟩ | ⟨i, rfl⟩ | ⟨a, z, rest, rfl, ha, n1, n2, n3, sorts⟩
      · obtain ⟨a, rfl, ha⟩ := Fm.tk_st tk
        refine ⟨.ref a, rfl, a, _, 0, .str (wSt b), rfl, rfl, SqT.of ha, rfl, ?_⟩
        refine ⟨.str (wSt b), rfl, rfl, _, rfl, ite2 (fun e => absurd (V.str.inj (of_decide_eq_true e)) (by cases b <;> decide +kernel)) (fun _ => ?_)⟩
        refine ⟨.str (wSt b), rfl, sl2, fun p np => ?_⟩
        have s1 := same_upd (o := HO.tup [V.str wOne, V.str wNou]) np
        have q := q _ s1
        refine ⟨p, _, rfl, .inr (SqT.of upd_same), rfl, rfl, _, rfl, ite2 (fun _ => ?_) (fun k => absurd ((two (wSt b)).trans (by cases b <;> decide +kernel)) k)⟩
        cases b
        · exact ⟨.str (wSt false), rfl, rfl, .inr ⟨_, rfl, by rw [decide_eq_false (show ¬ V.str (wSt false) = V.str (Str.ofString "one") from fun z => absurd (V.str.inj z) (by decide +kernel))]; exact q⟩⟩
        · exact ⟨.str (wSt true), rfl, rfl, .inr ⟨_, rfl, by rw [decide_eq_true (show V.str (wSt true) = V.str (Str.ofString "one") from rfl)]; exact q⟩⟩
      · obtain ⟨a, rfl, ha⟩ := Fm.tk_inp tk
        refine ⟨.ref a, rfl, a, _, 0, .str wIn, rfl, rfl, SqT.of ha, rfl, ?_⟩
        refine ⟨.str wIn, rfl, rfl, _, rfl, ite2 (fun _ => ?_) (fun k => absurd (decide_eq_true rfl) k)⟩
        have hi : i < m := of_decide_eq_true ok
        refine ⟨.ref ar, rfl, .ref a, rfl, a, _, 1, .int i, rfl, rfl, SqT.of ha, rfl, ar, _, i, .int (r.getD i 0), rfl, rfl, SqT.of har, atI_nat ?_, q H (Same.refl _)⟩
        rw [List.getElem?_map, List.getElem?_eq_getElem (by omega), List.getD_eq_getElem?_getD, List.getElem?_eq_getElem (by omega)]
        rfl
      refine ⟨.ref a, rfl, a, _, ((0 : Nat) : Int), .str z, rfl, rfl, SqT.of ha, atI_nat rfl, ?_⟩
      refine ⟨.str z, rfl, rfl, _, rfl, ite2 (fun e => absurd (V.str.inj (of_decide_eq_true e)) n1) (fun _ => ?_)⟩
      refine ⟨.str z, rfl, sl2, fun p np => ?_⟩
      have s0 := same_upd (o := HO.tup [V.str wOne, V.str wNou]) np
      refine ⟨p, _, rfl, .inr (SqT.of upd_same), rfl, rfl, _, rfl, ite2 (fun k => ?_) (fun _ => ?_)⟩
      · have k := (two z).symm.trans k
        rw [decide_eq_false n2, decide_eq_false n3] at k
        cases k
      refine ⟨.ref a, rfl, .ref a, f, rfl, tk.same s0, fun H1 b xs s1 hb txs => ⟨b, rfl, ⟨_, SqT.of hb⟩, fun D nD => ?_⟩⟩
      replace s1 := s0.trans s1
      have lxs : xs.length = f.inner.length := by rw [txs.length, List.length_map]
      have few : f.inner.length ≤ 4 := Fm.inner_few ok
      have har1 := s1 _ _ har
      refine lc_tup (K := K) (a := b) (xs := xs) (fun i H' => Same H1 (hd1 D H') ∧ H' D = some (.lst (((f.inner.take i).map (Fm.wo r)).map V.int))) ⟨hd1_of (same_upd nD) nD, upd_same⟩ (fun i H' _ z => SqT.of (hd1_le _ _ (z.1 _ _ hb))) ?_ ?_
      · rintro i u H2 hu ⟨s2, hD⟩
        obtain ⟨g, hg, tg⟩ := txs.at hu
        have gm := List.mem_of_getElem? hg
        have k2 : Same H1 H2 := fun b o z => hd1_le _ _ (s2 b o z)
        have il := (List.getElem?_eq_some_iff.mp hg).1
        refine ⟨rfl, u, rfl, .ref ar, rfl, u, g, m, ar, r, rfl, tg.same k2, Fm.inner_ok ok gm, by have := Fm.inner_dep gm; omega, k2 _ _ har1, hl, hr01, fun H3 s3 => ⟨_, s3 _ _ hD, ?_, (s2.trans (hd1_same s3)).trans hd1_upd, ?_⟩⟩
        · rw [List.length_map, List.length_map, List.length_take]
          exact Nat.lt_of_le_of_lt (show min i f.inner.length ≤ 4 by omega) (by decide)
        · rw [upd_same, List.take_add_one, hg, List.map_append, List.map_append]
          rfl
      · rintro H2 ⟨s2, hD⟩
        rw [lxs, List.take_length] at hD
        have k2 : Same H1 H2 := fun b o z => hd1_le _ _ (s2 b o z)
        have q := q H2 (s1.trans k2)
        rcases sorts with ⟨rfl, g, rfl⟩ | ⟨c, fs, rfl, rfl, nf⟩
        · refine ⟨.str wNot, rfl, rfl, _, rfl, ite2 (fun _ => ?_) (fun k => absurd (decide_eq_true rfl) k)⟩
          exact ⟨.ref D, rfl, D, _, 0, .int (g.wo r), rfl, rfl, SqL.of hD, rfl, _, _, rfl, rfl, q⟩
        · have ei : (Fm.op c fs).inner = fs := rfl
          rw [ei] at hD
          have isin : ∀ (k : Int) (ns : List Int), inV (.int k) (ns.map V.int) = decide (k ∈ ns) := fun k ns => by
            induction ns with
            | nil => rfl
            | cons y s ih =>
              show (eqV (.int y) (.int k) || inV (.int k) (s.map V.int)) = _
              rw [ih]
              have e : eqV (.int y) (.int k) = decide (y = k) := by
                first
                  | rfl
                  | simp [eqV]
              rw [e, Bool.eq_iff_iff, Bool.or_eq_true, decide_eq_true_eq, decide_eq_true_eq, decide_eq_true_eq, List.mem_cons]
              exact ⟨fun h => h.imp Eq.symm id, fun h => h.imp Eq.symm id⟩
          refine ⟨.str (wOp c), rfl, rfl, _, rfl, ite2 (fun e => absurd (V.str.inj (of_decide_eq_true e)) (by cases c <;> decide +kernel)) (fun _ => ?_)⟩
          have qe : (Fm.op c fs).wo r = if c = true then (if 0 ∈ fs.map (Fm.wo r) then 0 else 1) else (if 1 ∈ fs.map (Fm.wo r) then 1 else 0) := by
            rw [← Fm.wos_map]
            rfl
          rw [qe] at q
          have fl : (fs.map (Fm.wo r)).map V.int = (fs.map (Fm.wo r)).map V.int := rfl
          have scal : ∀ ns : List Int, (ns.map V.int).all flatV = true := fun ns => List.all_eq_true.mpr fun x hx => by
            obtain ⟨y, _, rfl⟩ := List.mem_map.mp hx
            rfl
          cases c with
          | true =>
            refine ⟨.str wAnd, rfl, rfl, _, rfl, ite2 (fun _ => ?_) (fun k => absurd (decide_eq_true rfl) k)⟩
            rw [if_pos rfl] at q
            refine ⟨.ref D, rfl, D, _, rfl, .inl (SqL.of hD), rfl, scal _, .inr ⟨_, rfl, ?_⟩⟩
            rw [if_pos rfl, isin]
            by_cases z : 0 ∈ fs.map (Fm.wo r)
            · rw [if_pos z] at q
              rw [decide_eq_true z]
              exact q
            · rw [if_neg z] at q
              rw [decide_eq_false z]
              exact q
          | false =>
            refine ⟨.str wOr, rfl, rfl, _, rfl, ite2 (fun k => absurd (V.str.inj (of_decide_eq_true k)) (by decide +kernel)) (fun _ => ?_)⟩
            rw [if_neg (by decide)] at q
            refine ⟨.ref D, rfl, D, _, rfl, .inl (SqL.of hD), rfl, scal _, .inr ⟨_, rfl, ?_⟩⟩
            rw [if_neg Bool.false_ne_true, isin]
            by_cases z : 1 ∈ fs.map (Fm.wo r)
            · rw [if_pos z] at q
              rw [decide_eq_true z]
              exact q
            · rw [if_neg z] at q
              rw [decide_eq_false z]
              exact q

end
end Gk

set_option Elab.async false
set_option linter.all false
set_option maxRecDepth 100000
set_option maxHeartbeats 1000000
set_option pp.maxSteps 1500
set_option pp.deepTerms false
namespace Gk
open PySem PySem.Spec PyProof.Rows L2
/-! ### sum(elt for tg in iter ..), of ints -/
namespace GxS
open PySem PySem.Spec PyProof.Rows L2
section
variable {X : Cx} {A A' : Around} {s_0 : Shared} {H_0 : Hp} {cenv : Env} {fp : List Addr} {tn : Nat → Heap → Prop} {ga S : Addr} {gn n : Nat} {go : Obj}
def ACs (ga : Addr) (go : Obj) (S : Addr) (a : Int) (cp : List (Addr × Obj)) : Prop := ∃ (t : Tok) (c : Nat), cp = [(ga, go), (S, lstObj #[.int a t] c)]
def YdS (a : Int) (y : V) (H : Hp) (Nx : Int → Hp → Prop) : Prop := ∃ i : Int, y = .int i ∧ InLong i ∧ InLong (a + i) ∧ Nx (a + i) H
theorem lst_one {a a' : Int} {t t' : Tok} {c c' : Nat} (h : some (lstObj #[Value.int a t] c) = some (lstObj #[Value.int a' t'] c')) : a' = a := by
  have h1 := congrArg Obj.data (Option.some.inj h)
  have h2 : #[Value.int a t] = #[Value.int a' t'] := by
    have h1 : (lstObj #[Value.int a t] c).data = (lstObj #[Value.int a' t'] c').data := h1
    unfold lstObj at h1
    injection h1
  have h3 : [Value.int a t] = [Value.int a' t'] := congrArg Array.toList h2
  have h4 := (List.cons.inj h3).1
  injection h4 with h5 _
  exact h5.symm
theorem sum_gx {R : Result → Shared → Prop} {End : Int → Hp → Prop} (hh : A.handled = none) (hroom : A.depth < recursionLimit) (hG : GenObj go gn) (hSa : S ≠ ga) (far : (gblk X A' s_0 H_0 cenv fp).s_0.heap.objs.size ≤ S) (hSc : ∀ x c, cenv.cells.lookup x = some c → c ≠ S)
    (keep : ∀ i h h', tn i h → (∀ b ∈ fp, ∀ o, h.get? b = some o → h'.get? b = some o) → tn i h') (hSf : ∀ b ∈ fp, b ≠ S)
    (yes : ∀ (σ : L2.St) (H : Hp) (a : Int) (t : Tok) (cp : List (Addr × Obj)) (s1 : Shared), Inv (gblk X A' s_0 H_0 cenv fp) cp σ H s1 → End a H → R (.ok (.ret (.int a t))) s1) :
    ∀ (n : Nat) (s : Shared) (a : Int) (t : Tok) (c : Nat), s.heap.NoLimit → s.heap.get? ga = some go → s.heap.get? S = some (lstObj #[.int a t] c) → (∃ gs, s.gens[gn]? = some gs ∧ gs.Goes (model X.prog X.w) A.in1.in1 (RG (gblk X A' s_0 H_0 cenv fp) (ACs ga go S) End)
      (YG (gblk X A' s_0 H_0 cenv fp) fp tn (ACs ga go S) YdS) n (.send .none) (s.setGen gn .running)) →
      codeAny (model X.prog X.w) A (.builtin "sum.loop" ⟨[.ref ga, .ref S, rawInt 0, rawInt 0], []⟩) R s := by
  intro n
  induction n using Nat.strongRecOn with
  | ind n ih =>
    rintro s a t c hl e hS ⟨gs, hgs, hgo⟩
    refine codeAny_builtin F.entry_sum_loop ?_
    rw [Around.under_plainId F.plain_sum_loop _]
    show wpAny _ A.in1 (seqItems? (.ref S) >>= _) _ _ s
    refine wpAny_bind (wpAny_seqItems hS rfl ?_)
    show wpAny _ A.in1 (tryCatch (pyNext (.ref ga)) _ >>= _) _ _ s
    refine wpAny_bind (wpAny_tryCatch (next_gx2 (A := A.in1) hh hroom hl hG e hgs hgo (fun a' x σ H i cp Nx v s1 gs' r hac tie I st hy at_ kap => ?_) fun a' σ H cp s1 hac tie I q => ?_))
    · obtain ⟨t', c', rfl⟩ := hac
      have e1 := tie (S, lstObj #[.int a' t'] c') (List.mem_cons_of_mem _ List.mem_cons_self)
      rw [hS] at e1
      obtain rfl := lst_one e1
      obtain ⟨j, rfl, ⟨f1, f2⟩, ⟨f3, f4⟩, nx⟩ := hy
      obtain ⟨tk, rfl⟩ := (show ∃ t, v = Value.int j t from r)
      have pS := I.pin (S, lstObj #[.int a' t'] c') (List.mem_append_right _ (List.mem_cons_of_mem _ List.mem_cons_self))
      have I0 : Inv (gblk X A' s_0 H_0 cenv fp) [(ga, go)] σ H s1 := I.pins_of fun p hp => I.pin p (List.mem_append_right _ (by rw [List.mem_singleton.mp hp]; exact List.mem_cons_self))
      have I1 := I0.turned (t' := s1.toks + 1) (h' := s1.heap.update S (Obj.mapSeq (fun _ => #[Value.int (a' + j) s1.toks]))) (it := S) (fun b o hb q => (Heap.get?_update_other _ _ (Ne.symm hb)).trans q) pS.2.1 pS.2.2.1 (.inr far) hSc (fun p hp => by rw [List.mem_singleton.mp (show p ∈ [(ga, go)] by simpa using hp)]; exact Ne.symm hSa)
      have e2 := Heap.get?_update_self (Obj.mapSeq (fun _ => #[Value.int (a' + j) s1.toks])) pS.1 rfl
      have pG := I1.pin (ga, go) (List.mem_append_right _ List.mem_cons_self)
      have hc : ((decide (-(2 ^ 63) ≤ j) && decide (j < 2 ^ 63)) && (decide (-(2 ^ 63) ≤ a' + j) && decide (a' + j < 2 ^ 63))) = true := by
        simp only [Bool.and_eq_true, decide_eq_true_eq]
        exact ⟨⟨f1, f2⟩, f3, f4⟩
      show wpAny _ A.in1 (if (_ : Bool) = true then (mkInt (a' + j) >>= _) else _) _ _ _
      split
      · refine wpAny_bind (wpAny_mkInt ?_)
        show wpAny _ A.in1 (updateSeq S (fun _ => #[Value.int (a' + j) s1.toks]) >>= _) _ _ _
        refine wpAny_bind ?_
        obtain ⟨m, hm, z⟩ := kap (a' + j) [(ga, go), (S, _)] (({ s1 with toks := s1.toks + 1, heap := s1.heap.update S (Obj.mapSeq (fun _ => #[Value.int (a' + j) s1.toks])) } : Shared).setGen gn .running) nx ⟨_, _, rfl⟩ (inv_moved (I1.pins_of fun p hp => by
          rcases List.mem_cons.mp hp with z | z
          · rw [z]; exact pG
          · rw [List.mem_singleton.mp z]; exact ⟨e2, pS.2.1, pS.2.2.1, pS.2.2.2.1, fun v q => by cases q⟩) rfl (allBare_setGen (s := { s1 with toks := s1.toks + 1, heap := s1.heap.update S (Obj.mapSeq (fun _ => #[Value.int (a' + j) s1.toks])) }) I1.bare rfl) fun _ _ q => q) (keep _ _ _ st fun b hb o q => (Heap.get?_update_other _ _ (Ne.symm (hSf b hb))).trans q)
        refine wpAny_updateSeq pS.1 rfl (wpAny_pure ⟨plainId_quiet F.plain_sum_loop _, ih m (by omega) _ (a' + j) s1.toks _ I1.nolimit pG.1 e2 ⟨gs', at_, z⟩⟩)
      · rename_i hneg
        exact absurd hc hneg
    · obtain ⟨t', c', rfl⟩ := hac
      have e1 := tie (S, lstObj #[.int a' t'] c') (List.mem_cons_of_mem _ List.mem_cons_self)
      rw [hS] at e1
      obtain rfl := lst_one e1
      exact wpAny_pure (yes σ H a' t _ s1 I q)
end
section
variable {X : Cx}
def tSumX (P : Addr) (wi : TI) (g : TG) (tt : TT) (te : TE) (vs : List Nat) : TE := fun σ H Q => wi σ H fun J H1 => GxR.TabG H1 P ∧ ∀ H2, GxR.Tabbed P H1 H2 → ∃ W : Nat → Nat → Int → Hp → Prop, (∃ m, W 0 m 0 H2) ∧
  tGx J g tt te (wipe σ vs) vs (fun a H => Q (.int a) H) YdS W
theorem pe_sumX {c P : Addr} {elt tg iter : Expr} {ifs : List Expr} {p pos gpos : Pos} {scope : Scope} {own : List (Str × Nat)} {wi : TI} {g : TG} {tt : TT} {te : TE} {k : Nat}
    (hr : Room (k + 1) X.A) (hc : X.calm = true) (hN : X.N.Nodup) (hgl : Gl X "sum") (hm : X.mg "sum" = none) (hb : bootBuiltins "sum" = some (.builtin "sum")) (TB : GxR.TabB X.base X.mg c P) (hcode : X.env.code = .ref c)
    (hco : scope.isCoroutine = false) (hdot : scope.names.lookup (".0" : Str) = some NameKind.local) (nocell : ∀ y ∈ scope.names, y.2 ≠ .cell) (ok : BlkOk X.N X.env.scope scope own) (hi : PI X tg iter wi)
    (hg : ∀ (A' : Around) (s : Shared) (H : Hp) (C : Addr) (cl : List (Str × Addr)) (code : Value) (fp : List Addr), Room k A' → A'.guards = X.A.guards → PG (gblk X A' s H (genEnv scope cl C code builtinsNs X.env) fp) tg g)
    (ht : ∀ (A' : Around) (s : Shared) (H : Hp) (C : Addr) (cl : List (Str × Addr)) (code : Value) (fp : List Addr), Room k A' → A'.guards = X.A.guards → PTs (gblk X A' s H (genEnv scope cl C code builtinsNs X.env) fp) ifs tt)
    (he : ∀ (A' : Around) (s : Shared) (H : Hp) (C : Addr) (cl : List (Str × Addr)) (code : Value) (fp : List Addr), Room k A' → A'.guards = X.A.guards → PE (gblk X A' s H (genEnv scope cl C code builtinsNs X.env) fp) elt te)
    (hs : ∀ v, genFold iter X.env v = pure v)
    (hst : starEach [.GeneratorExp elt [⟨tg, iter, ifs, 0⟩] scope gpos] X.env = (false, eval (.GeneratorExp elt [⟨tg, iter, ifs, 0⟩] scope gpos) X.env) :: starEach [] X.env := by rfl) :
    PE X (.Call (.Name "sum" p) [.GeneratorExp elt [⟨tg, iter, ifs, 0⟩] scope gpos] [] pos) (tSumX P wi g tt te (own.map (·.2))) := by
  refine ⟨fun pins s σ H Q I h => ?_⟩
  refine wpAny_Call_Name_kw (ld_blt I hgl hm hb ?_)
  refine PyProof.Rows.callWith_builtin1 ?_ hst (by rfl)
  rw [hst]
  show wpAny _ _ (spliced ((false, eval (.GeneratorExp elt [⟨tg, iter, ifs, 0⟩] scope gpos) X.env) :: backTo pos (starEach [] X.env))) _ _ s
  refine Calls.spliced_cons (gx_make (A := X.A.in1.in1) hr ⟨rfl, rfl, rfl, rfl, (by show X.A.units + 1 + 1 ≤ _; omega)⟩ hc hN TB hcode hco hdot nocell ok hi hg ht he hs I h fun J H1 H2 u s5 hR hT hG => ?_)
  obtain ⟨A', s_0, H_0, cenv, fp, ga, gn, go, tn, gs, rfl, hGO, hgs, hbare, I5, st5, nf, hlt, keep, back, goes⟩ := hG
  obtain ⟨W, ⟨m, w0⟩, turn⟩ := hR H2 hT
  refine Calls.spliced_nil ?_
  have pin5 := (I5.pin (ga, go) (List.mem_append_right _ List.mem_cons_self)).1
  have glt : ga < s5.heap.objs.size := Heap.lt_size pin5
  have hSI : s5.heap.objs.size ≠ ga := Nat.ne_of_gt glt
  refine call_function_tree F.kind_sum F.plain_sum F.entry_sum (F.args_sum1 _) ?_
  unfold Builtin.«sum»
  simp only [List.length_cons, List.length_nil]
  rw [if_neg (by decide)]
  refine wpAny_bind (wpAny_of_eq (show Builtin.Builtins.bindParams "sum" ["start"] 0 { } = pure [none] from rfl) ?_)
  refine wpAny_bind (wpAny_pyIter_gen (hGO.isGen pin5) ?_)
  refine wpAny_bind (wpAny_mkInt ?_)
  refine wpAny_bind (wpAny_pure ?_)
  simp only [List.forIn_cons, List.forIn_nil]
  refine wpAny_bind (wpAny_bind (wpAny_bind (wpAny_isInstance (T := "int") (b := false) (typeIs_int _ _ _) PySem.sub_int_str ?_)))
  simp only [Bool.false_eq_true, if_false]
  refine wpAny_pure (wpAny_bind (wpAny_bind (wpAny_isInstance (T := "int") (b := false) (typeIs_int _ _ _) PySem.sub_int_bytes ?_)))
  simp only [Bool.false_eq_true, if_false]
  refine wpAny_pure (wpAny_bind (wpAny_bind (wpAny_isInstance (T := "int") (b := false) (typeIs_int _ _ _) PySem.sub_int_bytearray ?_)))
  simp only [Bool.false_eq_true, if_false]
  refine wpAny_pure (wpAny_pure ?_)
  refine wpAny_bind (wpAny_newObj_type ?_)
  have k1 : ∀ b o, s5.heap.get? b = some o → (s5.heap.push { cls := .type "list", data := .seq [Value.int 0 s5.toks].toArray }).get? b = some o := fun b o e => Heap.get?_push_of_some _ e
  have hS₁ : (s5.heap.push { cls := .type "list", data := .seq [Value.int 0 s5.toks].toArray }).get? s5.heap.objs.size = some (lstObj #[.int 0 s5.toks] 0) := Heap.get?_push_size _ rfl
  have fS : FpOk (gblk X A' s_0 H_0 cenv fp) [(ga, go)] H2 s5.heap.objs.size := I5.fpOk (Nat.le_refl _) (I5.hok.fresh (Nat.le_refl _))
  have hfS : ∀ b ∈ fp, b ≠ s5.heap.objs.size := fun b hb => Nat.ne_of_lt (Nat.lt_trans (hlt b hb) glt)
  have I6 := inv_moved (s' := { s5 with toks := s5.toks + 1, heap := s5.heap.push { cls := .type "list", data := .seq [Value.int 0 s5.toks].toArray } }) I5 rfl I5.bare k1
  refine wpAny_pure ⟨plainId_quiet F.plain_sum_loop _, sum_gx (A' := A') (s_0 := s_0) (H_0 := H_0) (cenv := cenv) (fp := fp) (tn := tn) (go := go) (gn := gn) (End := fun a H => Q (.int a) H) hr.hd hr.depth hGO hSI (Nat.le_trans I5.sz (Nat.le_refl _)) fS.2.2.2.2.1 keep hfS
    (fun σ' H' a t cp s1 I1 q => ⟨.int a, H', back _ _ _ _ I1, ⟨t, rfl⟩, q⟩) (m + 1) _ 0 s5.toks 0 I6.nolimit (k1 _ _ pin5) hS₁ ⟨gs, hgs, ?_⟩⟩
  refine goes Int (ACs ga go s5.heap.objs.size) _ YdS W m (m + 1) 0 [(ga, go), (s5.heap.objs.size, lstObj #[.int 0 s5.toks] 0)] _ turn w0 (Nat.lt_succ_self _) (fun a cp hac p hp b hb z => ?_) ⟨_, _, rfl⟩
    (inv_moved (I6.pins_of fun p hp => ?_) rfl (allBare_setGen (s := { s5 with toks := s5.toks + 1, heap := _ }) I5.bare rfl) fun _ _ q => q) (keep _ _ _ st5 fun b hb o q => k1 b o q)
  · obtain ⟨t, c, rfl⟩ := hac
    rcases List.mem_cons.mp hp with e | e
    · rw [e] at z
      exact absurd (hlt b hb) (by rw [← z]; exact Nat.lt_irrefl _)
    · rw [List.mem_singleton.mp e] at z
      exact hfS b hb z.symm
  · rcases List.mem_cons.mp hp with e | e
    · rw [e]
      exact I6.pin (ga, go) (List.mem_append_right _ List.mem_cons_self)
    · rw [List.mem_singleton.mp e]
      exact ⟨hS₁, fS.1, fS.2.1, fS.2.2.1, fun v q => by cases q⟩
end
end GxS

/-! ### min(elt for tg in iter ..), of ints -/
namespace GxM
open PySem PySem.Spec PyProof.Rows L2
section
variable {X : Cx} {A A' : Around} {s_0 : Shared} {H_0 : Hp} {cenv : Env} {fp : List Addr} {tn : Nat → Heap → Prop} {ga S : Addr} {gn n : Nat} {go : Obj}
/-- what the loop's box holds: nothing yet, or the least so far, twice -/
def boxM : Option Int → Tok → Array Value
  | none, _ => #[]
  | some m, t => #[.int m t, .int m t]
def ACm (ga : Addr) (go : Obj) (S : Addr) (a : Option Int) (cp : List (Addr × Obj)) : Prop := ∃ (t : Tok) (c : Nat), cp = [(ga, go), (S, lstObj (boxM a t) c)]
def lessM : Option Int → Int → Int
  | none, i => i
  | some m, i => if i < m then i else m
def YdM (a : Option Int) (y : V) (H : Hp) (Nx : Option Int → Hp → Prop) : Prop := ∃ i : Int, y = .int i ∧ Nx (some (lessM a i)) H
theorem box_one {a a' : Option Int} {t t' : Tok} {c c' : Nat} (h : some (lstObj (boxM a t) c) = some (lstObj (boxM a' t') c')) : a' = a := by
  have h1 : (lstObj (boxM a t) c).data = (lstObj (boxM a' t') c').data := congrArg Obj.data (Option.some.inj h)
  unfold lstObj at h1
  injection h1 with h2
  cases a with
  | none =>
    cases a' with
    | none => rfl
    | some m' => exact absurd (congrArg Array.size h2) (by show ¬ 0 = 2; decide)
  | some m =>
    cases a' with
    | none => exact absurd (congrArg Array.size h2) (by show ¬ 2 = 0; decide)
    | some m' =>
      have h3 : [Value.int m t, Value.int m t] = [Value.int m' t', Value.int m' t'] := congrArg Array.toList h2
      have h4 := (List.cons.inj h3).1
      injection h4 with h5 _
      rw [h5]
theorem cmp_lt {prog : Program} {w : World} {A : Around} {i j : Int} {t u : Tok} {s : Shared} {Q : Value → Shared → Prop} {E : Value → Shared → Prop} (h : Q (.bool (decide (i < j))) s) : wpAny (model prog w) A (richCompare .Lt (.int i t) (.int j u)) Q E s :=
  richCompare_gives (op := .Lt) (typeIs_int s _ t) (typeIs_int s _ u) F.slot_int_lt F.entry_int_lt (F.args_int_lt_2 _ _) (gives_int_lt _ _ t u) (fun x => nomatch x) h
theorem min_gx {R : Result → Shared → Prop} {End : Option Int → Hp → Prop} (hh : A.handled = none) (hroom : A.depth < recursionLimit) (hG : GenObj go gn) (hSa : S ≠ ga) (far : (gblk X A' s_0 H_0 cenv fp).s_0.heap.objs.size ≤ S) (hSc : ∀ x c, cenv.cells.lookup x = some c → c ≠ S)
    (keep : ∀ i h h', tn i h → (∀ b ∈ fp, ∀ o, h.get? b = some o → h'.get? b = some o) → tn i h') (hSf : ∀ b ∈ fp, b ≠ S) (noE : ∀ H, ¬ End none H)
    (yes : ∀ (σ : L2.St) (H : Hp) (m : Int) (t : Tok) (cp : List (Addr × Obj)) (s1 : Shared), Inv (gblk X A' s_0 H_0 cenv fp) cp σ H s1 → End (some m) H → R (.ok (.ret (.int m t))) s1) :
    ∀ (n : Nat) (s : Shared) (a : Option Int) (t : Tok) (c : Nat), s.heap.NoLimit → s.heap.get? ga = some go → s.heap.get? S = some (lstObj (boxM a t) c) → (∃ gs, s.gens[gn]? = some gs ∧ gs.Goes (model X.prog X.w) A.in1.in1 (RG (gblk X A' s_0 H_0 cenv fp) (ACm ga go S) End)
      (YG (gblk X A' s_0 H_0 cenv fp) fp tn (ACm ga go S) YdM) n (.send .none) (s.setGen gn .running)) →
      codeAny (model X.prog X.w) A (.builtin "min.loop" ⟨[.ref ga, .none, .ref S], []⟩) R s := by
  have nm : (toString "min" ++ toString ".loop" : String) = "min.loop" := by decide
  intro n
  induction n using Nat.strongRecOn with
  | ind n ih =>
    rintro s a t c hl e hS ⟨gs, hgs, hgo⟩
    refine codeAny_builtin F.entry_min_loop ?_
    rw [Around.under_plainId F.plain_min_loop _]
    show wpAny _ A.in1 (seqItems? (.ref S) >>= _) _ _ s
    refine wpAny_bind (wpAny_seqItems hS rfl ?_)
    show wpAny _ A.in1 (tryCatch (pyNext (.ref ga)) _ >>= _) _ _ s
    refine wpAny_bind (wpAny_tryCatch (next_gx2 (A := A.in1) hh hroom hl hG e hgs hgo (fun a' x σ H i cp Nx v s1 gs' r hac tie I st hy at_ kap => ?_) fun a' σ H cp s1 hac tie I q => ?_))
    · obtain ⟨t', c', rfl⟩ := hac
      have e1 := tie (S, lstObj (boxM a' t') c') (List.mem_cons_of_mem _ List.mem_cons_self)
      rw [hS] at e1
      obtain rfl := box_one e1
      obtain ⟨j, rfl, nx⟩ := hy
      obtain ⟨tk, rfl⟩ := (show ∃ t, v = Value.int j t from r)
      have pS := I.pin (S, lstObj (boxM a' t') c') (List.mem_append_right _ (List.mem_cons_of_mem _ List.mem_cons_self))
      have pG0 := I.pin (ga, go) (List.mem_append_right _ List.mem_cons_self)
      have I0 : Inv (gblk X A' s_0 H_0 cenv fp) [(ga, go)] σ H s1 := I.pins_of fun p hp => I.pin p (List.mem_append_right _ (by rw [List.mem_singleton.mp hp]; exact List.mem_cons_self))
      -- a new least is laid
      have lay : ∀ u : Nat, codeAny (model X.prog X.w) A (.builtin "min.loop" ⟨[.ref ga, .none, .ref S], []⟩) R { s1 with heap := s1.heap.update S (Obj.mapSeq (fun _ => #[Value.int (lessM a' j) u, Value.int (lessM a' j) u])) } := fun u => by
        have I1 := I0.turned (t' := s1.toks) (h' := s1.heap.update S (Obj.mapSeq (fun _ => #[Value.int (lessM a' j) u, Value.int (lessM a' j) u]))) (it := S) (fun b o hb q => (Heap.get?_update_other _ _ (Ne.symm hb)).trans q) pS.2.1 pS.2.2.1 (.inr far) hSc (fun p hp => by rw [List.mem_singleton.mp (show p ∈ [(ga, go)] by simpa using hp)]; exact Ne.symm hSa)
        have e2 := Heap.get?_update_self (Obj.mapSeq (fun _ => #[Value.int (lessM a' j) u, Value.int (lessM a' j) u])) pS.1 rfl
        have pG := I1.pin (ga, go) (List.mem_append_right _ List.mem_cons_self)
        obtain ⟨m, hm, z⟩ := kap (some (lessM a' j)) [(ga, go), (S, _)] (({ s1 with heap := s1.heap.update S (Obj.mapSeq (fun _ => #[Value.int (lessM a' j) u, Value.int (lessM a' j) u])) } : Shared).setGen gn .running) nx ⟨u, _, rfl⟩ (inv_moved (I1.pins_of fun p hp => by
          rcases List.mem_cons.mp hp with z | z
          · rw [z]; exact pG
          · rw [List.mem_singleton.mp z]; exact ⟨e2, pS.2.1, pS.2.2.1, pS.2.2.2.1, fun v q => by cases q⟩) rfl (allBare_setGen (s := { s1 with heap := s1.heap.update S (Obj.mapSeq (fun _ => #[Value.int (lessM a' j) u, Value.int (lessM a' j) u])) }) I1.bare rfl) fun _ _ q => q) (keep _ _ _ st fun b hb o q => (Heap.get?_update_other _ _ (Ne.symm (hSf b hb))).trans q)
        exact ih m (by omega) _ (some (lessM a' j)) u _ I1.nolimit pG.1 e2 ⟨gs', at_, z⟩
      cases a' with
      | none =>
        show wpAny _ A.in1 (updateSeq S (fun _ => #[Value.int j tk, Value.int j tk]) >>= _) _ _ _
        refine wpAny_bind ?_
        refine wpAny_updateSeq (hz := by show 0 ≤ sizeLine; decide) pS.1 rfl ?_
        rw [nm]
        exact wpAny_pure ⟨plainId_quiet F.plain_min_loop _, lay tk⟩
      | some m0 =>
        show wpAny _ A.in1 (tryCatch (holding [Value.int j tk, Value.int j tk] (richCompare .Lt (Value.int j tk) (Value.int m0 t) >>= _)) _ >>= _) _ _ _
        refine wpAny_bind (wpAny_tryCatch (wpAny_holding (wpAny_bind (cmp_lt ?_))))
        refine wpAny_bind (wpAny_holding (wpAny_truthy_bool ?_))
        refine wpAny_bind (wpAny_letGo (wpAny_pure ?_))
        by_cases hlt : j < m0
        · rw [decide_eq_true hlt]
          simp only [if_true]
          refine wpAny_bind ?_
          refine wpAny_updateSeq (hz := by show 2 ≤ sizeLine; decide) pS.1 rfl (wpAny_bind (wpAny_letGo ?_))
          rw [nm]
          have l := lay tk
          rw [show lessM (some m0) j = j from if_pos hlt] at l
          exact wpAny_pure ⟨plainId_quiet F.plain_min_loop _, l⟩
        · rw [decide_eq_false hlt]
          simp only [Bool.false_eq_true, if_false]
          refine wpAny_bind (wpAny_letGo ?_)
          rw [nm]
          rw [show lessM (some m0) j = m0 from if_neg hlt] at nx
          obtain ⟨m, hm, z⟩ := kap (some m0) [(ga, go), (S, lstObj (boxM (some m0) t') c')] (s1.setGen gn .running) nx ⟨t', c', rfl⟩ (inv_moved (I.pins_of fun p hp => I.pin p (List.mem_append_right _ hp)) rfl (allBare_setGen (s := s1) I.bare rfl) fun _ _ q => q) st
          exact wpAny_pure ⟨plainId_quiet F.plain_min_loop _, ih m (by omega) _ (some m0) t' _ I0.nolimit pG0.1 pS.1 ⟨gs', at_, z⟩⟩
    · obtain ⟨t', c', rfl⟩ := hac
      have e1 := tie (S, lstObj (boxM a' t') c') (List.mem_cons_of_mem _ List.mem_cons_self)
      rw [hS] at e1
      obtain rfl := box_one e1
      cases a' with
      | none => exact absurd q (noE H)
      | some m0 =>
        have pS := I.pin (S, lstObj (boxM (some m0) t') c') (List.mem_append_right _ (List.mem_cons_of_mem _ List.mem_cons_self))
        have I0 : Inv (gblk X A' s_0 H_0 cenv fp) [(ga, go)] σ H s1 := I.pins_of fun p hp => I.pin p (List.mem_append_right _ (by rw [List.mem_singleton.mp hp]; exact List.mem_cons_self))
        have I1 := I0.turned (t' := s1.toks) (h' := s1.heap.update S (Obj.mapSeq (fun _ => #[]))) (it := S) (fun b o hb q => (Heap.get?_update_other _ _ (Ne.symm hb)).trans q) pS.2.1 pS.2.2.1 (.inr far) hSc (fun p hp => by rw [List.mem_singleton.mp (show p ∈ [(ga, go)] by simpa using hp)]; exact Ne.symm hSa)
        show wpAny _ A.in1 (updateSeq S (fun _ => #[]) >>= _) _ _ _
        refine wpAny_bind ?_
        exact wpAny_updateSeq (hz := by show 2 ≤ sizeLine; decide) pS.1 rfl (wpAny_bind (wpAny_letGo (wpAny_pure (yes σ H m0 t _ _ I1 q))))
end
section
variable {X : Cx}
def tMinX (P : Addr) (wi : TI) (g : TG) (tt : TT) (te : TE) (vs : List Nat) : TE := fun σ H Q => wi σ H fun J H1 => GxR.TabG H1 P ∧ ∀ H2, GxR.Tabbed P H1 H2 → ∃ W : Nat → Nat → Option Int → Hp → Prop, (∃ m, W 0 m none H2) ∧
  tGx J g tt te (wipe σ vs) vs (fun a H => ∃ m, a = some m ∧ Q (.int m) H) YdM W
theorem pe_minX {c P : Addr} {elt tg iter : Expr} {ifs : List Expr} {p pos gpos : Pos} {scope : Scope} {own : List (Str × Nat)} {wi : TI} {g : TG} {tt : TT} {te : TE} {k : Nat}
    (hr : Room (k + 1) X.A) (hc : X.calm = true) (hN : X.N.Nodup) (hgl : Gl X "min") (hm : X.mg "min" = none) (hb : bootBuiltins "min" = some (.builtin "min")) (TB : GxR.TabB X.base X.mg c P) (hcode : X.env.code = .ref c)
    (hco : scope.isCoroutine = false) (hdot : scope.names.lookup (".0" : Str) = some NameKind.local) (nocell : ∀ y ∈ scope.names, y.2 ≠ .cell) (ok : BlkOk X.N X.env.scope scope own) (hi : PI X tg iter wi)
    (hg : ∀ (A' : Around) (s : Shared) (H : Hp) (C : Addr) (cl : List (Str × Addr)) (code : Value) (fp : List Addr), Room k A' → A'.guards = X.A.guards → PG (gblk X A' s H (genEnv scope cl C code builtinsNs X.env) fp) tg g)
    (ht : ∀ (A' : Around) (s : Shared) (H : Hp) (C : Addr) (cl : List (Str × Addr)) (code : Value) (fp : List Addr), Room k A' → A'.guards = X.A.guards → PTs (gblk X A' s H (genEnv scope cl C code builtinsNs X.env) fp) ifs tt)
    (he : ∀ (A' : Around) (s : Shared) (H : Hp) (C : Addr) (cl : List (Str × Addr)) (code : Value) (fp : List Addr), Room k A' → A'.guards = X.A.guards → PE (gblk X A' s H (genEnv scope cl C code builtinsNs X.env) fp) elt te)
    (hs : ∀ v, genFold iter X.env v = pure v)
    (hst : starEach [.GeneratorExp elt [⟨tg, iter, ifs, 0⟩] scope gpos] X.env = (false, eval (.GeneratorExp elt [⟨tg, iter, ifs, 0⟩] scope gpos) X.env) :: starEach [] X.env := by rfl) :
    PE X (.Call (.Name "min" p) [.GeneratorExp elt [⟨tg, iter, ifs, 0⟩] scope gpos] [] pos) (tMinX P wi g tt te (own.map (·.2))) := by
  refine ⟨fun pins s σ H Q I h => ?_⟩
  refine wpAny_Call_Name_kw (ld_blt I hgl hm hb ?_)
  refine PyProof.Rows.callWith_builtin1 ?_ hst (by rfl)
  rw [hst]
  show wpAny _ _ (spliced ((false, eval (.GeneratorExp elt [⟨tg, iter, ifs, 0⟩] scope gpos) X.env) :: backTo pos (starEach [] X.env))) _ _ s
  refine Calls.spliced_cons (gx_make (A := X.A.in1.in1) hr ⟨rfl, rfl, rfl, rfl, (by show X.A.units + 1 + 1 ≤ _; omega)⟩ hc hN TB hcode hco hdot nocell ok hi hg ht he hs I h fun J H1 H2 u s5 hR hT hG => ?_)
  obtain ⟨A', s_0, H_0, cenv, fp, ga, gn, go, tn, gs, rfl, hGO, hgs, hbare, I5, st5, nf, hlt, keep, back, goes⟩ := hG
  obtain ⟨W, ⟨m, w0⟩, turn⟩ := hR H2 hT
  refine Calls.spliced_nil ?_
  have pin5 := (I5.pin (ga, go) (List.mem_append_right _ List.mem_cons_self)).1
  have glt : ga < s5.heap.objs.size := Heap.lt_size pin5
  have hSI : s5.heap.objs.size ≠ ga := Nat.ne_of_gt glt
  refine call_function_tree F.kind_min F.plain_min F.entry_min (F.args_min1 _) ?_
  unfold Builtin.«min»
  refine wpAny_bind (wpAny_of_eq (show Builtin.Builtins.bindParams "min" ["key", "default"] 0 ⟨[], []⟩ = pure [none, none] from rfl) ?_)
  refine wpAny_bind (wpAny_pure ?_)
  refine wpAny_bind (wpAny_pyIter_gen (hGO.isGen pin5) ?_)
  refine wpAny_bind (wpAny_newObj_type ?_)
  have k1 : ∀ b o, s5.heap.get? b = some o → (s5.heap.push { cls := .type "list", data := .seq #[] }).get? b = some o := fun b o e => Heap.get?_push_of_some _ e
  have hS₁ : (s5.heap.push { cls := .type "list", data := .seq #[] }).get? s5.heap.objs.size = some (lstObj (boxM none 0) 0) := Heap.get?_push_size _ rfl
  have fS : FpOk (gblk X A' s_0 H_0 cenv fp) [(ga, go)] H2 s5.heap.objs.size := I5.fpOk (Nat.le_refl _) (I5.hok.fresh (Nat.le_refl _))
  have hfS : ∀ b ∈ fp, b ≠ s5.heap.objs.size := fun b hb => Nat.ne_of_lt (Nat.lt_trans (hlt b hb) glt)
  have I6 := inv_moved (s' := { s5 with heap := s5.heap.push { cls := .type "list", data := .seq #[] } }) I5 rfl I5.bare k1
  have nm : (toString "min" ++ toString ".loop" : String) = "min.loop" := by decide
  rw [nm]
  refine wpAny_pure ⟨plainId_quiet F.plain_min_loop _, min_gx (A' := A') (s_0 := s_0) (H_0 := H_0) (cenv := cenv) (fp := fp) (tn := tn) (go := go) (gn := gn) (End := fun a H => ∃ m, a = some m ∧ Q (.int m) H) hr.hd hr.depth hGO hSI (Nat.le_trans I5.sz (Nat.le_refl _)) fS.2.2.2.2.1 keep hfS (fun H h => by obtain ⟨m, e, _⟩ := h; cases e)
    (fun σ' H' m t cp s1 I1 q => by obtain ⟨m', e, q⟩ := q; cases e; exact ⟨.int m, H', back _ _ _ _ I1, ⟨t, rfl⟩, q⟩) (m + 1) _ none 0 0 I6.nolimit (k1 _ _ pin5) hS₁ ⟨gs, hgs, ?_⟩⟩
  refine goes (Option Int) (ACm ga go s5.heap.objs.size) _ YdM W m (m + 1) none [(ga, go), (s5.heap.objs.size, lstObj (boxM none 0) 0)] _ turn w0 (Nat.lt_succ_self _) (fun a cp hac p hp b hb z => ?_) ⟨0, 0, rfl⟩
    (inv_moved (I6.pins_of fun p hp => ?_) rfl (allBare_setGen (s := { s5 with heap := _ }) I5.bare rfl) fun _ _ q => q) (keep _ _ _ st5 fun b hb o q => k1 b o q)
  · obtain ⟨t, c, rfl⟩ := hac
    rcases List.mem_cons.mp hp with e | e
    · rw [e] at z
      exact absurd (hlt b hb) (by rw [← z]; exact Nat.lt_irrefl _)
    · rw [List.mem_singleton.mp e] at z
      exact hfS b hb z.symm
  · rcases List.mem_cons.mp hp with e | e
    · rw [e]
      exact I6.pin (ga, go) (List.mem_append_right _ List.mem_cons_self)
    · rw [List.mem_singleton.mp e]
      exact ⟨hS₁, fS.1, fS.2.1, fS.2.2.1, fun v q => by cases q⟩
end
end GxM

/-! ### a generator expression over a list -/
theorem gx_list {α : Type} {K : PySem.W.Frag} {a : Addr} {xs : List V} {g : TG} {tt : TT} {te : TE} {vs : List Nat} {σ0 : L2.St} {End : α → Hp → Prop} {Yd : α → V → Hp → (α → Hp → Prop) → Prop} {a0 : α} {H0 : Hp} (Pv : Nat → α → Hp → Prop) (h0 : Pv 0 a0 H0)
    (hl : ∀ i c H, i ≤ xs.length → Pv i c H → SqL K H a xs)
    (hs : ∀ i x c H, xs[i]? = some x → Pv i c H → g x σ0 H fun σ2 H2 => wipe σ2 vs = σ0 ∧ tt σ2 H2 fun b H3 => if b = true then te σ2 H3 fun y H4 => Yd c y H4 (Pv (i + 1)) else Pv (i + 1) c H3) (hd : ∀ c H, Pv xs.length c H → End c H) :
    ∃ W : Nat → Nat → α → Hp → Prop, (∃ m, W 0 m a0 H0) ∧ tGx (Itl K a) g tt te σ0 vs End Yd W := by
  refine ⟨fun i m c H => m = xs.length - i ∧ i ≤ xs.length ∧ Pv i c H, ⟨xs.length, rfl, Nat.zero_le _, h0⟩, ?_⟩
  rintro i m c H ⟨rfl, hi, p⟩
  by_cases hlt : i < xs.length
  · have hx : xs[i]? = some xs[i] := List.getElem?_eq_getElem hlt
    refine .inr ⟨⟨xs, xs[i], hl i c H hi p, hx⟩, Pv (i + 1), fun c' H' p' => ⟨xs.length - (i + 1), by omega, rfl, hlt, p'⟩, fun x H' y => ?_⟩
    obtain ⟨rfl, y⟩ := y
    exact hs i x c _ (y xs (hl i c _ hi p)) p
  · have e : i = xs.length := by omega
    subst e
    exact .inl ⟨⟨xs, hl _ c H hi p, Nat.le_refl _⟩, hd c H p⟩

section
variable {P : Program} {w : World} {K : PySem.W.Frag} {mg : Str → Option Value} {base : Heap}
end
end Gk

set_option Elab.async false
set_option linter.all false
set_option maxRecDepth 100000
set_option maxHeartbeats 1000000
set_option pp.maxSteps 1500
set_option pp.deepTerms false
namespace Gk
open PySem PySem.Spec PyProof.Rows L2
section
variable {P : Program} {w : World} {K : PySem.W.Frag} {mg : Str → Option Value} {base : Heap}
/-! ### how often a form changes at the most: first worth, last worth, times up -/
structure Tri where
  f : Nat
  l : Nat
  u : Nat
def Tri.Ok (t : Tri) : Prop := t.f ≤ 1 ∧ t.l ≤ 1 ∧ t.f ≤ t.u ∧ t.l ≤ t.u
def Tri.neg (t : Tri) : Tri := ⟨1 - t.f, 1 - t.l, t.u + 1 - t.f - t.l⟩
def Tri.and (s t : Tri) : Tri := ⟨if s.f = 0 then 0 else t.f, if s.l = 0 then 0 else t.l, if s.u = 0 then 0 else if t.u = 0 then 0 else s.u + t.u - 1⟩
def Tri.one : Tri := ⟨1, 1, 1⟩
def Tri.nought : Tri := ⟨0, 0, 0⟩
def Tri.all : List Tri → Tri
  | [] => .one
  | t :: r => t.and (Tri.all r)
def Tri.num (t : Tri) : Nat := 2 * t.u - t.f - t.l
def Tri.le (s t : Tri) : Prop := s.f = t.f ∧ s.l = t.l ∧ s.u ≤ t.u
theorem Tri.mk_eq {f l u f' l' u' : Nat} (a : f = f') (b : l = l') (c : u = u') : (⟨f, l, u⟩ : Tri) = ⟨f', l', u'⟩ := by rw [a, b, c]
theorem Tri.le_refl (t : Tri) : t.le t := ⟨rfl, rfl, Nat.le_refl _⟩
theorem Tri.le.trans {s t r : Tri} (h : s.le t) (k : t.le r) : s.le r := ⟨h.1.trans k.1, h.2.1.trans k.2.1, Nat.le_trans h.2.2 k.2.2⟩
theorem Tri.one_ok : Tri.one.Ok := ⟨by decide, by decide, by decide, by decide⟩
theorem Tri.nought_ok : Tri.nought.Ok := ⟨by decide, by decide, by decide, by decide⟩
theorem Tri.neg_ok {t : Tri} (h : t.Ok) : t.neg.Ok := by
  obtain ⟨a, b, c, d⟩ := h
  exact ⟨by show 1 - t.f ≤ 1; omega, by show 1 - t.l ≤ 1; omega, by show 1 - t.f ≤ t.u + 1 - t.f - t.l; omega, by show 1 - t.l ≤ t.u + 1 - t.f - t.l; omega⟩
theorem Tri.neg_neg {t : Tri} (h : t.Ok) : t.neg.neg = t := by
  obtain ⟨a, b, c, d⟩ := h
  obtain ⟨f, l, u⟩ := t
  exact Tri.mk_eq (by show 1 - (1 - f) = f; dsimp only at *; omega) (by show 1 - (1 - l) = l; dsimp only at *; omega) (by show u + 1 - f - l + 1 - (1 - f) - (1 - l) = u; dsimp only at *; omega)
theorem Tri.neg_le {s t : Tri} (h : s.le t) : s.neg.le t.neg := by
  obtain ⟨a, b, c⟩ := h
  exact ⟨by show 1 - s.f = 1 - t.f; omega, by show 1 - s.l = 1 - t.l; omega, by show s.u + 1 - s.f - s.l ≤ t.u + 1 - t.f - t.l; omega⟩
theorem Tri.and_ok {s t : Tri} (h : s.Ok) (k : t.Ok) : (s.and t).Ok := by
  obtain ⟨a, b, c, d⟩ := h
  obtain ⟨a', b', c', d'⟩ := k
  refine ⟨?_, ?_, ?_, ?_⟩
  · show (if s.f = 0 then 0 else t.f) ≤ 1
    split <;> omega
  · show (if s.l = 0 then 0 else t.l) ≤ 1
    split <;> omega
  · show (if s.f = 0 then 0 else t.f) ≤ (if s.u = 0 then 0 else if t.u = 0 then 0 else s.u + t.u - 1)
    repeat' split
    all_goals omega
  · show (if s.l = 0 then 0 else t.l) ≤ (if s.u = 0 then 0 else if t.u = 0 then 0 else s.u + t.u - 1)
    repeat' split
    all_goals omega
theorem Tri.and_le {s s' t t' : Tri} (h : s.le s') (k : t.le t') : (s.and t).le (s'.and t') := by
  obtain ⟨a, b, c⟩ := h
  obtain ⟨a', b', c'⟩ := k
  refine ⟨?_, ?_, ?_⟩
  · show (if s.f = 0 then 0 else t.f) = (if s'.f = 0 then 0 else t'.f)
    rw [a, a']
  · show (if s.l = 0 then 0 else t.l) = (if s'.l = 0 then 0 else t'.l)
    rw [b, b']
  · show (if s.u = 0 then 0 else if t.u = 0 then 0 else s.u + t.u - 1) ≤ (if s'.u = 0 then 0 else if t'.u = 0 then 0 else s'.u + t'.u - 1)
    repeat' split
    all_goals omega
theorem Tri.and_comm {s t : Tri} (h : s.Ok) (k : t.Ok) : s.and t = t.and s := by
  obtain ⟨a, b, c, d⟩ := h
  obtain ⟨a', b', c', d'⟩ := k
  refine Tri.mk_eq ?_ ?_ ?_
  · repeat' split
    all_goals omega
  · repeat' split
    all_goals omega
  · repeat' split
    all_goals omega
theorem Tri.and_assoc (s t r : Tri) : (s.and t).and r = s.and (t.and r) := by
  refine Tri.mk_eq ?_ ?_ ?_
  · show (if (if s.f = 0 then 0 else t.f) = 0 then 0 else r.f) = (if s.f = 0 then 0 else if t.f = 0 then 0 else r.f)
    by_cases h : s.f = 0
    · rw [if_pos h, if_pos rfl, if_pos h]
    · rw [if_neg h, if_neg h]
  · show (if (if s.l = 0 then 0 else t.l) = 0 then 0 else r.l) = (if s.l = 0 then 0 else if t.l = 0 then 0 else r.l)
    by_cases h : s.l = 0
    · rw [if_pos h, if_pos rfl, if_pos h]
    · rw [if_neg h, if_neg h]
  · show (if (if s.u = 0 then 0 else if t.u = 0 then 0 else s.u + t.u - 1) = 0 then 0 else if r.u = 0 then 0 else (if s.u = 0 then 0 else if t.u = 0 then 0 else s.u + t.u - 1) + r.u - 1) = (if s.u = 0 then 0 else if (if t.u = 0 then 0 else if r.u = 0 then 0 else t.u + r.u - 1) = 0 then 0 else s.u + (if t.u = 0 then 0 else if r.u = 0 then 0 else t.u + r.u - 1) - 1)
    by_cases h : s.u = 0
    · simp [h]
    by_cases h1 : t.u = 0
    · simp [h, h1]
    by_cases h2 : r.u = 0
    · simp [h, h1, h2]
    simp only [h, h1, h2, if_false]
    rw [if_neg (by omega), if_neg (by omega)]
    omega
theorem Tri.one_and {t : Tri} (h : t.Ok) : Tri.one.and t = t := by
  obtain ⟨f, l, u⟩ := t
  refine Tri.mk_eq ?_ ?_ ?_
  · rfl
  · rfl
  · show (if 1 = 0 then 0 else if u = 0 then 0 else 1 + u - 1) = u
    by_cases h : u = 0 <;> simp [h]
theorem Tri.and_one {t : Tri} (h : t.Ok) : t.and Tri.one = t := by rw [Tri.and_comm h Tri.one_ok, Tri.one_and h]
theorem Tri.all_ok : ∀ {ts : List Tri}, (∀ t ∈ ts, t.Ok) → (Tri.all ts).Ok
  | [], _ => Tri.one_ok
  | t :: r, h => Tri.and_ok (h t List.mem_cons_self) (Tri.all_ok fun x hx => h x (List.mem_cons_of_mem _ hx))
theorem Tri.all_app : ∀ {xs ys : List Tri}, (∀ t ∈ ys, t.Ok) → Tri.all (xs ++ ys) = (Tri.all xs).and (Tri.all ys)
  | [], ys, h => (Tri.one_and (Tri.all_ok h)).symm
  | x :: r, ys, h => by
    show x.and (Tri.all (r ++ ys)) = (x.and (Tri.all r)).and (Tri.all ys)
    rw [Tri.all_app h, Tri.and_assoc]
def Tri.op (c : Bool) (ts : List Tri) : Tri := if c = true then Tri.all ts else (Tri.all (ts.map Tri.neg)).neg
theorem Tri.map_ok {ts : List Tri} (h : ∀ t ∈ ts, t.Ok) : ∀ t ∈ ts.map Tri.neg, t.Ok := fun t ht => by
  obtain ⟨s, hs, rfl⟩ := List.mem_map.mp ht
  exact Tri.neg_ok (h s hs)
theorem Tri.op_ok {c : Bool} {ts : List Tri} (h : ∀ t ∈ ts, t.Ok) : (Tri.op c ts).Ok := by
  unfold Tri.op
  split
  · exact Tri.all_ok h
  · exact Tri.neg_ok (Tri.all_ok (Tri.map_ok h))
theorem Tri.map_neg_neg {ts : List Tri} (h : ∀ t ∈ ts, t.Ok) : (ts.map Tri.neg).map Tri.neg = ts := by
  rw [List.map_map]
  conv => rhs; rw [← List.map_id ts]
  exact List.map_congr_left fun t ht => Tri.neg_neg (h t ht)
/-- morgan -/
theorem Tri.op_neg {c : Bool} {ts : List Tri} (h : ∀ t ∈ ts, t.Ok) : Tri.op (!c) (ts.map Tri.neg) = (Tri.op c ts).neg := by
  unfold Tri.op
  cases c with
  | true =>
    show (Tri.all ((ts.map Tri.neg).map Tri.neg)).neg = (Tri.all ts).neg
    rw [Tri.map_neg_neg h]
  | false =>
    show Tri.all (ts.map Tri.neg) = ((Tri.all (ts.map Tri.neg)).neg).neg
    rw [Tri.neg_neg (Tri.all_ok (Tri.map_ok h))]
/-- the parts of a part of the same word -/
theorem Tri.op_flat {c : Bool} {xs ys zs : List Tri} (hx : ∀ t ∈ xs, t.Ok) (hy : ∀ t ∈ ys, t.Ok) (hz : ∀ t ∈ zs, t.Ok) : Tri.op c (xs ++ [Tri.op c ys] ++ zs) = Tri.op c (xs ++ ys ++ zs) := by
  have core : ∀ {xs ys zs : List Tri}, (∀ t ∈ ys, t.Ok) → (∀ t ∈ zs, t.Ok) → Tri.all (xs ++ [Tri.all ys] ++ zs) = Tri.all (xs ++ ys ++ zs) := fun {xs ys zs} hy hz => by
    have h1 : ∀ t ∈ [Tri.all ys], t.Ok := fun t ht => by rw [List.mem_singleton.mp ht]; exact Tri.all_ok hy
    rw [Tri.all_app hz, Tri.all_app hz, Tri.all_app h1, Tri.all_app hy]
    show ((Tri.all xs).and ((Tri.all ys).and Tri.one)).and _ = _
    rw [Tri.and_one (Tri.all_ok hy)]
  unfold Tri.op
  cases c with
  | true =>
    rw [if_pos rfl, if_pos rfl, if_pos rfl]
    exact core hy hz
  | false =>
    rw [if_neg (by decide), if_neg (by decide), if_neg (by decide), List.map_append, List.map_append, List.map_cons, List.map_nil, Tri.neg_neg (Tri.all_ok (Tri.map_ok hy)), core (Tri.map_ok hy) (Tri.map_ok hz), ← List.map_append, ← List.map_append]
theorem Tri.all_swap {xs zs : List Tri} {s t : Tri} (hs : s.Ok) (ht : t.Ok) (hz : ∀ t ∈ zs, t.Ok) : Tri.all (xs ++ s :: t :: zs) = Tri.all (xs ++ t :: s :: zs) := by
  have h1 : ∀ x ∈ s :: t :: zs, x.Ok := fun x hx => by
    rcases List.mem_cons.mp hx with e | hx
    · rw [e]; exact hs
    rcases List.mem_cons.mp hx with e | hx
    · rw [e]; exact ht
    exact hz x hx
  have h2 : ∀ x ∈ t :: s :: zs, x.Ok := fun x hx => by
    rcases List.mem_cons.mp hx with e | hx
    · rw [e]; exact ht
    rcases List.mem_cons.mp hx with e | hx
    · rw [e]; exact hs
    exact hz x hx
  rw [Tri.all_app h1, Tri.all_app h2]
  show _ = (Tri.all xs).and (t.and (s.and (Tri.all zs)))
  rw [← Tri.and_assoc t s, Tri.and_comm ht hs, Tri.and_assoc]
  rfl
theorem Tri.op_swap {c : Bool} {xs zs : List Tri} {s t : Tri} (hs : s.Ok) (ht : t.Ok) (hz : ∀ t ∈ zs, t.Ok) : Tri.op c (xs ++ s :: t :: zs) = Tri.op c (xs ++ t :: s :: zs) := by
  unfold Tri.op
  split
  · exact Tri.all_swap hs ht hz
  · rw [List.map_append, List.map_cons, List.map_cons, List.map_append, List.map_cons, List.map_cons, Tri.all_swap (Tri.neg_ok hs) (Tri.neg_ok ht) (Tri.map_ok hz)]
theorem Tri.op_mono {c : Bool} {xs zs : List Tri} {s t : Tri} (hs : s.Ok) (ht : t.Ok) (hz : ∀ t ∈ zs, t.Ok) (h : s.le t) : (Tri.op c (xs ++ [s] ++ zs)).le (Tri.op c (xs ++ [t] ++ zs)) := by
  have core : ∀ {xs zs : List Tri} {s t : Tri}, s.Ok → t.Ok → (∀ t ∈ zs, t.Ok) → s.le t → (Tri.all (xs ++ [s] ++ zs)).le (Tri.all (xs ++ [t] ++ zs)) := fun {xs zs s t} hs ht hz h => by
    have h1 : ∀ x ∈ [s], x.Ok := fun x hx => by rw [List.mem_singleton.mp hx]; exact hs
    have h2 : ∀ x ∈ [t], x.Ok := fun x hx => by rw [List.mem_singleton.mp hx]; exact ht
    rw [Tri.all_app hz, Tri.all_app hz, Tri.all_app h1, Tri.all_app h2]
    exact Tri.and_le (Tri.and_le (Tri.le_refl _) (Tri.and_le h (Tri.le_refl _))) (Tri.le_refl _)
  unfold Tri.op
  split
  · exact core hs ht hz h
  · rw [List.map_append, List.map_append, List.map_append, List.map_append, List.map_cons, List.map_cons, List.map_nil]
    exact Tri.neg_le (core (Tri.neg_ok hs) (Tri.neg_ok ht) (Tri.map_ok hz) (Tri.neg_le h))
/-- two parts -/
theorem Tri.all_two {s t : Tri} (ht : t.Ok) : Tri.all [s, t] = s.and t := by
  show s.and (t.and Tri.one) = _
  rw [Tri.and_one ht]
def Tri.or (s t : Tri) : Tri := (s.neg.and t.neg).neg
theorem Tri.op_two {c : Bool} {s t : Tri} (ht : t.Ok) : Tri.op c [s, t] = if c = true then s.and t else s.or t := by
  unfold Tri.op
  split
  · exact Tri.all_two ht
  · show (Tri.all [s.neg, t.neg]).neg = _
    rw [Tri.all_two (Tri.neg_ok ht)]
    rfl
theorem Tri.or_ok {s t : Tri} (h : s.Ok) (k : t.Ok) : (s.or t).Ok := Tri.neg_ok (Tri.and_ok (Tri.neg_ok h) (Tri.neg_ok k))
theorem Tri.of_neg {s t : Tri} (hs : s.Ok) (ht : t.Ok) (h : s.neg.le t.neg) : s.le t := by
  have := Tri.neg_le h
  rwa [Tri.neg_neg hs, Tri.neg_neg ht] at this
theorem Tri.neg_and {s t : Tri} (h : s.Ok) (k : t.Ok) : (s.and t).neg = s.neg.or t.neg := by
  unfold Tri.or
  rw [Tri.neg_neg h, Tri.neg_neg k]
theorem Tri.neg_or {s t : Tri} (h : s.Ok) (k : t.Ok) : (s.or t).neg = s.neg.and t.neg := Tri.neg_neg (Tri.and_ok (Tri.neg_ok h) (Tri.neg_ok k))
/-- or, told -/
theorem Tri.or_mk {f l u f' l' u' : Nat} : Tri.or ⟨f, l, u⟩ ⟨f', l', u'⟩ = ⟨1 - (if 1 - f = 0 then 0 else 1 - f'), 1 - (if 1 - l = 0 then 0 else 1 - l'), (if u + 1 - f - l = 0 then 0 else if u' + 1 - f' - l' = 0 then 0 else (u + 1 - f - l) + (u' + 1 - f' - l') - 1) + 1 - (if 1 - f = 0 then 0 else 1 - f') - (if 1 - l = 0 then 0 else 1 - l')⟩ := rfl
theorem Tri.single_and {s : Tri} (h : s.Ok) : s.le (s.and s) := by
  obtain ⟨f, l, u⟩ := s
  obtain ⟨a, b, c, d⟩ := h
  refine ⟨?_, ?_, ?_⟩
  · show f = (if f = 0 then 0 else f)
    split <;> omega
  · show l = (if l = 0 then 0 else l)
    split <;> omega
  · show u ≤ (if u = 0 then 0 else if u = 0 then 0 else u + u - 1)
    repeat' split
    all_goals omega
theorem Tri.single_or {s : Tri} (h : s.Ok) : s.le (s.or s) := Tri.of_neg h (Tri.or_ok h h) (by rw [Tri.neg_or h h]; exact Tri.single_and (Tri.neg_ok h))
theorem Tri.shut_and {s : Tri} (h : s.Ok) : Tri.nought.le (s.and s.neg) := by
  obtain ⟨f, l, u⟩ := s
  obtain ⟨a, b, c, d⟩ := h
  refine ⟨?_, ?_, Nat.zero_le _⟩
  · show 0 = (if f = 0 then 0 else 1 - f)
    split
    · rfl
    · dsimp only at *
      omega
  · show 0 = (if l = 0 then 0 else 1 - l)
    split
    · rfl
    · dsimp only at *
      omega
theorem Tri.shut_or {s : Tri} (h : s.Ok) : Tri.one.le (s.or s.neg) := Tri.of_neg Tri.one_ok (Tri.or_ok h (Tri.neg_ok h)) (by
  rw [Tri.neg_or h (Tri.neg_ok h)]
  exact Tri.shut_and (Tri.neg_ok h))
theorem Tri.absorb_or {s t : Tri} (h : s.Ok) (k : t.Ok) : s.le (s.or (s.and t)) := by
  obtain ⟨f, l, u⟩ := s
  obtain ⟨f', l', u'⟩ := t
  obtain ⟨a, b, c, d⟩ := h
  obtain ⟨a', b', c', d'⟩ := k
  dsimp only at a b c d a' b' c' d'
  have e : Tri.and ⟨f, l, u⟩ ⟨f', l', u'⟩ = ⟨if f = 0 then 0 else f', if l = 0 then 0 else l', if u = 0 then 0 else if u' = 0 then 0 else u + u' - 1⟩ := rfl
  rw [e, Tri.or_mk]
  have F : f = 0 ∨ f = 1 := by omega
  have L : l = 0 ∨ l = 1 := by omega
  have F' : f' = 0 ∨ f' = 1 := by omega
  have L' : l' = 0 ∨ l' = 1 := by omega
  rcases F with rfl | rfl <;> rcases L with rfl | rfl <;> rcases F' with rfl | rfl <;> rcases L' with rfl | rfl <;> refine ⟨by first | rfl | decide, by first | rfl | decide, ?_⟩ <;> simp <;> repeat' split
  all_goals omega
theorem Tri.factor_or {s t r : Tri} (h : s.Ok) (k : t.Ok) (m : r.Ok) : (s.and (t.or r)).le ((s.and t).or (s.and r)) := by
  obtain ⟨f, l, u⟩ := s
  obtain ⟨f', l', u'⟩ := t
  obtain ⟨f2, l2, u2⟩ := r
  obtain ⟨a, b, c, d⟩ := h
  obtain ⟨a', b', c', d'⟩ := k
  obtain ⟨a2, b2, c2, d2⟩ := m
  dsimp only at a b c d a' b' c' d' a2 b2 c2 d2
  have e1 : Tri.and ⟨f, l, u⟩ ⟨f', l', u'⟩ = ⟨if f = 0 then 0 else f', if l = 0 then 0 else l', if u = 0 then 0 else if u' = 0 then 0 else u + u' - 1⟩ := rfl
  have e2 : Tri.and ⟨f, l, u⟩ ⟨f2, l2, u2⟩ = ⟨if f = 0 then 0 else f2, if l = 0 then 0 else l2, if u = 0 then 0 else if u2 = 0 then 0 else u + u2 - 1⟩ := rfl
  rw [e1, e2, Tri.or_mk, Tri.or_mk]
  have F : f = 0 ∨ f = 1 := by omega
  have L : l = 0 ∨ l = 1 := by omega
  have F' : f' = 0 ∨ f' = 1 := by omega
  have L' : l' = 0 ∨ l' = 1 := by omega
  have F2 : f2 = 0 ∨ f2 = 1 := by omega
  have L2 : l2 = 0 ∨ l2 = 1 := by omega
  unfold Tri.and
  rcases F with rfl | rfl <;> rcases L with rfl | rfl <;> rcases F' with rfl | rfl <;> rcases L' with rfl | rfl <;> rcases F2 with rfl | rfl <;> rcases L2 with rfl | rfl <;> refine ⟨by first | rfl | decide, by first | rfl | decide, ?_⟩ <;> simp <;> repeat' split
  all_goals omega
theorem Tri.absorb_and {s t : Tri} (h : s.Ok) (k : t.Ok) : s.le (s.and (s.or t)) := Tri.of_neg h (Tri.and_ok h (Tri.or_ok h k)) (by
  rw [Tri.neg_and h (Tri.or_ok h k), Tri.neg_or h k]
  exact Tri.absorb_or (Tri.neg_ok h) (Tri.neg_ok k))
theorem Tri.factor_and {s t r : Tri} (h : s.Ok) (k : t.Ok) (m : r.Ok) : (s.or (t.and r)).le ((s.or t).and (s.or r)) := Tri.of_neg (Tri.or_ok h (Tri.and_ok k m)) (Tri.and_ok (Tri.or_ok h k) (Tri.or_ok h m)) (by
  rw [Tri.neg_or h (Tri.and_ok k m), Tri.neg_and k m, Tri.neg_and (Tri.or_ok h k) (Tri.or_ok h m), Tri.neg_or h k, Tri.neg_or h m]
  exact Tri.factor_or (Tri.neg_ok h) (Tri.neg_ok k) (Tri.neg_ok m))

/-! ### forms: first worth, last worth, times up -/
mutual
def Fm.tri (a b : List Int) : Fm → Tri
  | .st c => if c = true then .one else .nought
  | .inp i => ⟨(a.getD i 0).toNat, (b.getD i 0).toNat, max (a.getD i 0).toNat (b.getD i 0).toNat⟩
  | .no f => (f.tri a b).neg
  | .op c fs => Tri.op c (Fm.tris a b fs)
def Fm.tris (a b : List Int) : List Fm → List Tri
  | [] => []
  | f :: r => f.tri a b :: Fm.tris a b r
end
theorem Fm.tris_map (a b : List Int) : ∀ fs : List Fm, Fm.tris a b fs = fs.map (Fm.tri a b)
  | [] => rfl
  | f :: r => by
    show f.tri a b :: Fm.tris a b r = _
    rw [Fm.tris_map a b r]
    rfl
theorem row_get {r : List Int} (h : Row01 r) (i : Nat) : r.getD i 0 = 0 ∨ r.getD i 0 = 1 := by
  rw [List.getD_eq_getElem?_getD]
  cases e : r[i]? with
  | none => exact .inl rfl
  | some x => exact h x (List.mem_of_getElem? e)
section
variable {a b : List Int}
mutual
theorem Fm.tri_ok (ha : Row01 a) (hb : Row01 b) : ∀ f : Fm, (f.tri a b).Ok
  | .st c => by cases c <;> first | exact Tri.one_ok | exact Tri.nought_ok
  | .inp i => by
    have x := row_get ha i
    have y := row_get hb i
    refine ⟨?_, ?_, Nat.le_max_left _ _, Nat.le_max_right _ _⟩
    · show (a.getD i 0).toNat ≤ 1
      omega
    · show (b.getD i 0).toNat ≤ 1
      omega
  | .no f => Tri.neg_ok (Fm.tri_ok ha hb f)
  | .op c fs => Tri.op_ok (Fm.tris_ok ha hb fs)
theorem Fm.tris_ok (ha : Row01 a) (hb : Row01 b) : ∀ fs : List Fm, ∀ t ∈ Fm.tris a b fs, t.Ok
  | [], t, h => by cases h
  | f :: r, t, h => by
    rcases List.mem_cons.mp h with e | e
    · rw [e]; exact Fm.tri_ok ha hb f
    · exact Fm.tris_ok ha hb r t e
end
theorem Tri.all_f0 : ∀ ts : List Tri, (Tri.all ts).f = 0 ↔ ∃ t ∈ ts, t.f = 0
  | [] => ⟨fun h => absurd h (by decide), fun ⟨t, h, _⟩ => by cases h⟩
  | t :: r => by
    show (if t.f = 0 then 0 else (Tri.all r).f) = 0 ↔ _
    by_cases h : t.f = 0
    · rw [if_pos h]
      exact ⟨fun _ => ⟨t, List.mem_cons_self, h⟩, fun _ => rfl⟩
    · rw [if_neg h, Tri.all_f0 r]
      exact ⟨fun ⟨s, hs, e⟩ => ⟨s, List.mem_cons_of_mem _ hs, e⟩, fun ⟨s, hs, e⟩ => (List.mem_cons.mp hs).elim (fun k => absurd (k ▸ e) h) fun k => ⟨s, k, e⟩⟩
theorem Tri.all_l0 : ∀ ts : List Tri, (Tri.all ts).l = 0 ↔ ∃ t ∈ ts, t.l = 0
  | [] => ⟨fun h => absurd h (by decide), fun ⟨t, h, _⟩ => by cases h⟩
  | t :: r => by
    show (if t.l = 0 then 0 else (Tri.all r).l) = 0 ↔ _
    by_cases h : t.l = 0
    · rw [if_pos h]
      exact ⟨fun _ => ⟨t, List.mem_cons_self, h⟩, fun _ => rfl⟩
    · rw [if_neg h, Tri.all_l0 r]
      exact ⟨fun ⟨s, hs, e⟩ => ⟨s, List.mem_cons_of_mem _ hs, e⟩, fun ⟨s, hs, e⟩ => (List.mem_cons.mp hs).elim (fun k => absurd (k ▸ e) h) fun k => ⟨s, k, e⟩⟩
mutual
theorem Fm.tri_f (ha : Row01 a) (hb : Row01 b) : ∀ f : Fm, (((f.tri a b).f : Nat) : Int) = f.wo a
  | .st c => by cases c <;> rfl
  | .inp i => by
    have x := row_get ha i
    show (((a.getD i 0).toNat : Nat) : Int) = a.getD i 0
    omega
  | .no f => by
    have h := Fm.tri_f ha hb f
    have k := (Fm.tri_ok ha hb f).1
    show (((1 - (f.tri a b).f : Nat)) : Int) = 1 - f.wo a
    omega
  | .op c fs => by
    have h := Fm.tris_f ha hb fs
    have oks := Fm.tris_ok ha hb fs
    show (((Tri.op c (Fm.tris a b fs)).f : Nat) : Int) = if c = true then (if 0 ∈ Fm.wos a fs then 0 else 1) else (if 1 ∈ Fm.wos a fs then 1 else 0)
    have ok := (Tri.op_ok (c := c) oks).1
    rw [← h]
    cases c with
    | true =>
      have e := Tri.all_f0 (Fm.tris a b fs)
      have ok : (Tri.all (Fm.tris a b fs)).f ≤ 1 := ok
      show (((Tri.all (Fm.tris a b fs)).f : Nat) : Int) = if 0 ∈ (Fm.tris a b fs).map (fun t => ((t.f : Nat) : Int)) then 0 else 1
      by_cases z : ∃ t ∈ Fm.tris a b fs, t.f = 0
      · rw [e.mpr z, if_pos]
        · rfl
        · obtain ⟨t, ht, e⟩ := z
          exact List.mem_map.mpr ⟨t, ht, by omega⟩
      · rw [if_neg]
        · have : ¬ (Tri.all (Fm.tris a b fs)).f = 0 := fun k => z (e.mp k)
          omega
        · rintro k
          obtain ⟨t, ht, e⟩ := List.mem_map.mp k
          exact z ⟨t, ht, by omega⟩
    | false =>
      have e := Tri.all_f0 ((Fm.tris a b fs).map Tri.neg)
      have ok1 := (Tri.all_ok (Tri.map_ok oks)).1
      show (((1 - (Tri.all ((Fm.tris a b fs).map Tri.neg)).f : Nat)) : Int) = if 1 ∈ (Fm.tris a b fs).map (fun t => ((t.f : Nat) : Int)) then 1 else 0
      by_cases z : ∃ t ∈ Fm.tris a b fs, t.f = 1
      · obtain ⟨t, ht, e1⟩ := z
        rw [e.mpr ⟨t.neg, List.mem_map.mpr ⟨t, ht, rfl⟩, by show 1 - t.f = 0; omega⟩, if_pos]
        · rfl
        · exact List.mem_map.mpr ⟨t, ht, by omega⟩
      · rw [if_neg]
        · have : ¬ (Tri.all ((Fm.tris a b fs).map Tri.neg)).f = 0 := fun k => by
            obtain ⟨t, ht, e2⟩ := e.mp k
            obtain ⟨s, hs, rfl⟩ := List.mem_map.mp ht
            have e2 : 1 - s.f = 0 := e2
            have := (oks s hs).1
            exact z ⟨s, hs, by omega⟩
          omega
        · rintro k
          obtain ⟨t, ht, e⟩ := List.mem_map.mp k
          exact z ⟨t, ht, by omega⟩
theorem Fm.tris_f (ha : Row01 a) (hb : Row01 b) : ∀ fs : List Fm, (Fm.tris a b fs).map (fun t => ((t.f : Nat) : Int)) = Fm.wos a fs
  | [] => rfl
  | f :: r => by
    show (((f.tri a b).f : Nat) : Int) :: (Fm.tris a b r).map _ = f.wo a :: Fm.wos a r
    rw [Fm.tri_f ha hb f, Fm.tris_f ha hb r]
end
/-- the other way about -/
def Tri.rev (t : Tri) : Tri := ⟨t.l, t.f, t.u⟩
theorem Tri.rev_and (s t : Tri) : (s.and t).rev = s.rev.and t.rev := rfl
theorem Tri.rev_neg (t : Tri) : t.neg.rev = t.rev.neg := Tri.mk_eq rfl rfl (by show t.u + 1 - t.f - t.l = t.u + 1 - t.l - t.f; omega)
theorem Tri.rev_all : ∀ ts : List Tri, (Tri.all ts).rev = Tri.all (ts.map Tri.rev)
  | [] => rfl
  | t :: r => by
    show (t.and (Tri.all r)).rev = t.rev.and (Tri.all (r.map Tri.rev))
    rw [Tri.rev_and, Tri.rev_all r]
theorem Tri.rev_op (c : Bool) (ts : List Tri) : (Tri.op c ts).rev = Tri.op c (ts.map Tri.rev) := by
  unfold Tri.op
  split
  · exact Tri.rev_all ts
  · rw [Tri.rev_neg, Tri.rev_all, List.map_map, List.map_map]
    congr 2
    exact List.map_congr_left fun t _ => Tri.rev_neg t
mutual
theorem Fm.tri_rev : ∀ f : Fm, (f.tri a b).rev = f.tri b a
  | .st c => by cases c <;> rfl
  | .inp i => Tri.mk_eq rfl rfl (Nat.max_comm _ _)
  | .no f => by
    show (f.tri a b).neg.rev = (f.tri b a).neg
    rw [Tri.rev_neg, Fm.tri_rev f]
  | .op c fs => by
    show (Tri.op c (Fm.tris a b fs)).rev = Tri.op c (Fm.tris b a fs)
    rw [Tri.rev_op, Fm.tris_rev fs]
theorem Fm.tris_rev : ∀ fs : List Fm, (Fm.tris a b fs).map Tri.rev = Fm.tris b a fs
  | [] => rfl
  | f :: r => by
    show (f.tri a b).rev :: (Fm.tris a b r).map Tri.rev = f.tri b a :: Fm.tris b a r
    rw [Fm.tri_rev f, Fm.tris_rev r]
end
theorem Fm.tri_l (ha : Row01 a) (hb : Row01 b) (f : Fm) : (((f.tri a b).l : Nat) : Int) = f.wo b := by
  have := Fm.tri_f hb ha f
  rw [← Fm.tri_rev (a := a) (b := b) f] at this
  exact this
theorem Fm.tri_app (c : Bool) (xs : List Fm) : (Fm.op c xs).tri a b = Tri.op c (xs.map (Fm.tri a b)) := by
  show Tri.op c (Fm.tris a b xs) = _
  rw [Fm.tris_map]
theorem Fm.map_ok (ha : Row01 a) (hb : Row01 b) (xs : List Fm) : ∀ t ∈ xs.map (Fm.tri a b), t.Ok := fun t ht => by
  obtain ⟨f, _, rfl⟩ := List.mem_map.mp ht
  exact Fm.tri_ok ha hb f
theorem Fm.cnts_mem : ∀ {fs : List Fm} {f : Fm}, f ∈ fs → f.cnt ≤ Fm.cnts fs
  | g :: r, f, h => by
    show f.cnt ≤ g.cnt + Fm.cnts r
    rcases List.mem_cons.mp h with e | e
    · rw [e]; omega
    · have := Fm.cnts_mem e
      omega
theorem at_0 (v : V) (r : List V) : atI (v :: r) 0 = some v := atI_nat (j := 0) (xs := v :: r) rfl
theorem at_1 (u v : V) (r : List V) : atI (u :: v :: r) 1 = some v := atI_nat (j := 1) (xs := u :: v :: r) rfl
end

end
end Gk

set_option Elab.async false
set_option linter.all false
set_option maxRecDepth 100000
set_option maxHeartbeats 1000000
set_option pp.maxSteps 1500
set_option pp.deepTerms false
namespace Gk
open PySem PySem.Spec PyProof.Rows L2
section
variable {P : Program} {w : World} {K : PySem.W.Frag} {mg : Str → Option Value} {base : Heap}
/-! ### how often a form changes at the most -/
def Tri.d (t : Tri) : PyData := .tuple [.int ((t.f : Nat) : Int), .int ((t.num : Nat) : Int)]
theorem Tri.noLd (t : Tri) : noL t.d = true := rfl
theorem Tri.inv {H : Hp} {v : V} {t : Tri} (h : Tk H v t.d) : ∃ p, v = .ref p ∧ H p = some (.tup [.int ((t.f : Nat) : Int), .int ((t.num : Nat) : Int)]) := by
  have h : Tk H v (.tuple [.int ((t.f : Nat) : Int), .int ((t.num : Nat) : Int)]) := h
  cases h with
  | @tup p xs _ hp all =>
    cases all with
    | cons a r => cases r with
      | cons b e =>
        cases e
        cases a
        cases b
        exact ⟨p, rfl, hp⟩
theorem Tri.tk {H : Hp} {p : Addr} {f n : Int} {t : Tri} (h : H p = some (.tup [.int f, .int n])) (e1 : f = ((t.f : Nat) : Int)) (e2 : n = ((t.num : Nat) : Int)) : Tk H (.ref p) t.d := by
  subst e1 e2
  exact .tup h (.cons (.int _) (.cons (.int _) .nil))
theorem Tri.num_neg {t : Tri} (h : t.Ok) : t.neg.num = t.num := by
  obtain ⟨a, b, c, d⟩ := h
  show 2 * (t.u + 1 - t.f - t.l) - (1 - t.f) - (1 - t.l) = 2 * t.u - t.f - t.l
  omega
def sp_about (K : PySem.W.Frag) : Sp := fun vs H Q _ => ∃ (v : V) (t : Tri), vs = [v] ∧ Tk H v t.d ∧ t.Ok ∧ ∀ r H', Same H H' → Tk H' r t.neg.d → Q r H'
theorem ok_about (T : Tx w K mg) : FnOk P w K mg base CX0 1 T.f_about T.fd_about ["most"] (sp_about K) := by
  refine T.F_about.ok sc_about (fun vs H Q E h => ?_) (fun cdv A outer s H vs Q E hr h => ?_)
  · obtain ⟨v, t, rfl, _⟩ := h
    rfl
  · obtain ⟨v, t, rfl, tk, ok, q⟩ := h
    refine ⟨_, (pss_cons (ps_asg (pv 0) (pg_tup rfl (pgs_cons (pg_name (i := 1) sc_about.nd rfl (by first | exact .inl rfl | exact .inr rfl)) (pgs_cons (pg_name (i := 2) sc_about.nd rfl (by first | exact .inl rfl | exact .inr rfl)) pgs_nil)))) (pss_one (ps_ret (pe_tup (pa_cons (pe_op op_sub pe_int (pv 1)) (pa_cons (pv 2) pa_nil)))))), ?_⟩
    obtain ⟨p, rfl, hp⟩ := Tri.inv tk
    refine ⟨.ref p, rfl, p, _, rfl, SqT.of hp, rfl, _, _, rfl, _, _, rfl, rfl, ?_⟩
    refine ⟨_, rfl, _, _, rfl, rfl, _, rfl, sl2, fun r nr => ?_⟩
    refine q _ _ (same_upd nr) (Tri.tk upd_same ?_ (by rw [Tri.num_neg ok]))
    have := ok.1
    show (1 : Int) - ((t.f : Nat) : Int) = ((1 - t.f : Nat) : Int)
    omega
theorem Tri.all_snoc {xs : List Tri} {t : Tri} (ok : t.Ok) : Tri.all (xs ++ [t]) = (Tri.all xs).and t := by
  rw [Tri.all_app (fun s hs => by rw [List.mem_singleton.mp hs]; exact ok)]
  show _ = _
  rw [show Tri.all [t] = t from Tri.and_one ok]
theorem Tri.num_eq {t : Tri} (ok : t.Ok) : ((t.num : Nat) : Int) = 2 * (t.u : Int) - (t.f : Int) - (t.l : Int) := by
  obtain ⟨a, b, c, d⟩ := ok
  show ((2 * t.u - t.f - t.l : Nat) : Int) = _
  omega
theorem Tri.last_of {t : Tri} (ok : t.Ok) : Builtin.bitXor ((t.f : Nat) : Int) (Builtin.bitAnd ((t.num : Nat) : Int) 1) = ((t.l : Nat) : Int) := by
  have e : Builtin.bitAnd ((t.num : Nat) : Int) 1 = ((t.num : Nat) : Int) % 2 := Bits.bitAnd_mask 1 (by omega)
  have n := Tri.num_eq ok
  obtain ⟨a, b, c, d⟩ := ok
  have F : t.f = 0 ∨ t.f = 1 := by omega
  have L : t.l = 0 ∨ t.l = 1 := by omega
  rw [e]
  rcases F with F | F <;> rcases L with L | L <;> rw [F, L] at n <;> rw [F, L]
  · rw [show ((t.num : Nat) : Int) % 2 = 0 by omega]; decide +kernel
  · rw [show ((t.num : Nat) : Int) % 2 = 1 by omega]; decide +kernel
  · rw [show ((t.num : Nat) : Int) % 2 = 1 by omega]; decide +kernel
  · rw [show ((t.num : Nat) : Int) % 2 = 0 by omega]; decide +kernel
theorem Tri.least_f {xs : List Tri} {t : Tri} {i : Nat} {acc : Option Int} (ok : t.Ok) (oks : ∀ s ∈ xs, s.Ok) (hi : i = xs.length) (h : acc = if i = 0 then none else some (((Tri.all xs).f : Nat) : Int)) : GxM.lessM acc ((t.f : Nat) : Int) = (((Tri.all (xs ++ [t])).f : Nat) : Int) := by
  rw [Tri.all_snoc ok]
  have a := (Tri.all_ok oks).1
  have b := ok.1
  cases xs with
  | nil =>
    rw [if_pos (show i = 0 from hi)] at h
    subst h
    show ((t.f : Nat) : Int) = ((Tri.one.and t).f : Int)
    rw [Tri.one_and ok]
  | cons y r =>
    rw [if_neg (by rw [hi]; simp)] at h
    subst h
    show (if ((t.f : Nat) : Int) < (((Tri.all (y :: r)).f : Nat) : Int) then ((t.f : Nat) : Int) else (((Tri.all (y :: r)).f : Nat) : Int)) = ((if (Tri.all (y :: r)).f = 0 then 0 else t.f : Nat) : Int)
    repeat' split
    all_goals omega
theorem Tri.least_l {xs : List Tri} {t : Tri} {i : Nat} {acc : Option Int} (ok : t.Ok) (oks : ∀ s ∈ xs, s.Ok) (hi : i = xs.length) (h : acc = if i = 0 then none else some (((Tri.all xs).l : Nat) : Int)) : GxM.lessM acc ((t.l : Nat) : Int) = (((Tri.all (xs ++ [t])).l : Nat) : Int) := by
  rw [Tri.all_snoc ok]
  have a := (Tri.all_ok oks).2.1
  have b := ok.2.1
  cases xs with
  | nil =>
    rw [if_pos (show i = 0 from hi)] at h
    subst h
    show ((t.l : Nat) : Int) = ((Tri.one.and t).l : Int)
    rw [Tri.one_and ok]
  | cons y r =>
    rw [if_neg (by rw [hi]; simp)] at h
    subst h
    show (if ((t.l : Nat) : Int) < (((Tri.all (y :: r)).l : Nat) : Int) then ((t.l : Nat) : Int) else (((Tri.all (y :: r)).l : Nat) : Int)) = ((if (Tri.all (y :: r)).l = 0 then 0 else t.l : Nat) : Int)
    repeat' split
    all_goals omega
theorem Tri.all_u : ∀ {ts : List Tri}, (∀ t ∈ ts, 0 < t.u) → (((Tri.all ts).u : Nat) : Int) = 1 + (ts.map fun t => ((t.u : Nat) : Int) - 1).sum
  | [], _ => rfl
  | t :: r, h => by
    have a := h t List.mem_cons_self
    have b := Tri.all_u (ts := r) fun x hx => h x (List.mem_cons_of_mem _ hx)
    have c : ∀ l : List Tri, (∀ t ∈ l, 0 < t.u) → 0 ≤ (l.map fun t => ((t.u : Nat) : Int) - 1).sum := fun l => by
      induction l with
      | nil => intro _; exact Int.le_refl _
      | cons x l ih =>
        intro hl
        have := ih fun y hy => hl y (List.mem_cons_of_mem _ hy)
        have := hl x List.mem_cons_self
        rw [List.map_cons, List.sum_cons]
        omega
    have d := c r fun x hx => h x (List.mem_cons_of_mem _ hx)
    show ((if t.u = 0 then 0 else if (Tri.all r).u = 0 then 0 else t.u + (Tri.all r).u - 1 : Nat) : Int) = _
    rw [List.map_cons, List.sum_cons, if_neg (by omega), if_neg (by omega)]
    omega
theorem Tri.all_u0 : ∀ {ts : List Tri} {t : Tri}, t ∈ ts → t.u = 0 → (Tri.all ts).u = 0
  | s :: r, t, h, e => by
    show (if s.u = 0 then 0 else if (Tri.all r).u = 0 then 0 else s.u + (Tri.all r).u - 1) = 0
    rcases List.mem_cons.mp h with k | k
    · rw [if_pos (by rw [← k]; exact e)]
    · rw [if_pos (c := (Tri.all r).u = 0) (Tri.all_u0 k e)]
      split <;> rfl
def sp_most_and (K : PySem.W.Frag) (P : Addr) : Sp := fun vs H Q _ => ∃ (p : Addr) (us : List V) (ts : List Tri), vs = [.ref p] ∧ H p = some (.lst us) ∧ TkAll H us (ts.map Tri.d) ∧ ts ≠ [] ∧ ts.length ≤ 4 ∧ (∀ t ∈ ts, t.Ok ∧ t.u ≤ 1000) ∧ GxR.TabG H P ∧ ∀ r H', Gr H H' → Tk H' r (Tri.all ts).d → Q r H'
theorem ok_most_of_and (T : Tx w K mg) (B : Tb base T) : FnOk P w K mg base CX0 6 T.f_most_of_and T.fd_most_of_and ["parts"] (sp_most_and K T.P_most_of_and) := by
  refine okC T.F_most_of_and sc_most_of_and (fun vs H Q E h => ?_) (fun A outer s H vs Q E hr h => ?_)
  · obtain ⟨p, us, ts, rfl, _⟩ := h
    rfl
  · obtain ⟨p, us, ts, rfl, hp, tus, ne, l4, oks, tm, q⟩ := h
    refine ⟨_, (pss_cons (ps_set (i := 1) sc_most_of_and.nd rfl (by first | exact .inl rfl | exact .inr rfl) (GxM.pe_minX (own := [("begin", 5), ("number", 6)]) (k := 0) (hr.mono (by decide)) rfl sc_most_of_and.nd (by rfl) T.m_min (by decide +kernel) B.TB_most_of_and T.cd_most_of_and rfl rfl (by decide +kernel) (blkOk_by (own := [("begin", 5), ("number", 6)]) (N := ["parts", "first", "last", "ups", "spells", "begin", "number", "up"]) (sc := defScope s_most_of_and) (by decide +kernel)) (pi_list (pv 0)) (fun _ _ _ _ _ _ _ hr gd => (show PG _ _ (gTup K 2 _) from pg_tup rfl (pgs_cons (pg_name (i := 5) sc_most_of_and.nd rfl (by first | exact .inl rfl | exact .inr rfl)) (pgs_cons (pg_name (i := 6) sc_most_of_and.nd rfl (by first | exact .inl rfl | exact .inr rfl)) pgs_nil)))) (fun _ _ _ _ _ _ _ hr gd => pts_nil) (fun _ _ _ _ _ _ _ hr gd => (pv 5)) (fun _ => rfl))) (pss_cons (ps_set (i := 2) sc_most_of_and.nd rfl (by first | exact .inl rfl | exact .inr rfl) (GxM.pe_minX (own := [("begin", 5), ("number", 6)]) (k := 0) (hr.mono (by decide)) rfl sc_most_of_and.nd (by rfl) T.m_min (by decide +kernel) B.TB_most_of_and T.cd_most_of_and rfl rfl (by decide +kernel) (blkOk_by (own := [("begin", 5), ("number", 6)]) (N := ["parts", "first", "last", "ups", "spells", "begin", "number", "up"]) (sc := defScope s_most_of_and) (by decide +kernel)) (pi_list (pv 0)) (fun _ _ _ _ _ _ _ hr gd => (show PG _ _ (gTup K 2 _) from pg_tup rfl (pgs_cons (pg_name (i := 5) sc_most_of_and.nd rfl (by first | exact .inl rfl | exact .inr rfl)) (pgs_cons (pg_name (i := 6) sc_most_of_and.nd rfl (by first | exact .inl rfl | exact .inr rfl)) pgs_nil)))) (fun _ _ _ _ _ _ _ hr gd => pts_nil) (fun _ _ _ _ _ _ _ hr gd => (pe_op op_xor (pv 5) (pe_op op_and (pv 6) pe_int))) (fun _ => rfl))) (pss_cons (ps_setLc (i := 3) (own := [("begin", 5), ("number", 6)]) (by rfl) sc_most_of_and.nd rfl rfl (sw_true rfl rfl rfl (by decide +kernel)) (pi_list (pv 0)) (blkOk_by (own := [("begin", 5), ("number", 6)]) (N := ["parts", "first", "last", "ups", "spells", "begin", "number", "up"]) (sc := defScope s_most_of_and) (by decide +kernel)) (fun _ _ _ _ _ => (show PG _ _ (gTup K 2 _) from pg_tup rfl (pgs_cons (pg_name (i := 5) sc_most_of_and.nd rfl (by first | exact .inl rfl | exact .inr rfl)) (pgs_cons (pg_name (i := 6) sc_most_of_and.nd rfl (by first | exact .inl rfl | exact .inr rfl)) pgs_nil)))) (fun _ _ _ _ _ => pts_nil) (fun _ _ _ _ _ => (pe_op op_fdiv (pe_op op_add (pe_op op_add (pv 6) pe_int) (pv 5)) pe_int))) (pss_cons (ps_set (i := 4) sc_most_of_and.nd rfl (by first | exact .inl rfl | exact .inr rfl) (pe_cut (pe_ifExp (pt_truth (pe_callB (cr_min rfl) (by rfl) T.m_min (by decide +kernel) (pa_cons (pv 3) pa_nil)) (by intro _; rfl)) (pe_op op_add pe_int (GxS.pe_sumX (own := [("up", 7)]) (k := 0) (hr.mono (by decide)) rfl sc_most_of_and.nd (by rfl) T.m_sum (by decide +kernel) B.TB_most_of_and T.cd_most_of_and rfl rfl (by decide +kernel) (blkOk_by (own := [("up", 7)]) (N := ["parts", "first", "last", "ups", "spells", "begin", "number", "up"]) (sc := defScope s_most_of_and) (by decide +kernel)) (pi_list (pv 3)) (fun _ _ _ _ _ _ _ hr gd => (pg_name (i := 7) sc_most_of_and.nd rfl (by first | exact .inl rfl | exact .inr rfl))) (fun _ _ _ _ _ _ _ hr gd => pts_nil) (fun _ _ _ _ _ _ _ hr gd => (pe_op op_sub (pv 7) pe_int)) (fun _ => rfl))) pe_int))) (pss_one (ps_ret (pe_tup (pa_cons (pv 1) (pa_cons (pe_op op_sub (pe_op op_sub (pe_op op_mul pe_int (pv 4)) (pv 1)) (pv 2)) pa_nil))))))))), ?_⟩
    have lus : us.length = ts.length := by rw [tus.length, List.length_map]
    have okA : ∀ t ∈ ts, t.Ok := fun t ht => (oks t ht).1
    have okT : ∀ i, ∀ t ∈ ts.take i, t.Ok := fun i t ht => okA t (List.mem_of_mem_take ht)
    have at_ : ∀ {H' : Hp} {i : Nat} {x : V}, Gr H H' → us[i]? = some x → ∃ q t, x = .ref q ∧ ts[i]? = some t ∧ H' q = some (.tup [.int ((t.f : Nat) : Int), .int ((t.num : Nat) : Int)]) := fun {H' i x} g hx => by
      obtain ⟨d, hd, td⟩ := tus.get hx
      rw [List.getElem?_map] at hd
      obtain ⟨t, ht, rfl⟩ := Option.map_eq_some_iff.mp hd
      obtain ⟨q, rfl, hq⟩ := Tri.inv td
      exact ⟨q, t, rfl, ht, g.tup hq⟩
    have tk_ : ∀ {i : Nat} {t : Tri}, ts[i]? = some t → ts.take (i + 1) = ts.take i ++ [t] ∧ i = (ts.take i).length := fun {i t} ht => by
      have := (List.getElem?_eq_some_iff.mp ht).1
      exact ⟨by rw [List.take_add_one, ht]; rfl, by rw [List.length_take]; omega⟩
    refine ⟨.ref p, rfl, p, rfl, ⟨_, SqL.of hp⟩, tm, fun H1 tb1 => ?_⟩
    have g1 := Gr.tab tm tb1
    refine gx_list (K := K) (a := p) (xs := us) (fun i acc H' => Gr H1 H' ∧ acc = if i = 0 then none else some (((Tri.all (ts.take i)).f : Nat) : Int)) ⟨Gr.refl, rfl⟩ (fun i ys H' _ hP => SqL.of ((g1.trans hP.1).lst hp)) ?_ ?_
    · rintro i x acc H2 hx ⟨g2, ha⟩
      obtain ⟨q, t, rfl, ht, hq⟩ := at_ (g1.trans g2) hx
      obtain ⟨e1, e2⟩ := tk_ ht
      refine ⟨q, _, rfl, SqT.of hq, rfl, _, _, rfl, _, _, rfl, rfl, rfl, _, rfl, _, rfl, g2, ?_⟩
      rw [if_neg (Nat.succ_ne_zero i), Tri.least_f (okA t (List.mem_of_getElem? ht)) (okT i) e2 ha, e1]
    rintro acc H2 ⟨g2, ha⟩
    have l0 : ¬ us.length = 0 := fun z => ne (List.eq_nil_of_length_eq_zero (by omega))
    rw [if_neg l0, lus, List.take_length] at ha
    refine ⟨_, ha, ?_⟩
    have g02 := g1.trans g2
    refine ⟨.ref p, rfl, p, rfl, ⟨_, SqL.of (g02.lst hp)⟩, g02.2 _ tm, fun H3 tb3 => ?_⟩
    have g3 := g02.trans (Gr.tab (g02.2 _ tm) tb3)
    refine gx_list (K := K) (a := p) (xs := us) (fun i acc H' => Gr H3 H' ∧ acc = if i = 0 then none else some (((Tri.all (ts.take i)).l : Nat) : Int)) ⟨Gr.refl, rfl⟩ (fun i ys H' _ hP => SqL.of ((g3.trans hP.1).lst hp)) ?_ ?_
    · rintro i x acc H2 hx ⟨g2, ha⟩
      obtain ⟨q, t, rfl, ht, hq⟩ := at_ (g3.trans g2) hx
      obtain ⟨e1, e2⟩ := tk_ ht
      have okt := okA t (List.mem_of_getElem? ht)
      refine ⟨q, _, rfl, SqT.of hq, rfl, _, _, rfl, _, _, rfl, rfl, rfl, _, rfl, _, rfl, _, _, rfl, rfl, _, _, rfl, rfl, _, rfl, g2, ?_⟩
      rw [if_neg (Nat.succ_ne_zero i), Tri.last_of okt, Tri.least_l okt (okT i) e2 ha, e1]
    rintro acc2 H4 ⟨g4, ha2⟩
    rw [if_neg l0, lus, List.take_length] at ha2
    refine ⟨_, ha2, ?_⟩
    have g04 := g3.trans g4
    have hp4 := g04.lst hp
    refine ⟨.ref p, rfl, p, rfl, ⟨_, SqL.of hp4⟩, fun D nD => ?_⟩
    refine lc_list (K := K) (a := p) (xs := us) (fun i H' => Same H4 (hd1 D H') ∧ H' D = some (.lst (((ts.take i).map fun t => ((t.u : Nat) : Int)).map V.int))) ⟨hd1_of (same_upd nD) nD, upd_same⟩ (fun i H' _ z => SqL.of (hd1_le _ _ (z.1 _ _ hp4))) ?_ ?_
    · rintro i x H5 hx ⟨s5, hD⟩
      obtain ⟨q, t, rfl, ht, hq⟩ := at_ g04 hx
      obtain ⟨e1, e2⟩ := tk_ ht
      have okt := okA t (List.mem_of_getElem? ht)
      have n := Tri.num_eq okt
      obtain ⟨k1, k2, k3, k4⟩ := id okt
      refine ⟨q, _, rfl, SqT.of (hd1_le _ _ (s5 _ _ hq)), rfl, _, _, rfl, _, _, rfl, rfl, rfl, _, rfl, _, _, rfl, rfl, _, rfl, _, _, rfl, rfl, _, _, rfl, rfl, ?_, _, hD, ?_, s5.trans hd1_upd, ?_⟩
      · exact ⟨by decide, by decide⟩
      · rw [List.length_map, List.length_map, ← e2]
        exact Nat.lt_of_le_of_lt (show i ≤ 4 by have := (List.getElem?_eq_some_iff.mp ht).1; omega) (by decide)
      · rw [upd_same, e1, List.map_append, List.map_append]
        have e : (((t.num : Nat) : Int) + 1 + ((t.f : Nat) : Int)) / 2 = ((t.u : Nat) : Int) := by
          rw [n]
          omega
        show some (HO.lst (_ ++ [V.int ((((t.num : Nat) : Int) + 1 + ((t.f : Nat) : Int)) / 2)])) = _
        rw [e]
        rfl
    rintro H5 ⟨s5, hD⟩
    rw [lus, List.take_length] at hD
    have g05 : Gr H H5 := g04.trans (Gr.of fun b o z => hd1_le _ _ (s5 b o z))
    have pu : (ts.map fun t => ((t.u : Nat) : Int)) ≠ [] := fun z => ne (List.map_eq_nil_iff.mp z)
    refine ⟨fun u H' => u = .int ((Tri.all ts).u : Nat) ∧ Gr H H', ?_, ?_⟩
    · refine ⟨.ref D, rfl, D, _, rfl, SqL.of hD, List.length_pos_iff.mpr pu, fun m hm lm => ?_⟩
      refine ⟨(m != 0), rfl, ?_⟩
      by_cases m0 : m = 0
      · rw [show (m != 0) = false by simp [m0]]
        refine iteF ?_
        obtain ⟨t, ht, e⟩ := List.mem_map.mp hm
        have e : ((t.u : Nat) : Int) = m := e
        rw [Tri.all_u0 ht (by omega)]
        exact ⟨rfl, g05⟩
      rw [show (m != 0) = true by simp [m0]]
      refine iteT ?_
      have pos : ∀ t ∈ ts, 0 < t.u := fun t ht => by
        obtain ⟨s, hs, e⟩ := List.mem_map.mp hm
        have e : ((s.u : Nat) : Int) = m := e
        have := lm ((t.u : Nat) : Int) (List.mem_map.mpr ⟨t, ht, rfl⟩)
        omega
      refine ⟨.ref D, rfl, D, rfl, ⟨_, SqL.of hD⟩, g05.2 _ tm, fun H6 tb6 => ?_⟩
      have g6 := g05.trans (Gr.tab (g05.2 _ tm) tb6)
      have hD6 := (Gr.tab (g05.2 _ tm) tb6).lst hD
      have low : ∀ i, 0 ≤ ((ts.take i).map fun t => ((t.u : Nat) : Int) - 1).sum ∧ ((ts.take i).map fun t => ((t.u : Nat) : Int) - 1).sum ≤ 1000 * i := fun i => by
        induction i with
        | zero => exact ⟨Int.le_refl _, Int.le_refl _⟩
        | succ i ih =>
          rw [List.take_add_one]
          cases e : ts[i]? with
          | none =>
            rw [show (none : Option Tri).toList = [] from rfl, List.append_nil]
            exact ⟨ih.1, by have := ih.2; push_cast; omega⟩
          | some t =>
            have a := pos t (List.mem_of_getElem? e)
            have b := (oks t (List.mem_of_getElem? e)).2
            rw [show (some t).toList = [t] from rfl, List.map_append, List.sum_append]
            have := ih.1
            have := ih.2
            simp only [List.map_cons, List.map_nil, List.sum_cons, List.sum_nil]
            push_cast
            exact ⟨by omega, by omega⟩
      refine gx_list (K := K) (a := D) (xs := (ts.map fun t => ((t.u : Nat) : Int)).map V.int) (fun i acc H' => Gr H6 H' ∧ acc = ((ts.take i).map fun t => ((t.u : Nat) : Int) - 1).sum) ⟨Gr.refl, rfl⟩ (fun i ys H' _ hP => SqL.of (hP.1.lst hD6)) ?_ ?_
      · rintro i x acc H7 hx ⟨g7, rfl⟩
        rw [List.getElem?_map, List.getElem?_map] at hx
        obtain ⟨y, hy, rfl⟩ := Option.map_eq_some_iff.mp hx
        obtain ⟨t, ht, rfl⟩ := Option.map_eq_some_iff.mp hy
        have i4 := (List.getElem?_eq_some_iff.mp ht).1
        obtain ⟨e1, _⟩ := tk_ ht
        have a := low i
        have b := low (i + 1)
        have c := pos t (List.mem_of_getElem? ht)
        have d := (oks t (List.mem_of_getElem? ht)).2
        have es : ((ts.take (i + 1)).map fun t => ((t.u : Nat) : Int) - 1).sum = ((ts.take i).map fun t => ((t.u : Nat) : Int) - 1).sum + (((t.u : Nat) : Int) - 1) := by
          rw [e1, List.map_append, List.sum_append]
          simp only [List.map_cons, List.map_nil, List.sum_cons, List.sum_nil]
          omega
        refine ⟨rfl, _, rfl, _, _, rfl, rfl, _, rfl, ⟨by omega, by omega⟩, ⟨by omega, by omega⟩, g7, es.symm⟩
      rintro acc H7 ⟨g7, rfl⟩
      refine ⟨_, _, rfl, rfl, ?_, g6.trans g7⟩
      rw [List.length_map, List.length_map, List.take_length, Tri.all_u pos]
    rintro u H6 ⟨rfl, g6⟩
    have okk := Tri.all_ok okA
    have n := Tri.num_eq okk
    refine ⟨_, rfl, _, rfl, _, _, rfl, rfl, .inl ⟨by decide, by decide⟩, _, rfl, _, _, rfl, rfl, _, rfl, _, _, rfl, rfl, sl2, fun r nr => ?_⟩
    exact q _ _ (g6.trans (Gr.of (same_upd nr))) (Tri.tk upd_same rfl n.symm)
/-! ### how often parts change at most: bounds -/
def Tri.lt (B : Nat) (t : Tri) : Prop := t.u ≤ B ∧ t.neg.u ≤ B
theorem Tri.all_le : ∀ {ts : List Tri}, (∀ t ∈ ts, t.Ok) → (Tri.all ts).u ≤ (ts.map fun t => t.u).sum + 1 ∧ (ts ≠ [] → (Tri.all ts).u ≤ (ts.map fun t => t.u).sum)
  | [], _ => ⟨Nat.le_refl _, fun h => absurd rfl h⟩
  | t :: r, h => by
    have a := Tri.all_le (ts := r) fun x hx => h x (List.mem_cons_of_mem _ hx)
    have e : (Tri.all (t :: r)).u ≤ t.u + (r.map fun t => t.u).sum := by
      show (if t.u = 0 then 0 else if (Tri.all r).u = 0 then 0 else t.u + (Tri.all r).u - 1) ≤ _
      have := a.1
      repeat' split
      all_goals omega
    rw [List.map_cons, List.sum_cons]
    exact ⟨Nat.le_succ_of_le e, fun _ => e⟩
section
variable {a b : List Int}
mutual
theorem Fm.tri_lt (ha : Row01 a) (hb : Row01 b) {m : Nat} : ∀ f : Fm, f.ok m = true → (f.tri a b).lt f.cnt
  | .st c, _ => by
    cases c
    · exact ⟨Nat.zero_le 1, Nat.le_refl 1⟩
    · exact ⟨Nat.le_refl 1, Nat.zero_le 1⟩
  | .inp i, _ => by
    have x := row_get ha i
    have y := row_get hb i
    refine ⟨?_, ?_⟩
    · show max (a.getD i 0).toNat (b.getD i 0).toNat ≤ 1
      omega
    · show max (a.getD i 0).toNat (b.getD i 0).toNat + 1 - (a.getD i 0).toNat - (b.getD i 0).toNat ≤ 1
      omega
  | .no f, h => by
    have h : f.ok m = true := h
    obtain ⟨x, y⟩ := Fm.tri_lt ha hb f h
    refine ⟨?_, ?_⟩
    · show (f.tri a b).neg.u ≤ 1 + f.cnt
      omega
    · show (f.tri a b).neg.neg.u ≤ 1 + f.cnt
      rw [Tri.neg_neg (Fm.tri_ok ha hb f)]
      omega
  | .op c fs, h => by
    have h : ((decide (2 ≤ fs.length) && decide (fs.length ≤ 4)) && Fm.oks m fs) = true := h
    rw [Bool.and_eq_true, Bool.and_eq_true] at h
    have l2 : 2 ≤ fs.length := of_decide_eq_true h.1.1
    obtain ⟨x, y⟩ := Fm.tris_lt ha hb fs h.2
    have oks := Fm.tris_ok ha hb fs
    have nn : Fm.tris a b fs ≠ [] := by
      cases fs with
      | nil => simp at l2
      | cons _ _ => intro z; cases z
    have up : ∀ t : Tri, t.Ok → t.neg.u ≤ t.u + 1 := fun t _ => by
      show t.u + 1 - t.f - t.l ≤ t.u + 1
      omega
    have nt : ∀ ts : List Tri, (ts.map Tri.neg).map (fun t => t.u) = ts.map fun t => t.neg.u := fun ts => by rw [List.map_map]; rfl
    cases c with
    | true =>
      have e := (Tri.all_le oks).2 nn
      have k := up _ (Tri.all_ok oks)
      refine ⟨?_, ?_⟩
      · show (Tri.all (Fm.tris a b fs)).u ≤ 1 + Fm.cnts fs
        omega
      · show (Tri.all (Fm.tris a b fs)).neg.u ≤ 1 + Fm.cnts fs
        omega
    | false =>
      have e := (Tri.all_le (Tri.map_ok oks)).2 (fun z => nn (List.map_eq_nil_iff.mp z))
      have k := up _ (Tri.all_ok (Tri.map_ok oks))
      rw [nt] at e
      refine ⟨?_, ?_⟩
      · show (Tri.all ((Fm.tris a b fs).map Tri.neg)).neg.u ≤ 1 + Fm.cnts fs
        omega
      · show (Tri.all ((Fm.tris a b fs).map Tri.neg)).neg.neg.u ≤ 1 + Fm.cnts fs
        rw [Tri.neg_neg (Tri.all_ok (Tri.map_ok oks))]
        omega
theorem Fm.tris_lt (ha : Row01 a) (hb : Row01 b) {m : Nat} : ∀ fs : List Fm, Fm.oks m fs = true → ((Fm.tris a b fs).map fun t => t.u).sum ≤ Fm.cnts fs ∧ ((Fm.tris a b fs).map fun t => t.neg.u).sum ≤ Fm.cnts fs
  | [], _ => ⟨Nat.le_refl _, Nat.le_refl _⟩
  | f :: r, h => by
    have h : (f.ok m && Fm.oks m r) = true := h
    rw [Bool.and_eq_true] at h
    obtain ⟨x, y⟩ := Fm.tri_lt ha hb f h.1
    obtain ⟨x', y'⟩ := Fm.tris_lt ha hb r h.2
    show (((f.tri a b) :: Fm.tris a b r).map fun t => t.u).sum ≤ f.cnt + Fm.cnts r ∧ (((f.tri a b) :: Fm.tris a b r).map fun t => t.neg.u).sum ≤ f.cnt + Fm.cnts r
    rw [List.map_cons, List.map_cons, List.sum_cons, List.sum_cons]
    exact ⟨by omega, by omega⟩
end
end
/-! ### how often a form changes at the most, read -/
def sp_most (T : Tx w K mg) (e : Nat) : Sp := fun vs H Q _ => ∃ (v c : V) (f : Fm) (m : Nat) (a b : List Int), vs = [v, c] ∧ Tk H v f.d ∧ f.ok m = true ∧ f.dep ≤ e ∧ f.cnt ≤ 1000 ∧ Tk H c (chD a b) ∧ a.length = m ∧ b.length = m ∧ Row01 a ∧ Row01 b ∧ GxR.TabG H T.P_most_of_and ∧ ∀ r H', Gr H H' → Tk H' r (f.tri a b).d → Q r H'
theorem ok_mostE (T : Tx w K mg) (B : Tb base T) : ∀ e : Nat, FnOk P w K mg base CX0 (e + 8) T.f_most_of T.fd_most_of ["form", "change"] (sp_most T e)
  | 0 => ⟨fun _ _ _ _ h => by obtain ⟨_, _, f, _, _, _, _, _, _, h, _⟩ := h; exact absurd h (by have := Fm.dep_pos f; omega), fun _ _ _ _ _ _ _ _ _ _ _ _ _ h => by obtain ⟨_, _, f, _, _, _, _, _, _, h, _⟩ := h; exact absurd h (by have := Fm.dep_pos f; omega)⟩
  | e + 1 => by
    have ih := ok_mostE T B e
    refine T.F_most_of.ok sc_most_of (fun vs H Q E h => ?_) (fun cdv A outer s H vs Q E hr h => ?_)
    · obtain ⟨v, c, f, m, a, b, rfl, _⟩ := h
      rfl
    · obtain ⟨v, c, f, m, a, b, rfl, tk, ok, de, cf, tc, la, lb, ha, hb, tm, q⟩ := h
      refine ⟨_, (pss_cons (ps_asg (pv 1) (pg_tup rfl (pgs_cons (pg_name (i := 2) sc_most_of.nd rfl (by first | exact .inl rfl | exact .inr rfl)) (pgs_cons (pg_name (i := 3) sc_most_of.nd rfl (by first | exact .inl rfl | exact .inr rfl)) pgs_nil)))) (pss_cons (ps_set (i := 4) sc_most_of.nd rfl (by first | exact .inl rfl | exact .inr rfl) (pe_ix ix_tup (pv 0) pe_int (fun _ _ => rfl))) (pss_cons (ps_if (pt_cmpR op_eq (pv 4) pe_str (nomark _)) (pss_one (ps_ret (pe_tup (pa_cons (pe_ix ix_tup (pv 2) (pe_ix ix_tup (pv 0) pe_int (fun _ _ => rfl)) (fun _ _ => rfl)) (pa_cons (pe_op op_xor (pe_ix ix_tup (pv 2) (pe_ix ix_tup (pv 0) pe_int (fun _ _ => rfl)) (fun _ _ => rfl)) (pe_ix ix_tup (pv 3) (pe_ix ix_tup (pv 0) pe_int (fun _ _ => rfl)) (fun _ _ => rfl))) pa_nil))))) pss_nil) (pss_cons (ps_set (i := 5) sc_most_of.nd rfl (by first | exact .inl rfl | exact .inr rfl) (pe_call (ok_still_worth T) (hr.mono (by omega)) (by rfl) T.g_still_worth T.F_still_worth.kp T.b_still_worth .nil pass0 (pa_cons (pv 0) pa_nil))) (pss_cons (ps_if (pt_cmpR op_notN (pv 5) pe_non (nomark _)) (pss_one (ps_ret (pe_tup (pa_cons (pv 5) (pa_cons pe_int pa_nil))))) pss_nil) (pss_cons (ps_setLc (i := 6) (own := [("part", 7)]) (by rfl) sc_most_of.nd rfl rfl (sw_true rfl rfl rfl (by decide +kernel)) (pi_tup (pe_call (ok_inner_of T) (hr.mono (by omega)) (by rfl) T.g_inner_of T.F_inner_of.kp T.b_inner_of .nil pass0 (pa_cons (pv 0) pa_nil))) (blkOk_by (own := [("part", 7)]) (N := ["form", "change", "a", "b", "head", "still", "parts", "part"]) (sc := defScope s_most_of) (by decide +kernel)) (fun _ _ _ _ _ => (pg_name (i := 7) sc_most_of.nd rfl (by first | exact .inl rfl | exact .inr rfl))) (fun _ _ _ _ _ => pts_nil) (fun _ _ _ _ _ => (pe_call (ih) (hr.mono (by omega)) (by rfl) T.g_most_of T.F_most_of.kp T.b_most_of .nil pass0 (pa_cons (pv 7) (pa_cons (pv 1) pa_nil))))) (pss_cons (ps_if (pt_cmpR op_eq (pv 4) pe_str (nomark _)) (pss_one (ps_ret (pe_call (ok_about T) (hr.mono (by omega)) (by rfl) T.g_about T.F_about.kp T.b_about .nil pass0 (pa_cons (pe_ix ix_list (pv 6) pe_int (fun _ _ => rfl)) pa_nil)))) pss_nil) (pss_cons (ps_if (pt_cmpR op_eq (pv 4) pe_str (nomark _)) (pss_one (ps_ret (pe_call (ok_most_of_and T B) (hr.mono (by omega)) (by rfl) T.g_most_of_and T.F_most_of_and.kp T.b_most_of_and .nil pass0 (pa_cons (pv 6) pa_nil)))) pss_nil) (pss_one (ps_ret (pe_call (ok_about T) (hr.mono (by omega)) (by rfl) T.g_about T.F_about.kp T.b_about .nil pass0 (pa_cons (pe_call (ok_most_of_and T B) (hr.mono (by omega)) (by rfl) T.g_most_of_and T.F_most_of_and.kp T.b_most_of_and .nil pass0 (pa_cons (pe_lc (own := [("part", 7)]) (by rfl) sc_most_of.nd (pi_list (pv 6)) (blkOk_by (own := [("part", 7)]) (N := ["form", "change", "a", "b", "head", "still", "parts", "part"]) (sc := defScope s_most_of) (by decide +kernel)) (fun _ _ _ _ _ => (pg_name (i := 7) sc_most_of.nd rfl (by first | exact .inl rfl | exact .inr rfl))) (fun _ _ _ _ _ => pts_nil) (fun _ _ _ _ _ => (pe_call (ok_about T) (hr.mono (by omega)) (by rfl) T.g_about T.F_about.kp T.b_about .nil pass0 (pa_cons (pv 7) pa_nil)))) pa_nil)) pa_nil)))))))))))), ?_⟩
      obtain ⟨pc, ra, rb, rfl, hc, hra, hrb⟩ := id tc.ch_inv
      refine ⟨.ref pc, rfl, pc, _, rfl, SqT.of hc, rfl, _, _, rfl, _, _, rfl, rfl, ?_⟩
      have key : (∃ b, f = .st b) ∨ (∃ i, f = .inp i) ∨ ∃ p z rest, v = .ref p ∧ H p = some (.tup (.str z :: rest)) ∧ z ≠ wIn ∧ z ≠ wOne ∧ z ≠ wNou ∧ ((z = wNot ∧ ∃ g, f = .no g) ∨ ∃ c fs, f = .op c fs ∧ z = wOp c ∧ fs ≠ []) := by
        cases f with
        | st b => exact .inl ⟨b, rfl⟩
        | inp i => exact .inr (.inl ⟨i, rfl⟩)
        | no f =>
          obtain ⟨p, w', rfl, hp, _⟩ := Fm.tk_no tk
          exact .inr (.inr ⟨p, _, _, rfl, hp, by decide +kernel, by decide +kernel, by decide +kernel, .inl ⟨rfl, f, rfl⟩⟩)
        | op c fs =>
          obtain ⟨p, b, ys, rfl, hp, _⟩ := Fm.tk_op tk
          refine .inr (.inr ⟨p, _, _, rfl, hp, by cases c <;> decide +kernel, by cases c <;> decide +kernel, by cases c <;> decide +kernel, .inr ⟨c, fs, rfl, rfl, fun z => ?_⟩⟩)
          subst z
          cases ok
      rcases key with ⟨b', rfl⟩ | ⟨i, rfl⟩ | ⟨p, z, rest, rfl, hp, n1, n2, n3, sorts⟩
      · obtain ⟨p, rfl, hp⟩ := Fm.tk_st tk
        refine ⟨.ref p, rfl, p, _, 0, .str (wSt b'), rfl, rfl, SqT.of hp, rfl, ?_⟩
        refine ⟨.str (wSt b'), rfl, rfl, _, rfl, ite2 (fun e => absurd (V.str.inj (of_decide_eq_true e)) (by cases b' <;> decide +kernel)) (fun _ => ?_)⟩
        refine ⟨.ref p, rfl, p, wSt b', [], rfl, hp, fun e => ?_, fun e => ?_, fun e1 e2 => ?_⟩
        · cases b'
          · exact absurd e (by decide +kernel)
          · exact ⟨_, rfl, rfl, _, rfl, ite2 (fun _ => ⟨_, rfl, sl2, fun r nr => q _ _ (Gr.of (same_upd nr)) (Tri.tk upd_same rfl rfl)⟩) (fun k => absurd rfl k)⟩
        · cases b'
          · exact ⟨_, rfl, rfl, _, rfl, ite2 (fun _ => ⟨_, rfl, sl2, fun r nr => q _ _ (Gr.of (same_upd nr)) (Tri.tk upd_same rfl rfl)⟩) (fun k => absurd rfl k)⟩
          · exact absurd e (by decide +kernel)
        · cases b'
          · exact absurd rfl e2
          · exact absurd rfl e1
      · obtain ⟨p, rfl, hp⟩ := Fm.tk_inp tk
        refine ⟨.ref p, rfl, p, _, 0, .str wIn, rfl, rfl, SqT.of hp, rfl, ?_⟩
        refine ⟨.str wIn, rfl, rfl, _, rfl, ite2 (fun _ => ?_) (fun k => absurd (decide_eq_true rfl) k)⟩
        have hi : i < m := of_decide_eq_true ok
        have xa : (a.map V.int)[i]? = some (V.int (a.getD i 0)) := by
          rw [List.getElem?_map, List.getElem?_eq_getElem (by omega), List.getD_eq_getElem?_getD, List.getElem?_eq_getElem (by omega)]
          rfl
        have xb : (b.map V.int)[i]? = some (V.int (b.getD i 0)) := by
          rw [List.getElem?_map, List.getElem?_eq_getElem (by omega), List.getD_eq_getElem?_getD, List.getElem?_eq_getElem (by omega)]
          rfl
        refine ⟨.ref ra, rfl, .ref p, rfl, p, _, 1, .int i, rfl, rfl, SqT.of hp, rfl, ra, _, i, .int (a.getD i 0), rfl, rfl, SqT.of hra, atI_nat xa, .ref ra, rfl, .ref p, rfl, p, _, 1, .int i, rfl, rfl, SqT.of hp, rfl, ra, _, i, .int (a.getD i 0), rfl, rfl, SqT.of hra, atI_nat xa, .ref rb, rfl, .ref p, rfl, p, _, 1, .int i, rfl, rfl, SqT.of hp, rfl, rb, _, i, .int (b.getD i 0), rfl, rfl, SqT.of hrb, atI_nat xb, _, _, rfl, rfl, sl2, fun r nr => ?_⟩
        have x := row_get ha i
        have y := row_get hb i
        refine q _ _ (Gr.of (same_upd nr)) (Tri.tk upd_same ?_ ?_)
        · show a.getD i 0 = (((a.getD i 0).toNat : Nat) : Int)
          omega
        · show Builtin.bitXor (a.getD i 0) (b.getD i 0) = ((2 * max (a.getD i 0).toNat (b.getD i 0).toNat - (a.getD i 0).toNat - (b.getD i 0).toNat : Nat) : Int)
          rcases x with x | x <;> rcases y with y | y <;> rw [x, y] <;> decide +kernel
      refine ⟨.ref p, rfl, p, _, ((0 : Nat) : Int), .str z, rfl, rfl, SqT.of hp, atI_nat rfl, ?_⟩
      refine ⟨.str z, rfl, rfl, _, rfl, ite2 (fun e => absurd (V.str.inj (of_decide_eq_true e)) n1) (fun _ => ?_)⟩
      refine ⟨.ref p, rfl, p, z, rest, rfl, hp, fun e => absurd e n2, fun e => absurd e n3, fun _ _ => ?_⟩
      refine ⟨_, rfl, rfl, _, rfl, ite2 (fun k => by cases k) (fun _ => ?_)⟩
      refine ⟨.ref p, rfl, .ref p, f, rfl, tk, fun H1 b0 xs s1 hb0 txs => ⟨b0, rfl, ⟨_, SqT.of hb0⟩, fun D nD => ?_⟩⟩
      have lxs : xs.length = f.inner.length := by rw [txs.length, List.length_map]
      have few : f.inner.length ≤ 4 := Fm.inner_few ok
      have cst := Fm.cnt_eq f
      have tc1 := tc.same s1
      have tm1 := (Gr.of s1).2 _ tm
      have okI : ∀ g ∈ f.inner, g.ok m = true ∧ g.dep ≤ e ∧ g.cnt ≤ 1000 := fun g hg => ⟨Fm.inner_ok ok hg, by have := Fm.inner_dep hg; omega, by have := Fm.cnts_mem hg; omega⟩
      have okT : ∀ t ∈ f.inner.map (Fm.tri a b), t.Ok ∧ t.lt 1000 := fun t ht => by
        obtain ⟨g, hg, rfl⟩ := List.mem_map.mp ht
        obtain ⟨k1, k2, k3⟩ := okI g hg
        have := Fm.tri_lt ha hb g k1
        exact ⟨Fm.tri_ok ha hb g, Nat.le_trans this.1 k3, Nat.le_trans this.2 k3⟩
      refine lc_tup (K := K) (a := b0) (xs := xs) (fun i H' => GrD D H1 H' ∧ ∃ acc, H' D = some (.lst acc) ∧ TkAll H' acc (((f.inner.take i).map (Fm.tri a b)).map Tri.d)) ⟨GrD.new nD, [], upd_same, .nil⟩ (fun i H' _ hP => SqT.of (hP.1.gr.tup hb0)) ?_ ?_
      · rintro i u H2 hu ⟨g2, acc, hD, tacc⟩
        obtain ⟨g, hg, tg⟩ := txs.at hu
        obtain ⟨k1, k2, k3⟩ := okI g (List.mem_of_getElem? hg)
        have il := (List.getElem?_eq_some_iff.mp hg).1
        refine ⟨rfl, u, rfl, .ref pc, rfl, u, .ref pc, g, m, a, b, rfl, tg.gr g2.gr, k1, k2, k3, tc1.gr g2.gr, la, lb, ha, hb, g2.gr.2 _ tm1, fun r H3 g3 tr => ?_⟩
        have hD3 := g3.lst hD
        refine ⟨acc, hD3, ?_, (g2.then hD g3).set, acc ++ [r], upd_same, ?_⟩
        · rw [tacc.length, List.length_map, List.length_map, List.length_take]
          exact Nat.lt_of_le_of_lt (show min i f.inner.length ≤ 4 by omega) (by decide)
        · rw [List.take_add_one, hg, List.map_append, List.map_append]
          exact ((tacc.gr g3).ts (Ts.set hD3) (noLs_map Tri.noLd _)).append (.cons (tr.ts (Ts.set hD3) (Tri.noLd _)) .nil)
      rintro H2 ⟨g2, us, hD, tus⟩
      rw [lxs, List.take_length] at tus
      have g02 := (Gr.of s1).trans g2.gr
      rcases sorts with ⟨rfl, g, rfl⟩ | ⟨cc, fs, rfl, rfl, nf⟩
      · refine ⟨.str wNot, rfl, rfl, _, rfl, ite2 (fun _ => ?_) (fun k => absurd (decide_eq_true rfl) k)⟩
        cases tus with
        | @cons u _ us _ tu r =>
          exact ⟨.ref D, rfl, D, _, 0, u, rfl, rfl, SqL.of hD, at_0 _ _, u, g.tri a b, rfl, tu, Fm.tri_ok ha hb g, fun r H3 s3 tr => q r H3 (g02.trans (Gr.of s3)) tr⟩
      refine ⟨.str (wOp cc), rfl, rfl, _, rfl, ite2 (fun e => absurd (V.str.inj (of_decide_eq_true e)) (by cases cc <;> decide +kernel)) (fun _ => ?_)⟩
      have nn : fs.map (Fm.tri a b) ≠ [] := fun z => nf (List.map_eq_nil_iff.mp z)
      have ln : (fs.map (Fm.tri a b)).length ≤ 4 := by rw [List.length_map]; exact few
      have qe : (Fm.op cc fs).tri a b = Tri.op cc (fs.map (Fm.tri a b)) := Fm.tri_app cc fs
      rw [qe] at q
      have okF : ∀ t ∈ fs.map (Fm.tri a b), t.Ok := fun t ht => (okT t ht).1
      cases cc with
      | true =>
        refine ⟨.str wAnd, rfl, rfl, _, rfl, ite2 (fun _ => ?_) (fun k => absurd (decide_eq_true rfl) k)⟩
        exact ⟨.ref D, rfl, D, us, fs.map (Fm.tri a b), rfl, hD, tus, nn, ln, fun t ht => ⟨(okT t ht).1, (okT t ht).2.1⟩, g02.2 _ tm, fun r H3 g3 tr => q r H3 (g02.trans g3) tr⟩
      | false =>
        refine ⟨.str wOr, rfl, rfl, _, rfl, ite2 (fun k => absurd (V.str.inj (of_decide_eq_true k)) (by decide +kernel)) (fun _ => ?_)⟩
        refine ⟨.ref D, rfl, D, rfl, ⟨_, SqL.of hD⟩, fun D2 nD2 => ?_⟩
        refine lc_list (K := K) (a := D) (xs := us) (fun i H' => Same H2 (hd1 D2 H') ∧ ∃ acc, H' D2 = some (.lst acc) ∧ TkAll H' acc ((((fs.map (Fm.tri a b)).take i).map Tri.neg).map Tri.d)) ⟨hd1_of (same_upd nD2) nD2, [], upd_same, .nil⟩ (fun i H' _ z => SqL.of (hd1_le _ _ (z.1 _ _ hD))) ?_ ?_
        · rintro i u H3 hu ⟨s3, acc, hD2, tacc⟩
          obtain ⟨d, hd, tu⟩ := tus.get hu
          rw [List.getElem?_map] at hd
          obtain ⟨t, ht, rfl⟩ := Option.map_eq_some_iff.mp hd
          have ht : (fs.map (Fm.tri a b))[i]? = some t := ht
          refine ⟨rfl, u, rfl, u, t, rfl, tu.same (fun b o z => hd1_le _ _ (s3 b o z)), okF t (List.mem_of_getElem? ht), fun r H4 s4 tr => ?_⟩
          have hD4 := s4 _ _ hD2
          refine ⟨acc, hD4, ?_, (s3.trans (hd1_same s4)).trans hd1_upd, acc ++ [r], upd_same, ?_⟩
          · rw [tacc.length, List.length_map, List.length_map, List.length_take]
            exact Nat.lt_of_le_of_lt (show min i (fs.map (Fm.tri a b)).length ≤ 4 by omega) (by decide)
          · rw [List.take_add_one, ht, List.map_append, List.map_append]
            exact ((tacc.same s4).ts (Ts.set hD4) (noLs_map Tri.noLd _)).append (.cons (tr.ts (Ts.set hD4) (Tri.noLd _)) .nil)
        rintro H3 ⟨s3, acc, hD2, tacc⟩
        have lu : us.length = (fs.map (Fm.tri a b)).length := by rw [tus.length, List.length_map]; rfl
        rw [lu, List.take_length] at tacc
        have g03 := g02.trans (Gr.of fun b o z => hd1_le _ _ (s3 b o z))
        refine ⟨D2, acc, (fs.map (Fm.tri a b)).map Tri.neg, rfl, hD2, tacc, fun z => nn (List.map_eq_nil_iff.mp z), by rw [List.length_map]; exact ln, fun t ht => ?_, g03.2 _ tm, fun r H4 g4 tr => ?_⟩
        · obtain ⟨s, hs, rfl⟩ := List.mem_map.mp ht
          exact ⟨Tri.neg_ok (okT s hs).1, (okT s hs).2.2⟩
        · exact ⟨r, _, rfl, tr, Tri.all_ok (Tri.map_ok okF), fun r2 H5 s5 tr2 => q r2 H5 ((g03.trans g4).trans (Gr.of s5)) tr2⟩
theorem ok_most_of (T : Tx w K mg) (B : Tb base T) : FnOk P w K mg base CX0 30 T.f_most_of T.fd_most_of ["form", "change"] (sp_most T 22) := ok_mostE T B 22
/-! ### the word of a form, and its greatest number -/
def Tri.wd (t : Tri) : PyData := .tuple [.int ((t.f : Nat) : Int), .int ((t.l : Nat) : Int), .bool (decide (1 < t.num))]
def sp_form_word (T : Tx w K mg) : Sp := fun vs H Q _ => ∃ (v c : V) (f : Fm) (m : Nat) (a b : List Int), vs = [v, c] ∧ Tk H v f.d ∧ f.ok m = true ∧ f.dep ≤ 22 ∧ f.cnt ≤ 1000 ∧ Tk H c (chD a b) ∧ a.length = m ∧ b.length = m ∧ Row01 a ∧ Row01 b ∧ GxR.TabG H T.P_most_of_and ∧ ∀ p H', Gr H H' → H' p = some (.tup [.int (((f.tri a b).f : Nat) : Int), .int (((f.tri a b).l : Nat) : Int), .bl (decide (1 < (f.tri a b).num))]) → Q (.ref p) H'
theorem ok_form_word (T : Tx w K mg) (B : Tb base T) : FnOk P w K mg base CX0 31 T.f_form_word T.fd_form_word ["form", "change"] (sp_form_word T) := by
  refine T.F_form_word.ok sc_form_word (fun vs H Q E h => ?_) (fun cdv A outer s H vs Q E hr h => ?_)
  · obtain ⟨v, c, f, m, a, b, rfl, _⟩ := h
    rfl
  · obtain ⟨v, c, f, m, a, b, rfl, tk, ok, de, cf, tc, la, lb, ha, hb, tm, q⟩ := h
    refine ⟨_, (pss_cons (ps_asg (pe_call (ok_most_of T B) (hr.mono (by decide)) (by rfl) T.g_most_of T.F_most_of.kp T.b_most_of .nil pass0 (pa_cons (pv 0) (pa_cons (pv 1) pa_nil))) (pg_tup rfl (pgs_cons (pg_name (i := 2) sc_form_word.nd rfl (by first | exact .inl rfl | exact .inr rfl)) (pgs_cons (pg_name (i := 3) sc_form_word.nd rfl (by first | exact .inl rfl | exact .inr rfl)) pgs_nil)))) (pss_one (ps_ret (pe_tup (pa_cons (pv 2) (pa_cons (pe_op op_xor (pv 2) (pe_op op_and (pv 3) pe_int)) (pa_cons (pe_cmpR op_gt (pv 3) pe_int (nomark _)) pa_nil))))))), ?_⟩
    refine ⟨v, rfl, c, rfl, v, c, f, m, a, b, rfl, tk, ok, de, cf, tc, la, lb, ha, hb, tm, fun r H1 g1 tr => ?_⟩
    obtain ⟨p, rfl, hp⟩ := Tri.inv tr
    refine ⟨p, _, rfl, SqT.of hp, rfl, _, _, rfl, _, _, rfl, rfl, ?_⟩
    have okk := Fm.tri_ok ha hb f
    refine ⟨_, rfl, _, rfl, _, rfl, _, _, rfl, rfl, _, _, rfl, rfl, _, rfl, _, _, rfl, rfl, sl3, fun r nr => ?_⟩
    refine q r _ (g1.trans (Gr.of (same_upd nr))) ?_
    rw [upd_same]
    have e : decide ((1 : Int) < (((f.tri a b).num : Nat) : Int)) = decide (1 < (f.tri a b).num) := decide_eq_decide.mpr ⟨fun h => by omega, fun h => by omega⟩
    show some (HO.tup [_, V.int (Builtin.bitXor (((f.tri a b).f : Nat) : Int) (Builtin.bitAnd (((f.tri a b).num : Nat) : Int) 1)), V.bl (decide ((1 : Int) < (((f.tri a b).num : Nat) : Int)))]) = _
    rw [Tri.last_of okk, e]


end
end Gk

set_option Elab.async false
set_option linter.all false
set_option maxRecDepth 100000
set_option maxHeartbeats 1000000
set_option pp.maxSteps 1500
set_option pp.deepTerms false
namespace Gk
open PySem PySem.Spec PyProof.Rows L2
section
variable {P : Program} {w : World} {K : PySem.W.Frag} {mg : Str → Option Value} {base : Heap}
theorem lc_enum {K : PySem.W.Frag} {a : Addr} {xs : List V} {g : TG} {tt : TT} {te : TE} {vs : List Nat} {σ : L2.St} {H1 : Hp} {D : Addr} {Qd : Hp → Prop} (Pv : Nat → Hp → Prop) (h0 : Pv 0 (upd H1 D (.lst []))) (hl : ∀ i H, i ≤ xs.length → Pv i H → SqL K H a xs)
    (hs : ∀ i x T H, xs[i]? = some x → H T = none → Pv i H → g (.ref T) (wipe σ vs) (upd H T (.tup [.int (i : Nat), x])) fun σ2 H2 => wipe σ2 vs = wipe σ vs ∧ tt σ2 H2 fun b H3 =>
      if b = true then te σ2 H3 fun y H4 => ∃ acc, H4 D = some (.lst acc) ∧ acc.length < sizeLine ∧ Pv (i + 1) (upd H4 D (.lst (acc ++ [y]))) else Pv (i + 1) H3) (hd : ∀ H, Pv xs.length H → Qd H) :
    ∃ W : Nat → Nat → Hp → Prop, (∃ m, W 0 m (upd H1 D (.lst []))) ∧ ∀ i m H, W i m H →
      ((Ite K a).stop i H ∧ Qd H) ∨ ((Ite K a).go i H ∧ ∃ Nx : Hp → Prop, (∀ H', Nx H' → ∃ m', m' < m ∧ W (i + 1) m' H') ∧ ∀ x H', (Ite K a).yld i H x H' → g x (wipe σ vs) H' fun σ2 H2 => wipe σ2 vs = wipe σ vs ∧ tt σ2 H2 fun b H3 =>
        if b = true then te σ2 H3 fun y H4 => ∃ acc, H4 D = some (.lst acc) ∧ acc.length < sizeLine ∧ Nx (upd H4 D (.lst (acc ++ [y]))) else Nx H3) := by
  refine ⟨fun i m H => m = xs.length - i ∧ i ≤ xs.length ∧ Pv i H, ⟨xs.length, by simp, Nat.zero_le _, h0⟩, ?_⟩
  rintro i m H ⟨rfl, hi, p⟩
  have qx := hl i H hi p
  by_cases hlt : i < xs.length
  · have hx : xs[i]? = some xs[i] := List.getElem?_eq_getElem hlt
    refine .inr ⟨⟨xs, _, qx, hx⟩, Pv (i + 1), fun H' p' => ⟨xs.length - (i + 1), by omega, rfl, hlt, p'⟩, fun x H' y => ?_⟩
    obtain ⟨T, x1, rfl, nT, rfl, e1⟩ := y
    exact hs i x1 T H (e1 xs qx) nT p
  · have e : i = xs.length := by omega
    subst e
    exact .inl ⟨⟨xs, qx, Nat.le_refl _⟩, hd H p⟩

/-! ### the pairs of worths at two times -/
/-- the pair x, y may be seen: first worth, last one, more changes than these -/
def inB (f l m x y : Bool) : Bool := m || (x == f && y == f) || (x == f && y == l) || (x == l && y == l)
def moreAnd (f l m f' l' m' : Bool) : Bool := (f || l || m) && (f' || l' || m') && (m || m' || !((f && f') || (l && l')))
theorem inB_and : ∀ f l m f' l' m' x y : Bool, inB (f && f') (l && l') (moreAnd f l m f' l' m') x y = true ↔ ∃ a b a' b' : Bool, inB f l m a b = true ∧ inB f' l' m' a' b' = true ∧ x = (a && a') ∧ y = (b && b') := by decide +kernel
theorem inB_neg : ∀ f l m x y : Bool, inB (!f) (!l) m (!x) (!y) = inB f l m x y := by decide +kernel
def Tri.fb (t : Tri) : Bool := decide (t.f = 1)
def Tri.lb (t : Tri) : Bool := decide (t.l = 1)
def Tri.mb (t : Tri) : Bool := decide (1 < t.num)
def Tri.sees (t : Tri) (p : Bool × Bool) : Bool := inB t.fb t.lb t.mb p.1 p.2
theorem Tri.neg_b {t : Tri} (h : t.Ok) : t.neg.fb = !t.fb ∧ t.neg.lb = !t.lb ∧ t.neg.mb = t.mb := by
  have e := Tri.num_neg h
  obtain ⟨a, b, c, d⟩ := h
  refine ⟨?_, ?_, ?_⟩
  · unfold Tri.fb Tri.neg
    rcases (show t.f = 0 ∨ t.f = 1 by omega) with z | z <;> rw [z] <;> rfl
  · unfold Tri.lb Tri.neg
    rcases (show t.l = 0 ∨ t.l = 1 by omega) with z | z <;> rw [z] <;> rfl
  · unfold Tri.mb
    rw [e]
theorem Tri.and_b {s t : Tri} (h : s.Ok) (k : t.Ok) : (s.and t).fb = (s.fb && t.fb) ∧ (s.and t).lb = (s.lb && t.lb) ∧ (s.and t).mb = moreAnd s.fb s.lb s.mb t.fb t.lb t.mb := by
  obtain ⟨f, l, u⟩ := s
  obtain ⟨f', l', u'⟩ := t
  obtain ⟨a, b, c, d⟩ := h
  obtain ⟨a', b', c', d'⟩ := k
  dsimp only at a b c d a' b' c' d'
  have F : f = 0 ∨ f = 1 := by omega
  have L : l = 0 ∨ l = 1 := by omega
  have F' : f' = 0 ∨ f' = 1 := by omega
  have L' : l' = 0 ∨ l' = 1 := by omega
  have U : u = 0 ∨ u = 1 ∨ 2 ≤ u := by omega
  have U' : u' = 0 ∨ u' = 1 ∨ 2 ≤ u' := by omega
  unfold Tri.and Tri.fb Tri.lb Tri.mb Tri.num moreAnd
  dsimp only
  refine ⟨?_, ?_, ?_⟩
  · rcases F with rfl | rfl <;> rcases F' with rfl | rfl <;> rfl
  · rcases L with rfl | rfl <;> rcases L' with rfl | rfl <;> rfl
  · rw [Bool.eq_iff_iff]
    simp only [Bool.and_eq_true, Bool.or_eq_true, Bool.not_eq_true', Bool.or_eq_false_iff, Bool.and_eq_false_iff, decide_eq_true_eq, decide_eq_false_iff_not]
    repeat' split
    all_goals omega
theorem Tri.sees_neg {t : Tri} (h : t.Ok) (x y : Bool) : t.neg.sees (x, y) = t.sees (!x, !y) := by
  obtain ⟨a, b, c⟩ := Tri.neg_b h
  unfold Tri.sees
  rw [a, b, c]
  have := inB_neg t.fb t.lb t.mb (!x) (!y)
  rw [Bool.not_not, Bool.not_not] at this
  exact this
theorem Tri.sees_and {s t : Tri} (h : s.Ok) (k : t.Ok) (x y : Bool) : (s.and t).sees (x, y) = true ↔ ∃ a b a' b' : Bool, s.sees (a, b) = true ∧ t.sees (a', b') = true ∧ x = (a && a') ∧ y = (b && b') := by
  obtain ⟨e1, e2, e3⟩ := Tri.and_b h k
  unfold Tri.sees
  rw [e1, e2, e3]
  exact inB_and ..
theorem Tri.sees_or {s t : Tri} (h : s.Ok) (k : t.Ok) (x y : Bool) : (s.or t).sees (x, y) = true ↔ ∃ a b a' b' : Bool, s.sees (a, b) = true ∧ t.sees (a', b') = true ∧ x = (a || a') ∧ y = (b || b') := by
  show ((s.neg.and t.neg).neg).sees (x, y) = true ↔ _
  rw [Tri.sees_neg (Tri.and_ok (Tri.neg_ok h) (Tri.neg_ok k)), Tri.sees_and (Tri.neg_ok h) (Tri.neg_ok k)]
  constructor
  · rintro ⟨a, b, a', b', h1, h2, e1, e2⟩
    rw [Tri.sees_neg h] at h1
    rw [Tri.sees_neg k] at h2
    refine ⟨_, _, _, _, h1, h2, ?_, ?_⟩
    · have := congrArg (! ·) e1; simpa using this
    · have := congrArg (! ·) e2; simpa using this
  · rintro ⟨a, b, a', b', h1, h2, rfl, rfl⟩
    refine ⟨!a, !b, !a', !b', by rw [Tri.sees_neg h, Bool.not_not, Bool.not_not]; exact h1, by rw [Tri.sees_neg k, Bool.not_not, Bool.not_not]; exact h2, by simp, by simp⟩
def bi (b : Bool) : Int := if b = true then 1 else 0
def prD (p : Bool × Bool) : PyData := .tuple [.int (bi p.1), .int (bi p.2)]
/-- the pairs that are seen, each once -/
def Sees (t : Tri) (ps : List (Bool × Bool)) : Prop := ps.Nodup ∧ ∀ p, p ∈ ps ↔ t.sees p = true
theorem len_counts : ∀ l : List (Bool × Bool), l.length = l.count (false, false) + l.count (false, true) + l.count (true, false) + l.count (true, true)
  | [] => rfl
  | p :: r => by
    rw [List.length_cons, len_counts r]
    obtain ⟨x, y⟩ := p
    cases x <;> cases y <;> simp [List.count_cons] <;> omega
theorem nodup_count {l : List (Bool × Bool)} (h : l.Nodup) (a : Bool × Bool) : l.count a ≤ 1 := by
  induction l with
  | nil => exact Nat.zero_le _
  | cons b r ih =>
    rw [List.nodup_cons] at h
    have := ih h.2
    by_cases e : b = a
    · subst e
      have z : r.count b = 0 := List.count_eq_zero.mpr h.1
      rw [List.count_cons_self, z]
      exact Nat.le_refl _
    · rw [List.count_cons_of_ne e]
      exact this
theorem Sees.few {t : Tri} {ps : List (Bool × Bool)} (h : Sees t ps) : ps.length ≤ 4 := by
  rw [len_counts]
  have a := nodup_count h.1 (false, false)
  have b := nodup_count h.1 (false, true)
  have c := nodup_count h.1 (true, false)
  have d := nodup_count h.1 (true, true)
  omega
def cb (c : Bool) (p q : Bool × Bool) : Bool × Bool := if c = true then (p.1 && q.1, p.2 && q.2) else (p.1 || q.1, p.2 || q.2)
theorem bi_and (x y : Bool) : bi x * bi y = bi (x && y) := by cases x <;> cases y <;> rfl
theorem bi_or (x y : Bool) : (if bi y > bi x then bi y else bi x) = bi (x || y) := by cases x <;> cases y <;> rfl
theorem bi_not (x : Bool) : 1 - bi x = bi (!x) := by cases x <;> rfl
theorem Tri.op_one {c : Bool} {t : Tri} (h : t.Ok) : Tri.op c [t] = t := by
  cases c
  · show (Tri.all [t.neg]).neg = t
    rw [show Tri.all [t.neg] = t.neg from Tri.and_one (Tri.neg_ok h), Tri.neg_neg h]
  · exact Tri.and_one h
theorem Tri.op_snoc {c : Bool} {xs : List Tri} {t : Tri} (hx : ∀ s ∈ xs, s.Ok) (h : t.Ok) : Tri.op c (xs ++ [t]) = if c = true then (Tri.op c xs).and t else (Tri.op c xs).or t := by
  cases c
  · rw [if_neg (by decide)]
    show (Tri.all ((xs ++ [t]).map Tri.neg)).neg = ((Tri.all (xs.map Tri.neg)).neg.neg.and t.neg).neg
    rw [List.map_append, show [t].map Tri.neg = [t.neg] from rfl, Tri.all_snoc (Tri.neg_ok h), Tri.neg_neg (Tri.all_ok (Tri.map_ok hx))]
  · rw [if_pos rfl]
    exact Tri.all_snoc h
theorem Sees.comb {c : Bool} {xs : List Tri} {t : Tri} {ps qs ks : List (Bool × Bool)} (hx : ∀ s ∈ xs, s.Ok) (h : t.Ok) (sp : Sees (Tri.op c xs) ps) (sq : Sees t qs) (nd : ks.Nodup) (mem : ∀ q, q ∈ ks ↔ ∃ p ∈ ps, ∃ p' ∈ qs, q = cb c p p') : Sees (Tri.op c (xs ++ [t])) ks := by
  refine ⟨nd, fun q => (mem q).trans ?_⟩
  have ho : (Tri.op c xs).Ok := Tri.op_ok hx
  rw [Tri.op_snoc hx h]
  obtain ⟨x, y⟩ := q
  cases c
  · rw [if_neg (by decide), Tri.sees_or ho h]
    constructor
    · rintro ⟨p, hp, p', hp', e⟩
      have e : (x, y) = (p.1 || p'.1, p.2 || p'.2) := e
      cases e
      exact ⟨_, _, _, _, (sp.2 p).mp hp, (sq.2 p').mp hp', rfl, rfl⟩
    · rintro ⟨a, b, a', b', h1, h2, rfl, rfl⟩
      exact ⟨(a, b), (sp.2 _).mpr h1, (a', b'), (sq.2 _).mpr h2, rfl⟩
  · rw [if_pos rfl, Tri.sees_and ho h]
    constructor
    · rintro ⟨p, hp, p', hp', e⟩
      have e : (x, y) = (p.1 && p'.1, p.2 && p'.2) := e
      cases e
      exact ⟨_, _, _, _, (sp.2 p).mp hp, (sq.2 p').mp hp', rfl, rfl⟩
    · rintro ⟨a, b, a', b', h1, h2, rfl, rfl⟩
      exact ⟨(a, b), (sp.2 _).mpr h1, (a', b'), (sq.2 _).mpr h2, rfl⟩
theorem Sees.neg {t : Tri} {ps : List (Bool × Bool)} (h : t.Ok) (s : Sees t ps) : Sees t.neg (ps.map fun p => (!p.1, !p.2)) := by
  refine ⟨?_, fun q => ?_⟩
  · refine List.Pairwise.map _ (fun a b ne e => ne ?_) s.1
    obtain ⟨a, a'⟩ := a
    obtain ⟨b, b'⟩ := b
    have e1 := (Prod.mk.inj e).1
    have e2 := (Prod.mk.inj e).2
    simp at e1 e2
    rw [e1, e2]
  · obtain ⟨x, y⟩ := q
    rw [Tri.sees_neg h, ← s.2]
    constructor
    · intro hm
      obtain ⟨p, hp, e⟩ := List.mem_map.mp hm
      cases e
      simpa using hp
    · intro hm
      exact List.mem_map.mpr ⟨_, hm, by simp⟩
mutual
theorem Tk.dp' {K : PySem.W.Frag} {H : Hp} : ∀ {v : V} {d : PyData}, Tk H v d → Dp K H v d
  | _, _, .bl b => .bl b
  | _, _, .int i => .int i
  | _, _, .str x => .str x
  | _, _, .lst h t => .lst (SqL.of h) t.dp'
  | _, _, .tup h t => .tup (SqT.of h) t.dp'
theorem TkAll.dp' {K : PySem.W.Frag} {H : Hp} : ∀ {vs : List V} {ds : List PyData}, TkAll H vs ds → DpAll K H vs ds
  | _, _, .nil => .nil
  | _, _, .cons h t => .cons h.dp' t.dp'
end
theorem noL_pr (p : Bool × Bool) : noL (prD p) = true := rfl
theorem noL_prs (ps : List (Bool × Bool)) : noLs (ps.map prD) = true := noLs_map noL_pr ps
theorem prD_inj {p q : Bool × Bool} : PyData.eqv (prD p) (prD q) = decide (p = q) := by
  obtain ⟨a, b⟩ := p
  obtain ⟨c, d⟩ := q
  cases a <;> cases b <;> cases c <;> cases d <;> decide +kernel
theorem any_pr (p : Bool × Bool) (l : List (Bool × Bool)) : ((l.map prD).any fun z => PyData.eqv z (prD p)) = decide (p ∈ l) := by
  induction l with
  | nil => rfl
  | cons q r ih =>
    rw [List.map_cons, List.any_cons, ih, prD_inj, Bool.eq_iff_iff, Bool.or_eq_true, decide_eq_true_eq, decide_eq_true_eq, decide_eq_true_eq, List.mem_cons]
    exact ⟨fun h => h.imp Eq.symm id, fun h => h.imp Eq.symm id⟩
theorem pr_shaped (p : Bool × Bool) : SeqAt.shaped (prD p) = true := rfl
theorem lay_prs : ∀ l : List (Bool × Bool), PyData.canLayAll0 (l.map prD) = true
  | [] => rfl
  | p :: r => by
    show (PyData.canLay0 (prD p) && PyData.canLayAll0 (r.map prD)) = true
    rw [lay_prs r]
    rfl
theorem depth_prs : ∀ l : List (Bool × Bool), PyData.depthAll (l.map prD) ≤ 2
  | [] => Nat.zero_le _
  | p :: r => by
    show max (prD p).depth (PyData.depthAll (r.map prD)) ≤ 2
    have := depth_prs r
    have : (prD p).depth ≤ 2 := Nat.le_succ_of_le (Nat.le_refl 1)
    omega
theorem prs_shaped (l : List (Bool × Bool)) : SeqAt.shaped (.list (l.map prD)) = true := by
  unfold SeqAt.shaped
  rw [Bool.and_eq_true]
  refine ⟨?_, decide_eq_true ?_⟩
  · simp only [PyData.canLay0, lay_prs]
  · have := depth_prs l
    simp only [PyData.depth]
    omega
theorem pr_inv {H : Hp} {v : V} {p : Bool × Bool} (h : Tk H v (prD p)) : ∃ a, v = .ref a ∧ H a = some (.tup [.int (bi p.1), .int (bi p.2)]) := by
  have h : Tk H v (.tuple [.int (bi p.1), .int (bi p.2)]) := h
  cases h with
  | @tup a xs _ ha all =>
    cases all with
    | cons a1 r => cases r with
      | cons b1 e =>
        cases e
        cases a1
        cases b1
        exact ⟨a, rfl, ha⟩
theorem pr_mk {H : Hp} {a : Addr} {x y : Int} {p : Bool × Bool} (h : H a = some (.tup [.int x, .int y])) (e1 : x = bi p.1) (e2 : y = bi p.2) : Tk H (.ref a) (prD p) := by
  subst e1 e2
  exact .tup h (.cons (.int _) (.cons (.int _) .nil))
/-- a list of the pairs that t sees -/
def PL (H : Hp) (v : V) (t : Tri) : Prop := ∃ (r : Addr) (vs : List V) (ps : List (Bool × Bool)), v = .ref r ∧ H r = some (.lst vs) ∧ TkAll H vs (ps.map prD) ∧ Sees t ps
theorem PL.same {H H' : Hp} {v : V} {t : Tri} (h : PL H v t) (s : Same H H') : PL H' v t := by
  obtain ⟨r, vs, ps, e, a, b, c⟩ := h
  exact ⟨r, vs, ps, e, s _ _ a, b.same s, c⟩
theorem none_same {H H' : Hp} {p : Addr} (s : Same H H') (n : H' p = none) : H p = none := by
  cases e : H p with
  | none => rfl
  | some o =>
    rw [s _ _ e] at n
    cases n
theorem Ts.hdL {H : Hp} {D : Addr} {ys : List V} (h : H D = some (.lst ys)) : Ts H (hd1 D H) := fun b xs e => by
  rw [hd1_at (ne_of e h (by intro z; cases z))]
  exact e
theorem PL.hd {H : Hp} {r D : Addr} {ys : List V} {t : Tri} (h : PL H (.ref r) t) (n : r ≠ D) (hD : H D = some (.lst ys)) : PL (hd1 D H) (.ref r) t := by
  obtain ⟨r', vs, ps, e, a, b, c⟩ := h
  cases e
  exact ⟨r, vs, ps, rfl, by rw [hd1_at n]; exact a, b.ts (Ts.hdL hD) (noL_prs ps), c⟩
/-- lists of pairs, one for each of ts, made since H0 -/
def PLs (H0 H : Hp) (vs : List V) (ts : List Tri) : Prop := vs.length = ts.length ∧ ∀ (i : Nat) (v : V) (t : Tri), vs[i]? = some v → ts[i]? = some t → ∃ r, v = .ref r ∧ H0 r = none ∧ PL H (.ref r) t
theorem PLs.same {H0 H H' : Hp} {vs : List V} {ts : List Tri} (h : PLs H0 H vs ts) (s : Same H H') : PLs H0 H' vs ts := ⟨h.1, fun i v t hv ht => by
  obtain ⟨r, e, n, p⟩ := h.2 i v t hv ht
  exact ⟨r, e, n, p.same s⟩⟩
theorem PLs.nil {H0 H : Hp} : PLs H0 H [] [] := ⟨rfl, fun i v t h => by cases h⟩
theorem PLs.snoc {H0 H : Hp} {vs : List V} {ts : List Tri} {r : Addr} {t : Tri} (h : PLs H0 H vs ts) (n : H0 r = none) (p : PL H (.ref r) t) : PLs H0 H (vs ++ [.ref r]) (ts ++ [t]) := by
  refine ⟨by rw [List.length_append, List.length_append, h.1]; rfl, fun i v u hv hu => ?_⟩
  by_cases lt : i < vs.length
  · rw [List.getElem?_append_left lt] at hv
    rw [List.getElem?_append_left (by rw [← h.1]; exact lt)] at hu
    exact h.2 i v u hv hu
  · rw [List.getElem?_append_right (by omega)] at hv
    rw [List.getElem?_append_right (by rw [← h.1]; omega), ← h.1] at hu
    cases hz : i - vs.length with
    | zero =>
      rw [hz] at hv hu
      cases hv
      cases hu
      exact ⟨r, rfl, n, p⟩
    | succ j => rw [hz] at hv; cases hv
theorem cmul_bi (x y : Bool) : CMul (bi x) (bi y) := by cases x <;> exact .inl ⟨by decide, by decide⟩
def sp_pairs (K : PySem.W.Frag) (e : Nat) : Sp := fun vs H Q _ => ∃ (v c : V) (f : Fm) (m : Nat) (a b : List Int), vs = [v, c] ∧ Tk H v f.d ∧ f.ok m = true ∧ f.dep ≤ e ∧ Tk H c (chD a b) ∧ a.length = m ∧ b.length = m ∧ Row01 a ∧ Row01 b ∧ ∀ r H', H r = none → Same H H' → PL H' (.ref r) (f.tri a b) → Q (.ref r) H'

end
end Gk

set_option Elab.async false
set_option linter.all false
set_option maxRecDepth 100000
set_option maxHeartbeats 1000000
set_option pp.maxSteps 1500
set_option pp.deepTerms false
namespace Gk
open PySem PySem.Spec PyProof.Rows L2
section
variable {P : Program} {w : World} {K : PySem.W.Frag} {mg : Str → Option Value} {base : Heap}
theorem ok_pairsE (T : Tx w K mg) : ∀ e : Nat, FnOk P w K mg base CX0 (e + 2) T.f_pairs T.fd_pairs ["_law_form_here", "_law_change_here"] (sp_pairs K e)
  | 0 => ⟨fun _ _ _ _ h => by obtain ⟨_, _, f, _, _, _, _, _, _, h, _⟩ := h; exact absurd h (by have := Fm.dep_pos f; omega), fun _ _ _ _ _ _ _ _ _ _ _ _ _ h => by obtain ⟨_, _, f, _, _, _, _, _, _, h, _⟩ := h; exact absurd h (by have := Fm.dep_pos f; omega)⟩
  | e + 1 => by
    have ih := ok_pairsE T e
    refine T.F_pairs.ok sc_pairs (fun vs H Q E h => ?_) (fun cdv A outer s H vs Q E hr h => ?_)
    · obtain ⟨v, c, f, m, a, b, rfl, _⟩ := h
      rfl
    · obtain ⟨v, c, f, m, a, b, rfl, tk, ok, de, tc, la, lb, a01, b01, q⟩ := h
      refine ⟨_, (pss_cons (ps_set (i := 2) sc_pairs.nd rfl (by first | exact .inl rfl | exact .inr rfl) (pe_ix ix_tup (pv 0) pe_int (fun _ _ => rfl))) (pss_cons (ps_if (pt_cmpR op_eq (pv 2) pe_str (nomark _)) (pss_cons (ps_set (i := 3) sc_pairs.nd rfl (by first | exact .inl rfl | exact .inr rfl) (pe_ix ix_tup (pe_ix ix_tup (pv 1) pe_int (fun _ _ => rfl)) (pe_ix ix_tup (pv 0) pe_int (fun _ _ => rfl)) (fun _ _ => rfl))) (pss_cons (ps_set (i := 4) sc_pairs.nd rfl (by first | exact .inl rfl | exact .inr rfl) (pe_ix ix_tup (pe_ix ix_tup (pv 1) pe_int (fun _ _ => rfl)) (pe_ix ix_tup (pv 0) pe_int (fun _ _ => rfl)) (fun _ _ => rfl))) (pss_one (ps_ret (pe_op op_cat (pe_lst (pa_cons (pe_tup (pa_cons (pv 3) (pa_cons (pv 3) pa_nil))) pa_nil)) (pe_op op_rep (pe_lst (pa_cons (pe_tup (pa_cons (pv 3) (pa_cons (pv 4) pa_nil))) (pa_cons (pe_tup (pa_cons (pv 4) (pa_cons (pv 4) pa_nil))) pa_nil))) (pe_callTy call_int1 (by rfl) T.m_int (by decide +kernel) (pa_cons (pe_cmpR op_ne (pv 3) (pv 4) (nomark _)) pa_nil)))))))) pss_nil) (pss_cons (ps_if (pt_cmpR op_in_seq (pv 2) (pe_tup (pa_cons pe_str (pa_cons pe_str pa_nil))) rfl) (pss_one (ps_ret (pe_lst (pa_cons (pe_op op_repT (pe_tup (pa_cons (pe_callTy call_int1 (by rfl) T.m_int (by decide +kernel) (pa_cons (pe_cmpR op_eq (pv 2) pe_str (nomark _)) pa_nil)) pa_nil)) pe_int) pa_nil)))) pss_nil) (pss_cons (ps_setLc (i := 5) (own := [("_law_part", 11)]) (by rfl) sc_pairs.nd rfl rfl (sw_true rfl rfl rfl (by decide +kernel)) (pi_tup (pe_call (ok_inner T) (hr.mono (by omega)) (by rfl) T.g_inner T.F_inner.kp T.b_inner .nil pass0 (pa_cons (pv 0) pa_nil))) (blkOk_by (own := [("_law_part", 11)]) (N := ["_law_form_here", "_law_change_here", "_law_word_here", "_law_first", "_law_last", "_law_told", "_law_found", "_law_pairs_here", "_law_more", "_law_one", "_law_other", "_law_part", "_law_k", "_law_pair", "_law_there", "_law_then"]) (sc := defScope s_pairs) (by decide +kernel)) (fun _ _ _ _ _ => (pg_name (i := 11) sc_pairs.nd rfl (by first | exact .inl rfl | exact .inr rfl))) (fun _ _ _ _ _ => pts_nil) (fun _ _ _ _ _ => (pe_call (ih) (hr.mono (by omega)) (by rfl) T.g_pairs T.F_pairs.kp T.b_pairs .nil pass0 (pa_cons (pv 11) (pa_cons (pv 1) pa_nil))))) (pss_cons (ps_if (pt_cmpR op_eq (pv 2) pe_str (nomark _)) (pss_one (ps_ret (pe_lc (own := [("_law_one", 9), ("_law_other", 10)]) (by rfl) sc_pairs.nd (pi_list (pe_ix ix_list (pv 5) pe_int (fun _ _ => rfl))) (blkOk_by (own := [("_law_one", 9), ("_law_other", 10)]) (N := ["_law_form_here", "_law_change_here", "_law_word_here", "_law_first", "_law_last", "_law_told", "_law_found", "_law_pairs_here", "_law_more", "_law_one", "_law_other", "_law_part", "_law_k", "_law_pair", "_law_there", "_law_then"]) (sc := defScope s_pairs) (by decide +kernel)) (fun _ _ _ _ _ => (show PG _ _ (gTup K 2 _) from pg_tup rfl (pgs_cons (pg_name (i := 9) sc_pairs.nd rfl (by first | exact .inl rfl | exact .inr rfl)) (pgs_cons (pg_name (i := 10) sc_pairs.nd rfl (by first | exact .inl rfl | exact .inr rfl)) pgs_nil)))) (fun _ _ _ _ _ => pts_nil) (fun _ _ _ _ _ => (pe_tup (pa_cons (pe_op op_sub pe_int (pv 9)) (pa_cons (pe_op op_sub pe_int (pv 10)) pa_nil))))))) pss_nil) (pss_cons (ps_set (i := 6) sc_pairs.nd rfl (by first | exact .inl rfl | exact .inr rfl) (pe_ix ix_list (pv 5) pe_int (fun _ _ => rfl))) (pss_cons (ps_for PassesOwn.never rfl (pi_list (pe_slice sl_list (pv 5) (po_some pe_int) po_none)) (pg_name (i := 7) sc_pairs.nd rfl (by first | exact .inl rfl | exact .inr rfl)) (pss_cons (ps_set (i := 8) sc_pairs.nd rfl (by first | exact .inl rfl | exact .inr rfl) (pe_lst pa_nil)) (pss_cons (ps_for PassesOwn.never rfl (pi_list (pv 6)) (pg_tup rfl (pgs_cons (pg_name (i := 9) sc_pairs.nd rfl (by first | exact .inl rfl | exact .inr rfl)) (pgs_cons (pg_name (i := 10) sc_pairs.nd rfl (by first | exact .inl rfl | exact .inr rfl)) pgs_nil))) (pss_one (ps_if (pt_cmpR op_eq (pv 2) pe_str (nomark _)) (pss_one (ps_set (i := 8) sc_pairs.nd rfl (by first | exact .inl rfl | exact .inr rfl) (pe_op op_cat (pv 8) (pe_lc (own := [("_law_there", 14), ("_law_then", 15)]) (by rfl) sc_pairs.nd (pi_list (pv 7)) (blkOk_by (own := [("_law_there", 14), ("_law_then", 15)]) (N := ["_law_form_here", "_law_change_here", "_law_word_here", "_law_first", "_law_last", "_law_told", "_law_found", "_law_pairs_here", "_law_more", "_law_one", "_law_other", "_law_part", "_law_k", "_law_pair", "_law_there", "_law_then"]) (sc := defScope s_pairs) (by decide +kernel)) (fun _ _ _ _ _ => (show PG _ _ (gTup K 2 _) from pg_tup rfl (pgs_cons (pg_name (i := 14) sc_pairs.nd rfl (by first | exact .inl rfl | exact .inr rfl)) (pgs_cons (pg_name (i := 15) sc_pairs.nd rfl (by first | exact .inl rfl | exact .inr rfl)) pgs_nil)))) (fun _ _ _ _ _ => pts_nil) (fun _ _ _ _ _ => (pe_tup (pa_cons (pe_op op_mul (pv 9) (pv 14)) (pa_cons (pe_op op_mul (pv 10) (pv 15)) pa_nil)))))))) (pss_one (ps_set (i := 8) sc_pairs.nd rfl (by first | exact .inl rfl | exact .inr rfl) (pe_op op_cat (pv 8) (pe_lc (own := [("_law_there", 14), ("_law_then", 15)]) (by rfl) sc_pairs.nd (pi_list (pv 7)) (blkOk_by (own := [("_law_there", 14), ("_law_then", 15)]) (N := ["_law_form_here", "_law_change_here", "_law_word_here", "_law_first", "_law_last", "_law_told", "_law_found", "_law_pairs_here", "_law_more", "_law_one", "_law_other", "_law_part", "_law_k", "_law_pair", "_law_there", "_law_then"]) (sc := defScope s_pairs) (by decide +kernel)) (fun _ _ _ _ _ => (show PG _ _ (gTup K 2 _) from pg_tup rfl (pgs_cons (pg_name (i := 14) sc_pairs.nd rfl (by first | exact .inl rfl | exact .inr rfl)) (pgs_cons (pg_name (i := 15) sc_pairs.nd rfl (by first | exact .inl rfl | exact .inr rfl)) pgs_nil)))) (fun _ _ _ _ _ => pts_nil) (fun _ _ _ _ _ => (pe_tup (pa_cons (pe_callB (call_max2 rfl) (by rfl) T.m_max (by decide +kernel) (pa_cons (pv 9) (pa_cons (pv 14) pa_nil))) (pa_cons (pe_callB (call_max2 rfl) (by rfl) T.m_max (by decide +kernel) (pa_cons (pv 10) (pa_cons (pv 15) pa_nil))) pa_nil))))))))))) (pss_one (ps_setLc (i := 6) (own := [("_law_k", 12), ("_law_pair", 13)]) (by rfl) sc_pairs.nd rfl rfl (sw_true rfl rfl rfl (by decide +kernel)) (pi_enum (by rfl) T.m_enumerate (pa_cons (pv 8) pa_nil)) (blkOk_by (own := [("_law_k", 12), ("_law_pair", 13)]) (N := ["_law_form_here", "_law_change_here", "_law_word_here", "_law_first", "_law_last", "_law_told", "_law_found", "_law_pairs_here", "_law_more", "_law_one", "_law_other", "_law_part", "_law_k", "_law_pair", "_law_there", "_law_then"]) (sc := defScope s_pairs) (by decide +kernel)) (fun _ _ _ _ _ => (show PG _ _ (gTup K 2 _) from pg_tup rfl (pgs_cons (pg_name (i := 12) sc_pairs.nd rfl (by first | exact .inl rfl | exact .inr rfl)) (pgs_cons (pg_name (i := 13) sc_pairs.nd rfl (by first | exact .inl rfl | exact .inr rfl)) pgs_nil)))) (fun _ _ _ _ _ => (pts_one (pt_cmpR (show OpR _ _ (rNotInD K) from (op_notInD (units65 hr))) (pv 13) (pe_slice (show SlR _ (rSlL K) from sl_list) (pv 8) po_none (po_some (pv 12))) rfl))) (fun _ _ _ _ _ => (pv 13))))))) (pss_one (ps_ret (pv 6)))))))))), ?_⟩
      obtain ⟨c, ra, rb, rfl, hc, hra, hrb⟩ := tc.ch_inv
      have key : (∃ b, f = .st b) ∨ (∃ i, f = .inp i) ∨ ∃ a z rest, v = .ref a ∧ H a = some (.tup (.str z :: rest)) ∧ z ≠ wIn ∧ z ≠ wOne ∧ z ≠ wNou ∧ ((z = wNot ∧ ∃ g, f = .no g) ∨ ∃ c fs, f = .op c fs ∧ z = wOp c ∧ fs ≠ []) := by
        cases f with
        | st b => exact .inl ⟨b, rfl⟩
        | inp i => exact .inr (.inl ⟨i, rfl⟩)
        | no f =>
          obtain ⟨a, w', rfl, ha, _⟩ := Fm.tk_no tk
          exact .inr (.inr ⟨a, _, _, rfl, ha, by decide +kernel, by decide +kernel, by decide +kernel, .inl ⟨rfl, f, rfl⟩⟩)
        | op c fs =>
          obtain ⟨a, b, ys, rfl, ha, _⟩ := Fm.tk_op tk
          refine .inr (.inr ⟨a, _, _, rfl, ha, by cases c <;> decide +kernel, by cases c <;> decide +kernel, by cases c <;> decide +kernel, .inr ⟨c, fs, rfl, rfl, fun z => ?_⟩⟩)
          subst z
          cases ok
      have two : ∀ z : Str, (if false = true then !inV (.str z) [V.str wOne, V.str wNou] else inV (.str z) [V.str wOne, V.str wNou]) = (decide (z = wOne) || decide (z = wNou)) := fun z => by
        rw [if_neg (by decide)]
        show (decide (wOne = z) || (decide (wNou = z) || false)) = _
        rw [Bool.or_false, decide_eq_decide.mpr (eq_comm (a := wOne)), decide_eq_decide.mpr (eq_comm (a := wNou))]
      rcases key with ⟨b', rfl⟩ | ⟨i, rfl⟩ | ⟨ad, z, rest, rfl, ha, n1, n2, n3, sorts⟩
      · obtain ⟨ad, rfl, ha⟩ := Fm.tk_st tk
        refine ⟨.ref ad, rfl, ad, _, 0, .str (wSt b'), rfl, rfl, SqT.of ha, rfl, ?_⟩
        refine ⟨.str (wSt b'), rfl, rfl, _, rfl, ite2 (fun e => absurd (V.str.inj (of_decide_eq_true e)) (by cases b' <;> decide +kernel)) (fun _ => ?_)⟩
        refine ⟨.str (wSt b'), rfl, sl2, fun p np => ?_⟩
        have s1 := same_upd (o := (HO.tup [V.str (Str.ofString "one"), V.str (Str.ofString "nought")])) np
        have h1 : upd H p (HO.tup [V.str (Str.ofString "one"), V.str (Str.ofString "nought")]) p = some (HO.tup [V.str (Str.ofString "one"), V.str (Str.ofString "nought")]) := upd_same
        generalize upd H p (HO.tup [V.str (Str.ofString "one"), V.str (Str.ofString "nought")]) = H1 at s1 h1 ⊢
        refine ⟨p, _, rfl, .inr (SqT.of h1), rfl, rfl, _, rfl, ite2 (fun _ => ?_) (fun k => absurd ((two (wSt b')).trans (by cases b' <;> decide +kernel)) k)⟩
        have e1 : (if decide (V.str (wSt b') = V.str (Str.ofString "one")) = true then (1 : Int) else 0) = bi b' := by
          cases b'
          · rw [decide_eq_false (show ¬ V.str (wSt false) = V.str (Str.ofString "one") from fun z => absurd (V.str.inj z) (by decide +kernel))]; rfl
          · rw [decide_eq_true (show V.str (wSt true) = V.str (Str.ofString "one") from rfl)]; rfl
        refine ⟨.str (wSt b'), rfl, rfl, .inr ⟨_, rfl, sl1, fun p1 np1 => ?_⟩⟩
        rw [e1]
        have s2 := same_upd (o := (HO.tup [V.int (bi b')])) np1
        have h2 : upd H1 p1 (HO.tup [V.int (bi b')]) p1 = some (HO.tup [V.int (bi b')]) := upd_same
        generalize upd H1 p1 (HO.tup [V.int (bi b')]) = H2 at s2 h2 ⊢
        refine ⟨p1, 2, _, rfl, rfl, SqT.of h2, List.cons_ne_nil _ _, by decide, by decide, (show [V.int (bi b')].length ≤ 1000 from (show 1 ≤ 1000 by decide)), fun p2 np2 => ?_⟩
        have s3 := same_upd (o := (HO.tup (List.replicate (Int.toNat 2) [V.int (bi b')]).flatten)) np2
        have h3 : upd H2 p2 (HO.tup (List.replicate (Int.toNat 2) [V.int (bi b')]).flatten) p2 = some (HO.tup (List.replicate (Int.toNat 2) [V.int (bi b')]).flatten) := upd_same
        generalize upd H2 p2 (HO.tup (List.replicate (Int.toNat 2) [V.int (bi b')]).flatten) = H3 at s3 h3 ⊢
        have h3 : H3 p2 = some (HO.tup [V.int (bi b'), V.int (bi b')]) := h3
        refine ⟨sl1, fun l nl => ?_⟩
        have s4 := same_upd (o := (HO.lst [V.ref p2])) nl
        have h4 : upd H3 l (HO.lst [V.ref p2]) l = some (HO.lst [V.ref p2]) := upd_same
        generalize upd H3 l (HO.lst [V.ref p2]) = H4 at s4 h4 ⊢
        have s04 := s1.trans (s2.trans (s3.trans s4))
        refine q l H4 (none_same (s1.trans (s2.trans s3)) nl) s04 ⟨l, _, [(b', b')], rfl, h4, .cons (pr_mk (s4 _ _ h3) rfl rfl) .nil, by simp, fun x => ?_⟩
        obtain ⟨x, y⟩ := x
        show (x, y) ∈ [(b', b')] ↔ (if b' = true then Tri.one else Tri.nought).sees (x, y) = true
        have key : ∀ b' x y : Bool, (x, y) ∈ [(b', b')] ↔ (if b' = true then Tri.one else Tri.nought).sees (x, y) = true := by decide +kernel
        exact key b' x y
      · obtain ⟨ad, rfl, ha⟩ := Fm.tk_inp tk
        refine ⟨.ref ad, rfl, ad, _, 0, .str wIn, rfl, rfl, SqT.of ha, rfl, ?_⟩
        refine ⟨.str wIn, rfl, rfl, _, rfl, ite2 (fun _ => ?_) (fun k => absurd (decide_eq_true rfl) k)⟩
        have hi : i < m := of_decide_eq_true ok
        have ga : ∃ x : Bool, a.getD i 0 = bi x := by
          rcases row_get a01 i with z | z
          · exact ⟨false, z⟩
          · exact ⟨true, z⟩
        have gb : ∃ x : Bool, b.getD i 0 = bi x := by
          rcases row_get b01 i with z | z
          · exact ⟨false, z⟩
          · exact ⟨true, z⟩
        obtain ⟨x, ex⟩ := ga
        obtain ⟨y, ey⟩ := gb
        have ata : atI (a.map V.int) (i : Int) = some (.int (bi x)) := atI_nat (by rw [List.getElem?_map, ← ex, List.getD_eq_getElem?_getD, List.getElem?_eq_getElem (by omega)]; rfl)
        have atb : atI (b.map V.int) (i : Int) = some (.int (bi y)) := atI_nat (by rw [List.getElem?_map, ← ey, List.getD_eq_getElem?_getD, List.getElem?_eq_getElem (by omega)]; rfl)
        refine ⟨.ref c, rfl, c, _, 0, .ref ra, rfl, rfl, SqT.of hc, rfl, .ref ad, rfl, ad, _, 1, .int i, rfl, rfl, SqT.of ha, rfl, ra, _, i, _, rfl, rfl, SqT.of hra, ata, ?_⟩
        refine ⟨.ref c, rfl, c, _, 1, .ref rb, rfl, rfl, SqT.of hc, rfl, .ref ad, rfl, ad, _, 1, .int i, rfl, rfl, SqT.of ha, rfl, rb, _, i, _, rfl, rfl, SqT.of hrb, atb, ?_⟩
        refine ⟨.int (bi x), rfl, .int (bi x), rfl, sl2, fun p1 np1 => ?_⟩
        have s1 := same_upd (o := (HO.tup [V.int (bi x), V.int (bi x)])) np1
        have h1 : upd H p1 (HO.tup [V.int (bi x), V.int (bi x)]) p1 = some (HO.tup [V.int (bi x), V.int (bi x)]) := upd_same
        generalize upd H p1 (HO.tup [V.int (bi x), V.int (bi x)]) = H1 at s1 h1 ⊢
        refine ⟨sl1, fun l1 nl1 => ?_⟩
        have s2 := same_upd (o := (HO.lst [V.ref p1])) nl1
        have h2 : upd H1 l1 (HO.lst [V.ref p1]) l1 = some (HO.lst [V.ref p1]) := upd_same
        generalize upd H1 l1 (HO.lst [V.ref p1]) = H2 at s2 h2 ⊢
        refine ⟨.int (bi x), rfl, .int (bi y), rfl, sl2, fun p2 np2 => ?_⟩
        have s3 := same_upd (o := (HO.tup [V.int (bi x), V.int (bi y)])) np2
        have h3 : upd H2 p2 (HO.tup [V.int (bi x), V.int (bi y)]) p2 = some (HO.tup [V.int (bi x), V.int (bi y)]) := upd_same
        generalize upd H2 p2 (HO.tup [V.int (bi x), V.int (bi y)]) = H3 at s3 h3 ⊢
        refine ⟨.int (bi y), rfl, .int (bi y), rfl, sl2, fun p3 np3 => ?_⟩
        have s4 := same_upd (o := (HO.tup [V.int (bi y), V.int (bi y)])) np3
        have h4 : upd H3 p3 (HO.tup [V.int (bi y), V.int (bi y)]) p3 = some (HO.tup [V.int (bi y), V.int (bi y)]) := upd_same
        generalize upd H3 p3 (HO.tup [V.int (bi y), V.int (bi y)]) = H4 at s4 h4 ⊢
        refine ⟨sl2, fun l2 nl2 => ?_⟩
        have s5 := same_upd (o := (HO.lst [V.ref p2, V.ref p3])) nl2
        have h5 : upd H4 l2 (HO.lst [V.ref p2, V.ref p3]) l2 = some (HO.lst [V.ref p2, V.ref p3]) := upd_same
        generalize upd H4 l2 (HO.lst [V.ref p2, V.ref p3]) = H5 at s5 h5 ⊢
        refine ⟨.int (bi x), rfl, .int (bi y), rfl, rfl, .inr ⟨_, rfl, ?_⟩⟩
        obtain ⟨k, ek⟩ : ∃ k : Nat, (if (!decide (V.int (bi x) = V.int (bi y))) = true then (1 : Int) else 0) = (k : Nat) ∧ ((x = y ∧ k = 0) ∨ (x ≠ y ∧ k = 1)) := by
          cases x <;> cases y
          · exact ⟨0, by simp, .inl ⟨rfl, rfl⟩⟩
          · exact ⟨1, by simp [bi], .inr ⟨by decide, rfl⟩⟩
          · exact ⟨1, by simp [bi], .inr ⟨by decide, rfl⟩⟩
          · exact ⟨0, by simp, .inl ⟨rfl, rfl⟩⟩
        rw [ek.1]
        refine ⟨l2, (k : Nat), _, rfl, rfl, h5, by omega, by omega, by rw [Int.toNat_natCast]; show 2 * k ≤ 16777216; omega, fun l3 nl3 => ?_⟩
        rw [Int.toNat_natCast]
        have s6 := same_upd (o := (HO.lst (List.replicate k [V.ref p2, V.ref p3]).flatten)) nl3
        have h6 : upd H5 l3 (HO.lst (List.replicate k [V.ref p2, V.ref p3]).flatten) l3 = some (HO.lst (List.replicate k [V.ref p2, V.ref p3]).flatten) := upd_same
        generalize upd H5 l3 (HO.lst (List.replicate k [V.ref p2, V.ref p3]).flatten) = H6 at s6 h6 ⊢
        have s26 := s3.trans (s4.trans (s5.trans s6))
        refine ⟨l1, l3, _, _, rfl, rfl, s26 _ _ h2, h6, ?_, fun r nr => ?_⟩
        · rcases ek.2 with ⟨_, rfl⟩ | ⟨_, rfl⟩ <;> (show _ ≤ 16777216; simp)
        have s7 := same_upd (o := (HO.lst ([V.ref p1] ++ (List.replicate k [V.ref p2, V.ref p3]).flatten))) nr
        have h7 : upd H6 r (HO.lst ([V.ref p1] ++ (List.replicate k [V.ref p2, V.ref p3]).flatten)) r = some (HO.lst ([V.ref p1] ++ (List.replicate k [V.ref p2, V.ref p3]).flatten)) := upd_same
        generalize upd H6 r (HO.lst ([V.ref p1] ++ (List.replicate k [V.ref p2, V.ref p3]).flatten)) = H7 at s7 h7 ⊢
        have s06 := s1.trans (s2.trans s26)
        have t1 : Tk H7 (.ref p1) (prD (x, x)) := pr_mk ((s2.trans (s26.trans s7)) _ _ h1) rfl rfl
        have t2 : Tk H7 (.ref p2) (prD (x, y)) := pr_mk ((s4.trans (s5.trans (s6.trans s7))) _ _ h3) rfl rfl
        have t3 : Tk H7 (.ref p3) (prD (y, y)) := pr_mk ((s5.trans (s6.trans s7)) _ _ h4) rfl rfl
        have et : (Fm.inp i).tri a b = ⟨if x = true then 1 else 0, if y = true then 1 else 0, if (x || y) = true then 1 else 0⟩ := by
          show (⟨(a.getD i 0).toNat, (b.getD i 0).toNat, max (a.getD i 0).toNat (b.getD i 0).toNat⟩ : Tri) = _
          rw [ex, ey]
          cases x <;> cases y <;> rfl
        rcases ek.2 with ⟨exy, rfl⟩ | ⟨exy, rfl⟩
        · subst exy
          refine q r H7 (none_same s06 nr) (s06.trans s7) ⟨r, _, [(x, x)], rfl, h7, .cons t1 .nil, by simp, fun pq => ?_⟩
          rw [et]
          obtain ⟨p, p'⟩ := pq
          cases x <;> cases p <;> cases p' <;> decide +kernel
        · refine q r H7 (none_same s06 nr) (s06.trans s7) ⟨r, _, [(x, x), (x, y), (y, y)], rfl, h7, .cons t1 (.cons t2 (.cons t3 .nil)), by cases x <;> cases y <;> simp_all, fun pq => ?_⟩
          rw [et]
          obtain ⟨p, p'⟩ := pq
          cases x <;> cases y <;> cases p <;> cases p' <;> first | exact absurd rfl exy | decide +kernel
      refine ⟨.ref ad, rfl, ad, _, ((0 : Nat) : Int), .str z, rfl, rfl, SqT.of ha, atI_nat rfl, ?_⟩
      refine ⟨.str z, rfl, rfl, _, rfl, ite2 (fun e => absurd (V.str.inj (of_decide_eq_true e)) n1) (fun _ => ?_)⟩
      refine ⟨.str z, rfl, sl2, fun p np => ?_⟩
      have s0 := same_upd (o := HO.tup [V.str wOne, V.str wNou]) np
      refine ⟨p, _, rfl, .inr (SqT.of upd_same), rfl, rfl, _, rfl, ite2 (fun k => ?_) (fun _ => ?_)⟩
      · have k := (two z).symm.trans k
        rw [decide_eq_false n2, decide_eq_false n3] at k
        cases k
      refine ⟨.ref ad, rfl, .ref ad, f, rfl, tk.same s0, fun H1 bb xs s1 hb txs => ⟨bb, rfl, ⟨_, SqT.of hb⟩, fun D nD => ?_⟩⟩
      replace s1 := s0.trans s1
      have lxs : xs.length = f.inner.length := by rw [txs.length, List.length_map]
      have few : f.inner.length ≤ 4 := Fm.inner_few ok
      have tc1 := tc.same s1
      refine lc_tup (K := K) (a := bb) (xs := xs) (fun i H' => Same H1 (hd1 D H') ∧ ∃ vs, H' D = some (.lst vs) ∧ PLs H (hd1 D H') vs ((f.inner.take i).map (Fm.tri a b))) ⟨hd1_of (same_upd nD) nD, [], upd_same, PLs.nil⟩ (fun i H' _ z => SqT.of (hd1_le _ _ (z.1 _ _ hb))) ?_ ?_
      · rintro i u H2 hu ⟨s2, vs, hD, pl⟩
        obtain ⟨g, hg, tg⟩ := txs.at hu
        have gm := List.mem_of_getElem? hg
        have k2 : Same H1 H2 := fun b o z => hd1_le _ _ (s2 b o z)
        have il := (List.getElem?_eq_some_iff.mp hg).1
        refine ⟨rfl, u, rfl, .ref c, rfl, u, .ref c, g, m, a, b, rfl, tg.same k2, Fm.inner_ok ok gm, by have := Fm.inner_dep gm; omega, tc1.same k2, la, lb, a01, b01, fun r H3 nr s3 pr => ⟨vs, s3 _ _ hD, ?_, (s2.trans (hd1_same s3)).trans hd1_upd, vs ++ [.ref r], upd_same, ?_⟩⟩
        · rw [pl.1, List.length_map, List.length_take]
          exact Nat.lt_of_le_of_lt (show min i f.inner.length ≤ 4 by omega) (by decide)
        · rw [List.take_add_one, hg, List.map_append]
          have rD : r ≠ D := fun z => by rw [z, hD] at nr; cases nr
          exact ((pl.same (hd1_same s3)).same hd1_upd).snoc (none_same (s1.trans k2) nr) ((pr.hd rD (s3 _ _ hD)).same hd1_upd)
      rintro H2 ⟨s2, vs, hD, pl⟩
      rw [lxs, List.take_length] at pl
      have k2 : Same H1 H2 := fun b o z => hd1_le _ _ (s2 b o z)
      have pl := pl.same (hd1_le (p := D) (H := H2))
      have s02 := s1.trans k2
      have oks : ∀ t ∈ f.inner.map (Fm.tri a b), t.Ok := Fm.map_ok a01 b01 _
      rcases sorts with ⟨rfl, g, rfl⟩ | ⟨cc, fs, rfl, rfl, nf⟩
      · refine ⟨.str wNot, rfl, rfl, _, rfl, ite2 (fun _ => ?_) (fun k => absurd (decide_eq_true rfl) k)⟩
        have lv : vs.length = 1 := pl.1
        obtain ⟨v0, hv0⟩ : ∃ v0, vs[0]? = some v0 := ⟨_, List.getElem?_eq_getElem (by omega)⟩
        obtain ⟨r0, rfl, _, r0', ws, ps, e, h0, t0, se⟩ := pl.2 0 v0 (g.tri a b) hv0 rfl
        cases e
        refine ⟨.ref D, rfl, D, _, ((0 : Nat) : Int), .ref r0, rfl, rfl, SqL.of hD, atI_nat hv0, r0, rfl, ⟨_, SqL.of h0⟩, fun D2 nD2 => ?_⟩
        refine lc_list (K := K) (a := r0) (xs := ws) (fun j H' => Same H2 (hd1 D2 H') ∧ ∃ ys, H' D2 = some (.lst ys) ∧ TkAll (hd1 D2 H') ys (((ps.take j).map fun p => (!p.1, !p.2)).map prD)) ⟨hd1_of (same_upd nD2) nD2, [], upd_same, .nil⟩ (fun j H' _ z => SqL.of (hd1_le _ _ (z.1 _ _ h0))) ?_ ?_
        · rintro j x H3 hx ⟨s3, ys, hD3, ty⟩
          obtain ⟨p, hp, tx⟩ := t0.at hx
          obtain ⟨pa, rfl, hpa⟩ := pr_inv tx
          refine ⟨pa, _, rfl, SqT.of (hd1_le _ _ (s3 _ _ hpa)), rfl, _, _, rfl, _, _, rfl, rfl, rfl, ?_⟩
          refine ⟨.int (bi p.1), rfl, _, _, rfl, rfl, .int (bi p.2), rfl, _, _, rfl, rfl, sl2, fun q2 nq2 => ?_⟩
          have s4 := same_upd (o := (HO.tup [V.int (1 - bi p.1), V.int (1 - bi p.2)])) nq2
          have h4 : upd H3 q2 (HO.tup [V.int (1 - bi p.1), V.int (1 - bi p.2)]) q2 = some (HO.tup [V.int (1 - bi p.1), V.int (1 - bi p.2)]) := upd_same
          generalize upd H3 q2 (HO.tup [V.int (1 - bi p.1), V.int (1 - bi p.2)]) = H4 at s4 h4 ⊢
          have lys : ys.length ≤ 4 := by
            have := se.few
            rw [ty.length, List.length_map, List.length_map, List.length_take]
            omega
          have hD4 := s4 _ _ hD3
          refine ⟨ys, hD4, Nat.lt_of_le_of_lt lys (by decide), (s3.trans (hd1_same s4)).trans hd1_upd, ys ++ [.ref q2], upd_same, ?_⟩
          rw [List.take_add_one, hp, List.map_append, List.map_append]
          have tn : Tk H4 (.ref q2) (prD (!p.1, !p.2)) := pr_mk h4 (bi_not _) (bi_not _)
          exact ((ty.same (hd1_same s4)).same hd1_upd).append (.cons ((tn.ts (Ts.hdL hD4) (noL_pr _)).same hd1_upd) .nil)
        · rintro H3 ⟨s3, ys, hD3, ty⟩
          have lws : ws.length = ps.length := by rw [t0.length, List.length_map]
          rw [lws, List.take_length] at ty
          have s23 : Same H2 H3 := fun b o z => hd1_le _ _ (s3 b o z)
          exact q D2 H3 (none_same s02 nD2) (s02.trans s23) ⟨D2, ys, _, rfl, hD3, ty.same hd1_le, se.neg (Fm.tri_ok a01 b01 g)⟩
      have ei : (Fm.op cc fs).inner = fs := rfl
      rw [ei] at pl oks few
      refine ⟨.str (wOp cc), rfl, rfl, _, rfl, ite2 (fun e => absurd (V.str.inj (of_decide_eq_true e)) (by cases cc <;> decide +kernel)) (fun _ => ?_)⟩
      obtain ⟨ts, hts⟩ : ∃ ts, ts = fs.map (Fm.tri a b) := ⟨_, rfl⟩
      have et : (Fm.op cc fs).tri a b = Tri.op cc ts := by rw [hts]; exact Fm.tri_app cc fs
      rw [et] at q
      rw [← hts] at pl oks
      have lts : ts.length = fs.length := by rw [hts, List.length_map]
      have ts1 : 1 ≤ ts.length := by
        rw [lts]
        cases fs with
        | nil => exact absurd rfl nf
        | cons x r => exact Nat.succ_le_succ (Nat.zero_le _)
      have lvs := pl.1
      obtain ⟨v0, hv0⟩ : ∃ v0, vs[0]? = some v0 := ⟨_, List.getElem?_eq_getElem (by omega)⟩
      obtain ⟨t0, ht0⟩ : ∃ t0, ts[0]? = some t0 := ⟨_, List.getElem?_eq_getElem (by omega)⟩
      obtain ⟨r0, rfl, nr0, pl0⟩ := pl.2 0 v0 t0 hv0 ht0
      refine ⟨.ref D, rfl, D, _, ((0 : Nat) : Int), .ref r0, rfl, rfl, SqL.of hD, atI_nat hv0, ?_⟩
      refine ⟨.ref D, rfl, ((1 : Nat) : Int), rfl, D, _, rfl, SqL.of hD, fun p2 np2 => ?_⟩
      rw [cut_from]
      have s3 := same_upd (o := (HO.lst (vs.drop 1))) np2
      have h3 : upd H2 p2 (HO.lst (vs.drop 1)) p2 = some (HO.lst (vs.drop 1)) := upd_same
      generalize upd H2 p2 (HO.lst (vs.drop 1)) = H3 at s3 h3 ⊢
      refine ⟨p2, rfl, ⟨_, SqL.of h3⟩, ?_⟩
      refine for_list (K := K) (a := p2) (xs := vs.drop 1) (fun i σ H' => ∃ rf y7 y8 y9 y10, σ = [some (.ref ad), some (.ref c), some (.str (wOp cc)), none, none, some (.ref D), some (.ref rf), y7, y8, y9, y10, none, none, none, none, none] ∧ Same H3 H' ∧ H rf = none ∧ PL H' (.ref rf) (Tri.op cc (ts.take (i + 1)))) ⟨r0, _, _, _, _, rfl, Same.refl _, nr0, ?_⟩ (fun i σ H' _ ⟨_, _, _, _, _, _, s, _⟩ => SqL.of (s _ _ h3)) ?_ ?_
      · have e1 : ts.take (0 + 1) = [t0] := by rw [List.take_add_one, ht0]; rfl
        rw [e1, Tri.op_one (oks t0 (List.mem_of_getElem? ht0))]
        exact pl0.same s3
      rotate_left
      · rintro σ H4 ⟨rf, y7, y8, y9, y10, rfl, s4, nrf, plf⟩
        rw [List.length_drop, lvs, show ts.length - 1 + 1 = ts.length by omega, List.take_length] at plf
        exact ⟨.ref rf, rfl, q rf H4 nrf (s02.trans (s3.trans s4)) plf⟩
      rintro i x σ H4 hx ⟨rf, y7, y8, y9, y10, rfl, s4, nrf, plf⟩
      rw [List.getElem?_drop] at hx
      have hil := (List.getElem?_eq_some_iff.mp hx).1
      obtain ⟨ti, hti⟩ : ∃ ti, ts[1 + i]? = some ti := ⟨_, List.getElem?_eq_getElem (by omega)⟩
      obtain ⟨rx, rfl, _, rx', qv, qs, e, hq, tq, sq⟩ := pl.2 _ _ _ hx hti
      cases e
      obtain ⟨rf', fv, ks, e, hf, tf, sf⟩ := plf
      cases e
      have q4 := sq.few
      have k4 := sf.few
      refine ⟨Nat.zero_le _, fun mo nmo => ?_⟩
      have s5 := same_upd (o := (HO.lst [])) nmo
      have h5 : upd H4 mo (HO.lst []) mo = some (HO.lst []) := upd_same
      generalize upd H4 mo (HO.lst []) = H5 at s5 h5 ⊢
      have s4q := s3.trans (s4.trans s5)
      refine ⟨.ref rf, rfl, rf, rfl, ⟨_, SqL.of (s5 _ _ hf)⟩, ?_⟩
      refine for_list (K := K) (a := rf) (xs := fv) (fun j σ H' => ∃ y9 y10 mo' mv ms, σ = [some (.ref ad), some (.ref c), some (.str (wOp cc)), none, none, some (.ref D), some (.ref rf), some (.ref rx), some (.ref mo'), y9, y10, none, none, none, none, none] ∧ Same H5 H' ∧ H' mo' = some (.lst mv) ∧ TkAll H' mv (ms.map prD) ∧ ms.length = j * qs.length ∧ ∀ q, q ∈ ms ↔ ∃ p ∈ ks.take j, ∃ p' ∈ qs, q = cb cc p p') ⟨_, _, mo, [], [], rfl, Same.refl _, h5, .nil, by rw [Nat.zero_mul]; rfl, fun q => ⟨fun z => (by cases z), fun ⟨_, z, _⟩ => (by cases z)⟩⟩ (fun j σ H' _ ⟨_, _, _, _, _, _, s, _⟩ => SqL.of (s _ _ (s5 _ _ hf))) ?_ ?_
      · rintro j u σ H6 hu ⟨y9, y10, mo', mv, ms, rfl, s6, hm, tm, lm, mem⟩
        obtain ⟨p, hp, tu⟩ := ((tf.same s5).same s6).at hu
        obtain ⟨pa, rfl, hpa⟩ := pr_inv tu
        have s6q := s6
        have hq6 := s6 _ _ (s4q _ _ hq)
        have jk : j ≤ 4 := by
          have := (List.getElem?_eq_some_iff.mp hp).1
          omega
        refine ⟨pa, _, rfl, SqT.of hpa, rfl, _, _, rfl, _, _, rfl, rfl, ?_⟩
        cases cc with
        | true =>
            refine ⟨.str wAnd, rfl, rfl, _, rfl, ite2 (fun _ => ?_) (fun k => absurd (decide_eq_true rfl) k)⟩
            refine ⟨.ref mo', rfl, .ref rx, rfl, rx, rfl, ⟨_, SqL.of hq6⟩, fun D3 nD3 => ?_⟩
            refine lc_list (K := K) (a := rx) (xs := qv) (fun jj H' => Same H6 (hd1 D3 H') ∧ ∃ ys, H' D3 = some (.lst ys) ∧ TkAll (hd1 D3 H') ys (((qs.take jj).map (cb true p)).map prD)) ⟨hd1_of (same_upd nD3) nD3, [], upd_same, .nil⟩ (fun jj H' _ z => SqL.of (hd1_le _ _ (z.1 _ _ hq6))) ?_ ?_
            · rintro jj x' HB hx' ⟨sB, ys, hD3, ty⟩
              obtain ⟨p', hp', tx'⟩ := (tq.same (s4q.trans s6q)).at hx'
              obtain ⟨pa', rfl, hpa'⟩ := pr_inv tx'
              refine ⟨pa', _, rfl, SqT.of (hd1_le _ _ (sB _ _ hpa')), rfl, _, _, rfl, _, _, rfl, rfl, rfl, ?_⟩
              refine ⟨.int (bi p.1), rfl, .int (bi p'.1), rfl, _, _, rfl, rfl, cmul_bi _ _, .int (bi p.2), rfl, .int (bi p'.2), rfl, _, _, rfl, rfl, cmul_bi _ _, sl2, fun o no => ?_⟩
              have sC := same_upd (o := (HO.tup [V.int (bi p.1 * bi p'.1), V.int (bi p.2 * bi p'.2)])) no
              have hC : upd HB o (HO.tup [V.int (bi p.1 * bi p'.1), V.int (bi p.2 * bi p'.2)]) o = some (HO.tup [V.int (bi p.1 * bi p'.1), V.int (bi p.2 * bi p'.2)]) := upd_same
              generalize upd HB o (HO.tup [V.int (bi p.1 * bi p'.1), V.int (bi p.2 * bi p'.2)]) = HC at sC hC ⊢
              have lys : ys.length ≤ 4 := by
                have := (List.getElem?_eq_some_iff.mp hp').1
                rw [ty.length, List.length_map, List.length_map, List.length_take]
                omega
              have hDC := sC _ _ hD3
              have nDo : o ≠ D3 := fun z => by rw [z] at no; rw [hD3] at no; cases no
              refine ⟨ys, hDC, Nat.lt_of_le_of_lt lys (by decide), (sB.trans (hd1_same sC)).trans hd1_upd, ys ++ [.ref o], upd_same, ?_⟩
              rw [List.take_add_one, hp', List.map_append, List.map_append]
              have tn : Tk HC (.ref o) (prD (cb true p p')) := pr_mk hC (bi_and _ _) (bi_and _ _)
              exact ((ty.same (hd1_same sC)).same hd1_upd).append (.cons ((tn.ts (Ts.hdL hDC) (noL_pr _)).same hd1_upd) .nil)
            rintro HB ⟨sB, ys, hD3, ty⟩
            have lqv : qv.length = qs.length := by rw [tq.length, List.length_map]
            rw [lqv, List.take_length] at ty
            have sB' : Same H6 HB := fun b o z => hd1_le _ _ (sB b o z)
            have tyB := ty.same (hd1_le (p := D3) (H := HB))
            have lys : ys.length = qs.length := by rw [ty.length, List.length_map, List.length_map]
            have lmv : mv.length = ms.length := by rw [tm.length, List.length_map]
            refine ⟨mo', D3, mv, ys, rfl, rfl, sB' _ _ hm, hD3, Nat.le_trans (show mv.length + ys.length ≤ 100 by
              have := Nat.mul_le_mul jk q4
              omega) (by decide), fun r nr => ?_⟩
            have sE := same_upd (o := (HO.lst (mv ++ ys))) nr
            have hE : upd HB r (HO.lst (mv ++ ys)) r = some (HO.lst (mv ++ ys)) := upd_same
            generalize upd HB r (HO.lst (mv ++ ys)) = HE at sE hE ⊢
            refine ⟨_, _, r, mv ++ ys, ms ++ qs.map (cb true p), rfl, s6.trans (sB'.trans sE), hE, ?_, by rw [List.length_append, List.length_map, lm, Nat.succ_mul], fun q => ?_⟩
            · rw [List.map_append]
              exact ((tm.same sB').append tyB).same sE
            · rw [List.mem_append, mem, List.take_add_one, hp, List.mem_map]
              constructor
              · rintro (⟨a1, b1, c1⟩ | ⟨q', b1, c1⟩)
                · exact ⟨a1, List.mem_append_left _ b1, c1⟩
                · exact ⟨p, List.mem_append_right _ (List.mem_singleton.mpr rfl), q', b1, c1.symm⟩
              · rintro ⟨a1, b1, q', c1, d1⟩
                rcases List.mem_append.mp b1 with z | z
                · exact .inl ⟨a1, z, q', c1, d1⟩
                · rw [List.mem_singleton.mp z] at d1
                  exact .inr ⟨q', c1, d1.symm⟩
        | false =>
            refine ⟨.str wOr, rfl, rfl, _, rfl, ite2 (fun k => absurd (V.str.inj (of_decide_eq_true k)) (by decide +kernel)) (fun _ => ?_)⟩
            refine ⟨.ref mo', rfl, .ref rx, rfl, rx, rfl, ⟨_, SqL.of hq6⟩, fun D3 nD3 => ?_⟩
            refine lc_list (K := K) (a := rx) (xs := qv) (fun jj H' => Same H6 (hd1 D3 H') ∧ ∃ ys, H' D3 = some (.lst ys) ∧ TkAll (hd1 D3 H') ys (((qs.take jj).map (cb false p)).map prD)) ⟨hd1_of (same_upd nD3) nD3, [], upd_same, .nil⟩ (fun jj H' _ z => SqL.of (hd1_le _ _ (z.1 _ _ hq6))) ?_ ?_
            · rintro jj x' HB hx' ⟨sB, ys, hD3, ty⟩
              obtain ⟨p', hp', tx'⟩ := (tq.same (s4q.trans s6q)).at hx'
              obtain ⟨pa', rfl, hpa'⟩ := pr_inv tx'
              refine ⟨pa', _, rfl, SqT.of (hd1_le _ _ (sB _ _ hpa')), rfl, _, _, rfl, _, _, rfl, rfl, rfl, ?_⟩
              refine ⟨.int (bi p.1), rfl, .int (bi p'.1), rfl, _, _, rfl, .int (bi p.2), rfl, .int (bi p'.2), rfl, _, _, rfl, sl2, fun o no => ?_⟩
              have sC := same_upd (o := (HO.tup [V.int (if bi p'.1 > bi p.1 then bi p'.1 else bi p.1), V.int (if bi p'.2 > bi p.2 then bi p'.2 else bi p.2)])) no
              have hC : upd HB o (HO.tup [V.int (if bi p'.1 > bi p.1 then bi p'.1 else bi p.1), V.int (if bi p'.2 > bi p.2 then bi p'.2 else bi p.2)]) o = some (HO.tup [V.int (if bi p'.1 > bi p.1 then bi p'.1 else bi p.1), V.int (if bi p'.2 > bi p.2 then bi p'.2 else bi p.2)]) := upd_same
              generalize upd HB o (HO.tup [V.int (if bi p'.1 > bi p.1 then bi p'.1 else bi p.1), V.int (if bi p'.2 > bi p.2 then bi p'.2 else bi p.2)]) = HC at sC hC ⊢
              have lys : ys.length ≤ 4 := by
                have := (List.getElem?_eq_some_iff.mp hp').1
                rw [ty.length, List.length_map, List.length_map, List.length_take]
                omega
              have hDC := sC _ _ hD3
              have nDo : o ≠ D3 := fun z => by rw [z] at no; rw [hD3] at no; cases no
              refine ⟨ys, hDC, Nat.lt_of_le_of_lt lys (by decide), (sB.trans (hd1_same sC)).trans hd1_upd, ys ++ [.ref o], upd_same, ?_⟩
              rw [List.take_add_one, hp', List.map_append, List.map_append]
              have tn : Tk HC (.ref o) (prD (cb false p p')) := pr_mk hC (bi_or _ _) (bi_or _ _)
              exact ((ty.same (hd1_same sC)).same hd1_upd).append (.cons ((tn.ts (Ts.hdL hDC) (noL_pr _)).same hd1_upd) .nil)
            rintro HB ⟨sB, ys, hD3, ty⟩
            have lqv : qv.length = qs.length := by rw [tq.length, List.length_map]
            rw [lqv, List.take_length] at ty
            have sB' : Same H6 HB := fun b o z => hd1_le _ _ (sB b o z)
            have tyB := ty.same (hd1_le (p := D3) (H := HB))
            have lys : ys.length = qs.length := by rw [ty.length, List.length_map, List.length_map]
            have lmv : mv.length = ms.length := by rw [tm.length, List.length_map]
            refine ⟨mo', D3, mv, ys, rfl, rfl, sB' _ _ hm, hD3, Nat.le_trans (show mv.length + ys.length ≤ 100 by
              have := Nat.mul_le_mul jk q4
              omega) (by decide), fun r nr => ?_⟩
            have sE := same_upd (o := (HO.lst (mv ++ ys))) nr
            have hE : upd HB r (HO.lst (mv ++ ys)) r = some (HO.lst (mv ++ ys)) := upd_same
            generalize upd HB r (HO.lst (mv ++ ys)) = HE at sE hE ⊢
            refine ⟨_, _, r, mv ++ ys, ms ++ qs.map (cb false p), rfl, s6.trans (sB'.trans sE), hE, ?_, by rw [List.length_append, List.length_map, lm, Nat.succ_mul], fun q => ?_⟩
            · rw [List.map_append]
              exact ((tm.same sB').append tyB).same sE
            · rw [List.mem_append, mem, List.take_add_one, hp, List.mem_map]
              constructor
              · rintro (⟨a1, b1, c1⟩ | ⟨q', b1, c1⟩)
                · exact ⟨a1, List.mem_append_left _ b1, c1⟩
                · exact ⟨p, List.mem_append_right _ (List.mem_singleton.mpr rfl), q', b1, c1.symm⟩
              · rintro ⟨a1, b1, q', c1, d1⟩
                rcases List.mem_append.mp b1 with z | z
                · exact .inl ⟨a1, z, q', c1, d1⟩
                · rw [List.mem_singleton.mp z] at d1
                  exact .inr ⟨q', c1, d1.symm⟩
      rintro σ H6 ⟨y9', y10', mo', mv, ms, rfl, s6, hm, tm, lm, mem⟩
      have lfv : fv.length = ks.length := by rw [tf.length, List.length_map]
      rw [lfv] at lm
      simp only [lfv, List.take_length] at mem
      have l16 : ms.length ≤ 16 := by
        have := Nat.mul_le_mul k4 q4
        omega
      have lmv : mv.length = ms.length := by rw [tm.length, List.length_map]
      refine ⟨.ref mo', rfl, mo', _, rfl, SqL.of hm, fun D4 nD4 => ?_⟩
      refine lc_enum (K := K) (a := mo') (xs := mv) (fun k H' => Same H6 (hd1 D4 H') ∧ ∃ ys us, H' D4 = some (.lst ys) ∧ TkAll (hd1 D4 H') ys (us.map prD) ∧ us.length ≤ k ∧ us.Nodup ∧ ∀ q, q ∈ us ↔ q ∈ ms.take k) ⟨hd1_of (same_upd nD4) nD4, [], [], upd_same, .nil, Nat.zero_le _, List.nodup_nil, fun q => ⟨fun z => (by cases z), fun z => (by cases z)⟩⟩ (fun k H' _ z => SqL.of (hd1_le _ _ (z.1 _ _ hm))) ?_ ?_
      · rintro k x Tq H8 hx nT ⟨s8, ys, us, hD4, ty, ln, nd, memu⟩
        obtain ⟨pk, hpk, tpk⟩ := tm.at hx
        have s68 : Same H6 H8 := fun b o z => hd1_le _ _ (s8 b o z)
        have hk := (List.getElem?_eq_some_iff.mp hpk).1
        have sT := same_upd (o := HO.tup [.int (k : Nat), x]) nT
        refine ⟨Tq, _, rfl, SqT.of upd_same, rfl, _, _, rfl, _, _, rfl, rfl, rfl, ?_⟩
        refine ⟨x, rfl, .ref mo', rfl, .int (k : Nat), rfl, (k : Int), rfl, mo', _, rfl, SqL.of (sT _ _ (s68 _ _ hm)), fun p3 np3 => ?_⟩
        rw [cut_to]
        have s9 := same_upd (o := HO.lst (mv.take k)) np3
        have sA := sT.trans s9
        have t9 := tm.same (s68.trans sA)
        refine ⟨prD pk, (ms.take k).map prD, (tpk.same (s68.trans sA)).dp', .lst (SqL.of upd_same) ?_, pr_shaped _, prs_shaped _, ?_⟩
        · rw [List.map_take]
          exact (TkAll.take k t9).dp'
        rw [any_pr]
        have hDA := sA _ _ hD4
        refine ⟨_, rfl, ite2 (fun ye => ?_) (fun no => ?_)⟩
        · have ni : pk ∉ us := fun z => by
            rw [decide_eq_true ((memu pk).mp z)] at ye
            cases ye
          have lys : ys.length ≤ 16 := by rw [ty.length, List.length_map]; omega
          refine ⟨x, rfl, ys, hDA, Nat.lt_of_le_of_lt lys (by decide), (s8.trans (hd1_same sA)).trans hd1_upd, ys ++ [x], us ++ [pk], upd_same, ?_, by rw [List.length_append]; exact Nat.succ_le_succ ln, ?_, fun q => ?_⟩
          · rw [List.map_append]
            exact ((ty.same (hd1_same sA)).same hd1_upd).append (.cons ((((tpk.same (s68.trans sA)).ts (Ts.hdL hDA) (noL_pr _))).same hd1_upd) .nil)
          · rw [List.nodup_append]
            exact ⟨nd, by simp, fun a1 h1 b1 h2 e => ni (by rw [List.mem_singleton.mp h2] at e; rw [← e]; exact h1)⟩
          · rw [List.take_add_one, hpk, List.mem_append, List.mem_append, memu]
            rfl
        · have yes : pk ∈ ms.take k := Classical.byContradiction fun z => no (by rw [decide_eq_false z]; rfl)
          refine ⟨s8.trans (hd1_same sA), ys, us, hDA, ty.same (hd1_same sA), Nat.le_succ_of_le ln, nd, fun q => ?_⟩
          rw [List.take_add_one, hpk, memu, List.mem_append]
          exact ⟨.inl, fun z => z.elim id fun z => by rw [List.mem_singleton.mp z]; exact yes⟩
      rintro H8 ⟨s8, ys, us, hD4, ty, ln, nd, memu⟩
      rw [lmv, List.take_length] at memu
      have s68 : Same H6 H8 := fun b o z => hd1_le _ _ (s8 b o z)
      have sall := s5.trans (s6.trans s68)
      refine ⟨D4, _, _, _, _, rfl, s4.trans sall, none_same (s02.trans (s3.trans (s4.trans (s5.trans s6)))) nD4, D4, ys, us, rfl, hD4, ty.same hd1_le, ?_⟩
      have e2 : ts.take (i + 1 + 1) = ts.take (i + 1) ++ [ti] := by
        rw [List.take_add_one (i := i + 1), show ts[i + 1]? = some ti by rw [Nat.add_comm]; exact hti]
        rfl
      rw [e2]
      exact Sees.comb (fun s hs => oks s (List.mem_of_mem_take hs)) (oks ti (List.mem_of_getElem? hti)) sf sq nd fun q => (memu q).trans (mem q)

end
end Gk

set_option Elab.async false
set_option linter.all false
set_option maxRecDepth 100000
set_option maxHeartbeats 1000000
set_option pp.maxSteps 1500
set_option pp.deepTerms false
namespace Gk
open PySem PySem.Spec PyProof.Rows L2
section
variable {P : Program} {w : World} {K : PySem.W.Frag} {mg : Str → Option Value} {base : Heap}
/-! ### the law's own word -/
theorem ok_worth (T : Tx w K mg) : FnOk P w K mg base CX0 25 T.f_worth T.fd_worth ["_law_form_here", "_law_row"] (sp_l_worth K 23) := ok_l_worthE T 23
theorem ok_pairs (T : Tx w K mg) : FnOk P w K mg base CX0 26 T.f_pairs T.fd_pairs ["_law_form_here", "_law_change_here"] (sp_pairs K 24) := ok_pairsE T 24
def sp_word (K : PySem.W.Frag) : Sp := fun vs H Q _ => ∃ (v c : V) (f : Fm) (m : Nat) (a b : List Int), vs = [v, c] ∧ Tk H v f.d ∧ f.ok m = true ∧ f.dep ≤ 22 ∧ Tk H c (chD a b) ∧ a.length = m ∧ b.length = m ∧ Row01 a ∧ Row01 b ∧ ∀ p H', Same H H' → H' p = some (.tup [.int (((f.tri a b).f : Nat) : Int), .int (((f.tri a b).l : Nat) : Int), .bl (decide (1 < (f.tri a b).num))]) → Q (.ref p) H'
theorem ok_word (T : Tx w K mg) : FnOk P w K mg base CX0 27 T.f_word T.fd_word ["_law_form_here", "_law_change_here"] (sp_word K) := by
  refine T.F_word.ok sc_word (fun vs H Q E h => ?_) (fun cdv A outer s H vs Q E hr h => ?_)
  · obtain ⟨v, c, f, m, a, b, rfl, _⟩ := h
    rfl
  · obtain ⟨v, c, f, m, a, b, rfl, tk, ok, de, tc, la, lb, a01, b01, q⟩ := h
    refine ⟨_, (pss_cons (ps_set (i := 2) sc_word.nd rfl (by first | exact .inl rfl | exact .inr rfl) (pe_call (ok_worth T) (hr.mono (by decide)) (by rfl) T.g_worth T.F_worth.kp T.b_worth .nil pass0 (pa_cons (pv 0) (pa_cons (pe_ix ix_tup (pv 1) pe_int (fun _ _ => rfl)) pa_nil)))) (pss_cons (ps_set (i := 3) sc_word.nd rfl (by first | exact .inl rfl | exact .inr rfl) (pe_call (ok_worth T) (hr.mono (by decide)) (by rfl) T.g_worth T.F_worth.kp T.b_worth .nil pass0 (pa_cons (pv 0) (pa_cons (pe_ix ix_tup (pv 1) pe_int (fun _ _ => rfl)) pa_nil)))) (pss_cons (ps_set (i := 4) sc_word.nd rfl (by first | exact .inl rfl | exact .inr rfl) (pe_call (ok_pairs T) (hr.mono (by decide)) (by rfl) T.g_pairs T.F_pairs.kp T.b_pairs .nil pass0 (pa_cons (pv 0) (pa_cons (pv 1) pa_nil)))) (pss_cons (ps_if (pt_cmpR op_eq (pv 2) (pv 3) (nomark _)) (pss_one (ps_ret (pe_tup (pa_cons (pv 2) (pa_cons (pv 3) (pa_cons (pe_cmpR (op_neD hr.units) (pe_lc (own := [("_law_pair", 5)]) (by rfl) sc_word.nd (pi_list (pv 4)) (blkOk_by (own := [("_law_pair", 5)]) (N := ["_law_form_here", "_law_change_here", "_law_first", "_law_last", "_law_pairs_here", "_law_pair"]) (sc := defScope s_word) (by decide +kernel)) (fun _ _ _ _ _ => (pg_name (i := 5) sc_word.nd rfl (by first | exact .inl rfl | exact .inr rfl))) (fun _ _ _ _ _ => (pts_one (PW.pt (pw_or (pt_cmpR (show OpR _ _ (rIn K true) from op_notIn_seq) (pv 2) (pv 5) rfl) (pw_or1 (pt_cmpR op_ne (pe_ix (show IxR _ (rIxT K) from ix_tup) (pv 5) pe_int (fun _ _ => rfl)) (pe_ix (show IxR _ (rIxT K) from ix_tup) (pv 5) pe_int (fun _ _ => rfl)) (nomark _))))))) (fun _ _ _ _ _ => (pv 5))) (pe_lst pa_nil) (nomark _)) pa_nil)))))) pss_nil) (pss_one (ps_ret (pe_tup (pa_cons (pv 2) (pa_cons (pv 3) (pa_cons (pe_cmpR (op_inD (units65 hr)) (pe_tup (pa_cons (pv 3) (pa_cons (pv 2) pa_nil))) (pv 4) rfl) pa_nil)))))))))), ?_⟩
    obtain ⟨c, ra, rb, rfl, hc, hra, hrb⟩ := tc.ch_inv
    have tok := Fm.tri_ok a01 b01 f
    have eF : (((f.tri a b).f : Nat) : Int) = bi (f.tri a b).fb := by
      obtain ⟨h1, _⟩ := tok
      unfold Tri.fb
      rcases (show (f.tri a b).f = 0 ∨ (f.tri a b).f = 1 by omega) with z | z <;> rw [z] <;> rfl
    have eL : (((f.tri a b).l : Nat) : Int) = bi (f.tri a b).lb := by
      obtain ⟨_, h1, _⟩ := tok
      unfold Tri.lb
      rcases (show (f.tri a b).l = 0 ∨ (f.tri a b).l = 1 by omega) with z | z <;> rw [z] <;> rfl
    have wa : f.wo a = bi (f.tri a b).fb := by rw [← eF]; exact (Fm.tri_f a01 b01 f).symm
    have wb : f.wo b = bi (f.tri a b).lb := by rw [← eL]; exact (Fm.tri_l a01 b01 f).symm
    rw [eF, eL] at q
    refine ⟨v, rfl, .ref c, rfl, c, _, 0, .ref ra, rfl, rfl, SqT.of hc, rfl, v, f, m, ra, a, rfl, tk, ok, by omega, hra, la, a01, fun H1 s1 => ?_⟩
    refine ⟨v, rfl, .ref c, rfl, c, _, 1, .ref rb, rfl, rfl, SqT.of (s1 _ _ hc), rfl, v, f, m, rb, b, rfl, tk.same s1, ok, by omega, s1 _ _ hrb, lb, b01, fun H2 s2 => ?_⟩
    have s02 := s1.trans s2
    refine ⟨v, rfl, .ref c, rfl, v, .ref c, f, m, a, b, rfl, tk.same s02, ok, by omega, tc.same s02, la, lb, a01, b01, fun r H3 nr s3 pl => ?_⟩
    obtain ⟨r', vs, ps, e, hr', tv, se⟩ := pl
    cases e
    have s03 := s02.trans s3
    have see : ∀ p, p ∈ ps ↔ inB (f.tri a b).fb (f.tri a b).lb (f.tri a b).mb p.1 p.2 = true := se.2
    have few := se.few
    have q : ∀ p H', Same H H' → H' p = some (.tup [.int (bi (f.tri a b).fb), .int (bi (f.tri a b).lb), .bl (f.tri a b).mb]) → Q (.ref p) H' := q
    rw [wa, wb]
    generalize (f.tri a b).fb = x at *
    generalize (f.tri a b).lb = y at *
    generalize (f.tri a b).mb = mm at *
    refine ⟨.int (bi x), rfl, .int (bi y), rfl, rfl, _, rfl, ite2 (fun exy => ?_) (fun exy => ?_)⟩
    · have exy : x = y := by
        have z := of_decide_eq_true exy
        cases x <;> cases y <;> first | rfl | exact absurd (V.int.inj z) (by decide)
      subst exy
      refine ⟨.int (bi x), rfl, .int (bi x), rfl, .ref r, rfl, r, rfl, ⟨_, SqL.of hr'⟩, fun D nD => ?_⟩
      refine lc_list (K := K) (a := r) (xs := vs) (fun j H' => Same H3 (hd1 D H') ∧ ∃ ys us, H' D = some (.lst ys) ∧ TkAll (hd1 D H') ys (us.map prD) ∧ us.length ≤ j ∧ ∀ q, q ∈ us ↔ q ∈ ps.take j ∧ q ≠ (x, x)) ⟨hd1_of (same_upd nD) nD, [], [], upd_same, .nil, Nat.zero_le _, fun q => ⟨fun z => (by cases z), fun z => (by cases z.1)⟩⟩ (fun j H' _ z => SqL.of (hd1_le _ _ (z.1 _ _ hr'))) ?_ ?_
      · rintro j u H4 hu ⟨s4, ys, us, hD, ty, ln, mem⟩
        obtain ⟨p, hp, tp⟩ := tv.at hu
        obtain ⟨pa, rfl, hpa⟩ := pr_inv tp
        have s34 : Same H3 H4 := fun b o z => hd1_le _ _ (s4 b o z)
        have hpa4 := s34 _ _ hpa
        have hj := (List.getElem?_eq_some_iff.mp hp).1
        have tkj : ps.take (j + 1) = ps.take j ++ [p] := by rw [List.take_add_one, hp]; rfl
        have yes : p ≠ (x, x) → ∃ acc, H4 D = some (.lst acc) ∧ acc.length < sizeLine ∧ (Same H3 (hd1 D (upd H4 D (.lst (acc ++ [.ref pa])))) ∧ ∃ (ys : List V) (us : List (Bool × Bool)), (upd H4 D (.lst (acc ++ [.ref pa]))) D = some (.lst ys) ∧ TkAll (hd1 D (upd H4 D (.lst (acc ++ [.ref pa])))) ys (us.map prD) ∧ us.length ≤ j + 1 ∧ ∀ q, q ∈ us ↔ q ∈ ps.take (j + 1) ∧ q ≠ (x, x)) := fun ne => by
          have lys : ys.length ≤ 4 := by rw [ty.length, List.length_map]; omega
          refine ⟨ys, hD, Nat.lt_of_le_of_lt lys (by decide), s4.trans hd1_upd, ys ++ [.ref pa], us ++ [p], upd_same, ?_, by rw [List.length_append]; exact Nat.succ_le_succ ln, fun q => ?_⟩
          · rw [List.map_append]
            exact (ty.same hd1_upd).append (.cons (((tp.same s34).ts (Ts.hdL hD) (noL_pr _)).same hd1_upd) .nil)
          · rw [tkj, List.mem_append, List.mem_append, mem]
            constructor
            · rintro (z | z)
              · exact ⟨.inl z.1, z.2⟩
              · rw [List.mem_singleton.mp z]; exact ⟨.inr (List.mem_singleton.mpr rfl), ne⟩
            · rintro ⟨z | z, w⟩
              · exact .inl ⟨z, w⟩
              · exact .inr z
        have e1 : inV (.int (bi x)) [V.int (bi p.1), V.int (bi p.2)] = (decide (p.1 = x) || decide (p.2 = x)) := by
          obtain ⟨p1, p2⟩ := p
          cases x <;> cases p1 <;> cases p2 <;> decide +kernel
        have e2 : (!decide (V.int (bi p.1) = V.int (bi p.2))) = !decide (p.1 = p.2) := by
          obtain ⟨p1, p2⟩ := p
          cases p1 <;> cases p2 <;> decide +kernel
        refine ⟨rfl, .int (bi x), rfl, .ref pa, rfl, pa, _, rfl, .inr (SqT.of hpa4), rfl, rfl, ?_⟩
        rw [if_pos rfl, e1]
        refine ⟨_, rfl, ite2 (fun k => ?_) (fun k => ?_)⟩
        · refine iteT ?_
          refine ⟨.ref pa, rfl, yes fun z => ?_⟩
          rw [z] at k
          simp at k
        · refine ⟨.ref pa, rfl, pa, _, ((0 : Nat) : Int), _, rfl, rfl, SqT.of hpa4, atI_nat rfl, .ref pa, rfl, pa, _, ((1 : Nat) : Int), _, rfl, rfl, SqT.of hpa4, atI_nat rfl, rfl, ?_⟩
          rw [e2]
          refine ⟨_, rfl, ite2 (fun k2 => ?_) (fun k2 => ?_)⟩
          · refine ⟨.ref pa, rfl, yes fun z => ?_⟩
            rw [z] at k2
            simp at k2
          · refine ⟨s4, ys, us, hD, ty, Nat.le_succ_of_le ln, fun q => ?_⟩
            have ex : p = (x, x) := by
              obtain ⟨p1, p2⟩ := p
              revert k k2
              cases x <;> cases p1 <;> cases p2 <;> simp
            rw [tkj, List.mem_append, mem]
            constructor
            · rintro ⟨z, w⟩
              exact ⟨.inl z, w⟩
            · rintro ⟨z | z, w⟩
              · exact ⟨z, w⟩
              · rw [List.mem_singleton.mp z] at w; exact absurd ex w
      rintro H4 ⟨s4, ys, us, hD, ty, ln, mem⟩
      have lvs : vs.length = ps.length := by rw [tv.length, List.length_map]
      rw [lvs, List.take_length] at mem
      have s34 : Same H3 H4 := fun b o z => hd1_le _ _ (s4 b o z)
      refine ⟨Nat.zero_le _, fun e0 ne0 => ?_⟩
      have s5 := same_upd (o := (HO.lst [])) ne0
      have h5 : upd H4 e0 (HO.lst []) e0 = some (HO.lst []) := upd_same
      generalize upd H4 e0 (HO.lst []) = H5 at s5 h5 ⊢
      refine ⟨.list (us.map prD), .list [], .lst (SqL.of (s5 _ _ hD)) ((ty.same hd1_le).same s5).dp', .lst (SqL.of h5) .nil, prs_shaped _, rfl, ?_⟩
      refine ⟨sl3, fun p6 np6 => ?_⟩
      have em : (!PyData.eqv (.list (us.map prD)) (.list [])) = mm := by
        cases us with
        | nil =>
          cases mm with
          | false => rfl
          | true =>
            have z : (!x, !x) ∈ ([] : List (Bool × Bool)) := (mem _).mpr ⟨(see _).mpr rfl, fun z => by have := (Prod.mk.inj z).1; cases x <;> cases this⟩
            cases z
        | cons p r =>
          have z := (mem p).mp List.mem_cons_self
          have w := (see p).mp z.1
          cases mm with
          | true => rfl
          | false =>
            exfalso
            apply z.2
            obtain ⟨p1, p2⟩ := p
            revert w
            cases x <;> cases p1 <;> cases p2 <;> decide
      rw [em]
      exact q p6 _ (s03.trans (s34.trans (s5.trans (same_upd np6)))) upd_same
    · have exy : x ≠ y := fun z => exy (by rw [z]; exact decide_eq_true rfl)
      refine ⟨.int (bi x), rfl, .int (bi y), rfl, .int (bi y), rfl, .int (bi x), rfl, sl2, fun p1 np1 => ?_⟩
      have s4 := same_upd (o := (HO.tup [V.int (bi y), V.int (bi x)])) np1
      have h4 : upd H3 p1 (HO.tup [V.int (bi y), V.int (bi x)]) p1 = some (HO.tup [V.int (bi y), V.int (bi x)]) := upd_same
      generalize upd H3 p1 (HO.tup [V.int (bi y), V.int (bi x)]) = H4 at s4 h4 ⊢
      have tp : Tk H4 (.ref p1) (prD (y, x)) := pr_mk h4 rfl rfl
      refine ⟨.ref r, rfl, prD (y, x), ps.map prD, tp.dp', .lst (SqL.of (s4 _ _ hr')) (tv.same s4).dp', pr_shaped _, prs_shaped _, ?_⟩
      rw [any_pr]
      have em : decide ((y, x) ∈ ps) = mm := by
        have := see (y, x)
        cases mm with
        | true => exact decide_eq_true (this.mpr rfl)
        | false =>
          refine decide_eq_false fun z => ?_
          have w := this.mp z
          revert w
          cases x <;> cases y <;> first | exact absurd rfl exy | decide
      rw [em]
      refine ⟨sl3, fun p6 np6 => ?_⟩
      exact q p6 _ (s03.trans (s4.trans (same_upd np6))) upd_same

end
end Gk

set_option Elab.async false
set_option linter.all false
set_option maxRecDepth 100000
set_option maxHeartbeats 1000000
set_option pp.maxSteps 1500
set_option pp.deepTerms false
namespace Gk
open PySem PySem.Spec PyProof.Rows L2
section
variable {P : Program} {w : World} {K : PySem.W.Frag} {mg : Str → Option Value} {base : Heap}
/-! ### a drawn change -/
theorem row01_snoc {r : List Int} {x : Int} (h : Row01 r) (hx : x = 0 ∨ x = 1) : Row01 (r ++ [x]) := fun y hy => by
  rcases List.mem_append.mp hy with z | z
  · exact h y z
  · rw [List.mem_singleton.mp z]; exact hx
theorem vints_at {ws : List Int} {i : Nat} {v : V} (h : (ws.map V.int)[i]? = some v) : ∃ u, ws[i]? = some u ∧ v = .int u := by
  rw [List.getElem?_map] at h
  cases hz : ws[i]? with
  | none => rw [hz] at h; cases h
  | some u => rw [hz] at h; exact ⟨u, rfl, (Option.some.inj h).symm⟩
def sp_change (K : PySem.W.Frag) : Sp := fun vs H Q _ => ∃ (d l : Addr) (n : Int) (m : Nat), vs = [.ref d, .int (m : Nat)] ∧ DeckC H d l n ∧ n ≤ 100000000 ∧ 1 ≤ m ∧ m ≤ 6 ∧ ∀ r H' a b, DeckC H' d l (n + 14) → Fr d l H H' → Tk H' (.ref r) (chD a b) → a.length = m → b.length = m → Row01 a → Row01 b → Q (.ref r) H'
theorem ok_change (T : Tx w K mg) : FnOk P w K mg base CX0 3 T.f_change T.fd_change ["_law_deck_here", "_law_many"] (sp_change K) := by
  refine T.F_change.ok sc_change (fun vs H Q E h => ?_) (fun cdv A outer s H vs Q E hr h => ?_)
  · obtain ⟨d, l, n, m, rfl, _⟩ := h
    rfl
  · obtain ⟨d, l, n, m, rfl, D, hn, m1, m6, q⟩ := h
    refine ⟨_, (pss_cons (ps_set (i := 2) sc_change.nd rfl (by first | exact .inl rfl | exact .inr rfl) (pe_callTy call_tuple_of (by rfl) T.m_tuple (by decide +kernel) (pa_cons (pe_lc (own := [("_law_k", 5)]) (by rfl) sc_change.nd (pi_range1 (by rfl) T.m_range (pa_cons (pv 1) pa_nil)) (blkOk_by (own := [("_law_k", 5)]) (N := ["_law_deck_here", "_law_many", "_law_row", "_law_way", "_law_at", "_law_k", "_law_one"]) (sc := defScope s_change) (by decide +kernel)) (fun _ _ _ _ _ => (pg_name (i := 5) sc_change.nd rfl (by first | exact .inl rfl | exact .inr rfl))) (fun _ _ _ _ _ => pts_nil) (fun _ _ _ _ _ => (pe_call (ok_take T) (hr.mono (by decide)) (by rfl) T.g_take T.F_take.kp T.b_take .nil pass0 (pa_cons (pv 0) (pa_cons pe_int pa_nil))))) pa_nil))) (pss_cons (ps_set (i := 3) sc_change.nd rfl (by first | exact .inl rfl | exact .inr rfl) (pe_call (ok_take T) (hr.mono (by decide)) (by rfl) T.g_take T.F_take.kp T.b_take .nil pass0 (pa_cons (pv 0) (pa_cons pe_int pa_nil)))) (pss_cons (ps_if (pt_cmpR op_lt (pv 3) pe_int (nomark _)) (pss_one (ps_ret (pe_tup (pa_cons (pv 2) (pa_cons (pe_callTy call_tuple_of (by rfl) T.m_tuple (by decide +kernel) (pa_cons (pe_lc (own := [("_law_one", 6)]) (by rfl) sc_change.nd (pi_tup (pv 2)) (blkOk_by (own := [("_law_one", 6)]) (N := ["_law_deck_here", "_law_many", "_law_row", "_law_way", "_law_at", "_law_k", "_law_one"]) (sc := defScope s_change) (by decide +kernel)) (fun _ _ _ _ _ => (pg_name (i := 6) sc_change.nd rfl (by first | exact .inl rfl | exact .inr rfl))) (fun _ _ _ _ _ => pts_nil) (fun _ _ _ _ _ => (pe_op op_sub pe_int (pv 6)))) pa_nil)) pa_nil))))) pss_nil) (pss_cons (ps_if (pt_cmpR op_eq (pv 3) pe_int (nomark _)) (pss_cons (ps_set (i := 4) sc_change.nd rfl (by first | exact .inl rfl | exact .inr rfl) (pe_call (ok_take T) (hr.mono (by decide)) (by rfl) T.g_take T.F_take.kp T.b_take .nil pass0 (pa_cons (pv 0) (pa_cons (pv 1) pa_nil)))) (pss_one (ps_ret (pe_tup (pa_cons (pv 2) (pa_cons (pe_op op_catA (pe_op op_catA (pe_slice sl_tupA (pv 2) po_none (po_some (pv 4))) (pe_tup (pa_cons (pe_op op_sub pe_int (pe_ix ix_tup (pv 2) (pv 4) (fun _ _ => rfl))) pa_nil))) (pe_slice sl_tupA (pv 2) (po_some (pe_op op_add (pv 4) pe_int)) po_none)) pa_nil)))))) pss_nil) (pss_cons (ps_if (pt_cmpR op_eq (pv 3) pe_int (nomark _)) (pss_one (ps_ret (pe_tup (pa_cons (pv 2) (pa_cons (pv 2) pa_nil))))) pss_nil) (pss_one (ps_ret (pe_tup (pa_cons (pv 2) (pa_cons (pe_callTy call_tuple_of (by rfl) T.m_tuple (by decide +kernel) (pa_cons (pe_lc (own := [("_law_k", 5)]) (by rfl) sc_change.nd (pi_range1 (by rfl) T.m_range (pa_cons (pv 1) pa_nil)) (blkOk_by (own := [("_law_k", 5)]) (N := ["_law_deck_here", "_law_many", "_law_row", "_law_way", "_law_at", "_law_k", "_law_one"]) (sc := defScope s_change) (by decide +kernel)) (fun _ _ _ _ _ => (pg_name (i := 5) sc_change.nd rfl (by first | exact .inl rfl | exact .inr rfl))) (fun _ _ _ _ _ => pts_nil) (fun _ _ _ _ _ => (pe_call (ok_take T) (hr.mono (by decide)) (by rfl) T.g_take T.F_take.kp T.b_take .nil pass0 (pa_cons (pv 0) (pa_cons pe_int pa_nil))))) pa_nil)) pa_nil)))))))))), ?_⟩
    have em : ((m : Nat) : Int).toNat = m := by omega
    refine ⟨.int (m : Nat), rfl, m, rfl, by omega, by omega, fun OA nOA => ?_⟩
    have oA := D.off nOA
    refine lc_range (lo := 0) (n := ((m : Nat) : Int).toNat) (fun j H' => DeckC H' d l (n + j) ∧ Fr d l H H' ∧ ∃ a : List Int, H' OA = some (.lst (a.map V.int)) ∧ a.length = j ∧ Row01 a)
      ⟨(D.same (same_upd nOA)).mono (by omega), Fr.new nOA, [], upd_same, rfl, fun x hx => by cases hx⟩ ?_ ?_
    · rintro j H4 hj ⟨D4, fr4, a, hA, la, a01⟩
      refine ⟨rfl, .ref d, rfl, d, l, 2, _, rfl, D4, by omega, by decide, by decide, fun H5 z D5 fr5 z0 z1 => ?_⟩
      refine ⟨_, fr5 _ _ oA.1 oA.2 hA, ?_, (D5.upd oA.1 oA.2).mono (by push_cast; omega), Fr.upd (fr4.trans fr5) nOA, a ++ [z], by rw [upd_same, List.map_append]; rfl, by rw [List.length_append, la]; rfl, row01_snoc a01 (by omega)⟩
      rw [List.length_map, la]
      exact Nat.lt_of_lt_of_le (show j < 64 by omega) (by decide)
    rintro H4 ⟨D4, fr4, a, hA, la, a01⟩
    rw [em] at la
    have D4 : DeckC H4 d l (n + 6) := D4.mono (by omega)
    refine ⟨OA, _, rfl, .inl ⟨SqL.of hA, fun ta nta => ?_⟩⟩
    have s5 := same_upd (o := (HO.tup (a.map V.int))) nta
    have h5 : upd H4 ta (HO.tup (a.map V.int)) ta = some (HO.tup (a.map V.int)) := upd_same
    generalize upd H4 ta (HO.tup (a.map V.int)) = H5 at s5 h5 ⊢
    have D5 := D4.same s5
    have fr5 := fr4.trans (Fr.of (d := d) (l := l) s5)
    refine ⟨.ref d, rfl, d, l, 6, _, rfl, D5, by omega, by decide, by decide, fun H6 wy D6 fr6 w0 w1 => ?_⟩
    have hta := (Ts.frC D5 fr6) _ _ h5
    have fr06 := fr5.trans fr6
    have la' : (a.map V.int).length = m := by rw [List.length_map, la]
    refine ⟨.int wy, rfl, _, _, rfl, rfl, _, rfl, ite2 (fun _ => ?_) (fun _ => ?_)⟩
    · refine ⟨.ref ta, rfl, .ref ta, rfl, ta, rfl, ⟨_, SqT.of hta⟩, fun OB nOB => ?_⟩
      have oB := D6.off nOB
      refine lc_tup (K := K) (a := ta) (xs := a.map V.int) (fun j H' => Same H6 (hd1 OB H') ∧ ∃ b : List Int, H' OB = some (.lst (b.map V.int)) ∧ b.length = j ∧ Row01 b) ⟨hd1_of (same_upd nOB) nOB, [], upd_same, rfl, fun x hx => by cases hx⟩ (fun i H' _ z => SqT.of (hd1_le _ _ (z.1 _ _ hta))) ?_ ?_
      · rintro j x H7 hx ⟨s7, b, hB, lb, b01⟩
        obtain ⟨u', hu', rfl⟩ := vints_at hx
        have := a01 u' (List.mem_of_getElem? hu')
        have hjl := (List.getElem?_eq_some_iff.mp hu').1
        refine ⟨rfl, .int u', rfl, _, _, rfl, rfl, _, hB, ?_, s7.trans hd1_upd, b ++ [1 - u'], by rw [upd_same, List.map_append]; rfl, by rw [List.length_append, lb]; rfl, row01_snoc b01 (by omega)⟩
        rw [List.length_map, lb]
        exact Nat.lt_of_lt_of_le (show j < 64 by omega) (by decide)
      rintro H7 ⟨s7, b, hB, lb, b01⟩
      rw [la'] at lb
      have s67 : Same H6 H7 := fun b o e => hd1_le _ _ (s7 _ _ e)
      refine ⟨OB, _, rfl, .inl ⟨SqL.of hB, fun tb ntb => ?_⟩⟩
      have s8 := same_upd (o := (HO.tup (b.map V.int))) ntb
      have h8 : upd H7 tb (HO.tup (b.map V.int)) tb = some (HO.tup (b.map V.int)) := upd_same
      generalize upd H7 tb (HO.tup (b.map V.int)) = H8 at s8 h8 ⊢
      refine ⟨sl2, fun cr ncr => ?_⟩
      have s9 := same_upd (o := HO.tup [V.ref ta, V.ref tb]) ncr
      have sA := (s67.trans s8).trans s9
      exact q cr _ a b ((D6.same sA).mono (by omega)) (fr06.trans (Fr.of sA)) (.tup upd_same (.cons (.tup (sA _ _ hta) (TkAll.ints _)) (.cons (.tup (s9 _ _ h8) (TkAll.ints _)) .nil))) la lb a01 b01
    refine ⟨.int wy, rfl, rfl, _, rfl, ite2 (fun _ => ?_) (fun _ => ?_)⟩
    · refine ⟨.ref d, rfl, .int (m : Nat), rfl, d, l, m, _, rfl, D6, by omega, by omega, by omega, fun H7 k D7 fr7 k0 k1 => ?_⟩
      obtain ⟨k, rfl⟩ := Int.eq_ofNat_of_zero_le k0
      have hta7 := (Ts.frC D6 fr7) _ _ hta
      have fr07 := fr06.trans fr7
      have ck : a[k]? = some (a.getD k 0) := by rw [List.getD_eq_getElem?_getD, List.getElem?_eq_getElem (by omega)]; rfl
      have ckV : (a.map V.int)[k]? = some (.int (a.getD k 0)) := by rw [List.getElem?_map, ck]; rfl
      have k01 := a01 _ (List.mem_of_getElem? ck)
      refine ⟨.ref ta, rfl, .ref ta, rfl, .int (k : Nat), rfl, (k : Int), rfl, slA hta7 fun q1 B1 b1 f1 => ?_⟩
      rw [cut_to] at f1
      refine ⟨.ref ta, rfl, .int (k : Nat), rfl, ta, _, _, _, rfl, rfl, SqT.of (b1 _ _ hta7), atI_nat ckV, _, _, rfl, rfl, sl1, fun q2 nq2 => ?_⟩
      have b2 := same_upd (o := (HO.tup [V.int (1 - a.getD k 0)])) nq2
      have f2 : upd B1 q2 (HO.tup [V.int (1 - a.getD k 0)]) q2 = some (HO.tup [V.int (1 - a.getD k 0)]) := upd_same
      generalize upd B1 q2 (HO.tup [V.int (1 - a.getD k 0)]) = B2 at b2 f2 ⊢
      refine catA (b2 _ _ f1) f2 (by rw [List.length_take, la']; exact Nat.le_trans (show min k m + 1 ≤ 500 by omega) (by decide)) fun q3 B3 b3 f3 => ?_
      refine ⟨.ref ta, rfl, .int (k : Nat), rfl, _, _, rfl, rfl, ((k + 1 : Nat) : Int), rfl, slAn (b3 _ _ (b2 _ _ (b1 _ _ hta7))) fun q4 B4 b4 f4 => ?_⟩
      rw [cut_from] at f4
      refine catA (b4 _ _ f3) f4 (by rw [List.length_append, List.length_take, List.length_drop, la']; exact Nat.le_trans (show min k m + 1 + (m - (k + 1)) ≤ 1000 by omega) (by decide)) fun q5 B5 b5 f5 => ?_
      have b15 := b1.trans (b2.trans (b3.trans (b4.trans b5)))
      refine ⟨sl2, fun cr ncr => ?_⟩
      have s9 := same_upd (o := HO.tup [V.ref ta, V.ref q5]) ncr
      have sA := b15.trans s9
      have eb : (a.map V.int).take k ++ [V.int (1 - a.getD k 0)] ++ (a.map V.int).drop (k + 1) = (a.take k ++ [1 - a.getD k 0] ++ a.drop (k + 1)).map V.int := by
        rw [List.map_append, List.map_append, List.map_take, List.map_drop]
        rfl
      rw [eb] at f5
      refine q cr _ a _ ((D7.same sA).mono (by omega)) (fr07.trans (Fr.of sA)) (.tup upd_same (.cons (.tup (sA _ _ hta7) (TkAll.ints _)) (.cons (.tup (s9 _ _ f5) (TkAll.ints _)) .nil))) la ?_ a01 fun x hx => ?_
      · rw [List.length_append, List.length_append, List.length_take, List.length_drop]
        show min k a.length + 1 + (a.length - (k + 1)) = m
        omega
      · rcases List.mem_append.mp hx with z | z
        · rcases List.mem_append.mp z with z | z
          · exact a01 x (List.mem_of_mem_take z)
          · rw [List.mem_singleton.mp z]; omega
        · exact a01 x (List.mem_of_mem_drop z)
    refine ⟨.int wy, rfl, rfl, _, rfl, ite2 (fun _ => ?_) (fun _ => ?_)⟩
    · refine ⟨.ref ta, rfl, .ref ta, rfl, sl2, fun cr ncr => ?_⟩
      have s9 := same_upd (o := HO.tup [V.ref ta, V.ref ta]) ncr
      exact q cr _ a a ((D6.same s9).mono (by omega)) (fr06.trans (Fr.of s9)) (.tup upd_same (.cons (.tup (s9 _ _ hta) (TkAll.ints _)) (.cons (.tup (s9 _ _ hta) (TkAll.ints _)) .nil))) la la a01 a01
    refine ⟨.ref ta, rfl, .int (m : Nat), rfl, m, rfl, by omega, by omega, fun OB nOB => ?_⟩
    have oB := D6.off nOB
    refine lc_range (lo := 0) (n := ((m : Nat) : Int).toNat) (fun j H' => DeckC H' d l (n + 7 + j) ∧ Fr d l H6 H' ∧ ∃ b : List Int, H' OB = some (.lst (b.map V.int)) ∧ b.length = j ∧ Row01 b)
      ⟨(D6.same (same_upd nOB)).mono (by omega), Fr.new nOB, [], upd_same, rfl, fun x hx => by cases hx⟩ ?_ ?_
    · rintro j H7 hj ⟨D7, fr7, b, hB, lb, b01⟩
      refine ⟨rfl, .ref d, rfl, d, l, 2, _, rfl, D7, by omega, by decide, by decide, fun H8 z D8 fr8 z0 z1 => ?_⟩
      refine ⟨_, fr8 _ _ oB.1 oB.2 hB, ?_, (D8.upd oB.1 oB.2).mono (by push_cast; omega), Fr.upd (fr7.trans fr8) nOB, b ++ [z], by rw [upd_same, List.map_append]; rfl, by rw [List.length_append, lb]; rfl, row01_snoc b01 (by omega)⟩
      rw [List.length_map, lb]
      exact Nat.lt_of_lt_of_le (show j < 64 by omega) (by decide)
    rintro H7 ⟨D7, fr7, b, hB, lb, b01⟩
    rw [em] at lb
    have hta7 := (Ts.frC D6 fr7) _ _ hta
    refine ⟨OB, _, rfl, .inl ⟨SqL.of hB, fun tb ntb => ?_⟩⟩
    have s8 := same_upd (o := (HO.tup (b.map V.int))) ntb
    have h8 : upd H7 tb (HO.tup (b.map V.int)) tb = some (HO.tup (b.map V.int)) := upd_same
    generalize upd H7 tb (HO.tup (b.map V.int)) = H8 at s8 h8 ⊢
    refine ⟨sl2, fun cr ncr => ?_⟩
    have s9 := same_upd (o := HO.tup [V.ref ta, V.ref tb]) ncr
    have sA := s8.trans s9
    exact q cr _ a b ((D7.same sA).mono (by omega)) ((fr06.trans fr7).trans (Fr.of sA)) (.tup upd_same (.cons (.tup (sA _ _ hta7) (TkAll.ints _)) (.cons (.tup (s9 _ _ h8) (TkAll.ints _)) .nil))) la lb a01 b01

end
end Gk

set_option Elab.async false
set_option linter.all false
set_option maxRecDepth 100000
set_option maxHeartbeats 1000000
set_option pp.maxSteps 1500
set_option pp.deepTerms false
namespace Gk
open PySem PySem.Spec PyProof.Rows L2
section
variable {P : Program} {w : World} {K : PySem.W.Frag} {mg : Str → Option Value} {base : Heap}
/-! ### a wave told by its changes -/
def cnt (ts : List Int) (t : Int) : Nat := (ts.filter fun x => decide (x ≤ t)).length
theorem cnt_app (a b : List Int) (t : Int) : cnt (a ++ b) t = cnt a t + cnt b t := by unfold cnt; rw [List.filter_append, List.length_append]
theorem cnt_le (ts : List Int) (t : Int) : cnt ts t ≤ ts.length := List.length_filter_le ..
theorem cnt_all {ts : List Int} {t : Int} (h : ∀ x ∈ ts, x ≤ t) : cnt ts t = ts.length := by
  unfold cnt
  rw [List.filter_eq_self.mpr fun x hx => decide_eq_true (h x hx)]
theorem cnt_no {ts : List Int} {t : Int} (h : ∀ x ∈ ts, t < x) : cnt ts t = 0 := by
  unfold cnt
  rw [List.length_eq_zero_iff, List.filter_eq_nil_iff]
  intro x hx k
  have := h x hx
  have := of_decide_eq_true k
  omega
theorem cnt_one (x t : Int) : cnt [x] t = if x ≤ t then 1 else 0 := by
  unfold cnt
  by_cases h : x ≤ t
  · rw [if_pos h, List.filter_cons, if_pos (decide_eq_true h)]
    rfl
  · rw [if_neg h, List.filter_cons, if_neg (fun k => h (of_decide_eq_true k))]
    rfl
def stepT (f : Int → Int) (acc : List Int × Int) (t : Int) : List Int × Int := if f t ≠ acc.2 then (acc.1 ++ [t], f t) else (acc.1, f t)
structure TInv (f : Int → Int) (ms : List Int) (i : Nat) (acc : List Int × Int) : Prop where
  c : ∀ t, (∀ x ∈ ms.drop i, t < x) → (f (-1) + (cnt acc.1 t : Int)) % 2 = f t
  here : acc.2 = (f (-1) + (acc.1.length : Int)) % 2
  sub : acc.1.Sublist (ms.take i)
theorem tinv0 {f : Int → Int} {ms : List Int} (h01 : ∀ t, f t = 0 ∨ f t = 1) (h0 : ∀ x ∈ ms, 0 ≤ x) (con : ∀ s t, s ≤ t → (∀ x ∈ ms, ¬ (s < x ∧ x ≤ t)) → f s = f t) : TInv f ms 0 ([], f (-1)) := by
  refine ⟨fun t ht => ?_, ?_, List.nil_sublist _⟩
  · have e : f (-1) = f t := by
      by_cases z : t ≤ -1
      · exact (con t (-1) z fun x hx k => by have := h0 x hx; omega).symm
      · exact con (-1) t (by omega) fun x hx k => by have := ht x hx; omega
    show (f (-1) + 0) % 2 = f t
    rw [e]
    rcases h01 t with k | k <;> rw [k] <;> rfl
  · show f (-1) = (f (-1) + 0) % 2
    rcases h01 (-1) with k | k <;> rw [k] <;> rfl
theorem tinv_step {f : Int → Int} {ms : List Int} {i : Nat} {acc : List Int × Int} {u : Int} (h01 : ∀ t, f t = 0 ∨ f t = 1) (rise : ms.Pairwise (· < ·)) (con : ∀ s t, s ≤ t → (∀ x ∈ ms, ¬ (s < x ∧ x ≤ t)) → f s = f t) (I : TInv f ms i acc) (hu : ms[i]? = some u) : TInv f ms (i + 1) (stepT f acc u) := by
  have hi : i < ms.length := (List.getElem?_eq_some_iff.mp hu).1
  have ed : ms.drop i = u :: ms.drop (i + 1) := by
    rw [List.drop_eq_getElem_cons hi]
    congr 1
    rw [List.getElem?_eq_getElem hi] at hu
    exact Option.some.inj hu
  have et : ms.take (i + 1) = ms.take i ++ [u] := by rw [List.take_add_one, hu]; rfl
  have esplit : ms = ms.take i ++ (u :: ms.drop (i + 1)) := by rw [← ed, List.take_append_drop]
  have below : ∀ x ∈ ms.take i, x < u := fun x hx => by
    rw [esplit] at rise
    exact (List.pairwise_append.mp rise).2.2 x hx u List.mem_cons_self
  have above : ∀ t, u ≤ t → (∀ x ∈ ms.drop (i + 1), t < x) → f u = f t := fun t h1 h2 => con u t h1 fun x hx k => by
    rw [esplit] at hx
    rcases List.mem_append.mp hx with q | q
    · have := below x q
      omega
    · rcases List.mem_cons.mp q with q | q
      · omega
      · have := h2 x q
        omega
  have fu := h01 u
  have f1 := h01 (-1)
  have hh := I.here
  unfold stepT
  by_cases z : f u ≠ acc.2
  · rw [if_pos z]
    refine ⟨fun t ht => ?_, ?_, ?_⟩
    · show (f (-1) + (cnt (acc.1 ++ [u]) t : Int)) % 2 = f t
      rw [cnt_app, cnt_one]
      by_cases y : u ≤ t
      · rw [if_pos y, cnt_all (ts := acc.1) fun x hx => by have := below x (I.sub.subset hx); omega]
        have e := above t y ht
        rw [← e]
        push_cast
        rcases fu with k | k <;> rw [k] at z ⊢ <;> omega
      · rw [if_neg y]
        have := I.c t fun x hx => by
          rw [ed] at hx
          rcases List.mem_cons.mp hx with q | q
          · omega
          · exact ht x q
        rw [Nat.add_zero]
        exact this
    · show f u = (f (-1) + ((acc.1 ++ [u]).length : Int)) % 2
      rw [List.length_append]
      push_cast
      have : (([u] : List Int).length : Int) = 1 := rfl
      rcases fu with k | k <;> rw [k] at z ⊢ <;> omega
    · rw [et]
      exact I.sub.append (List.Sublist.refl _)
  · rw [if_neg z]
    have z : f u = acc.2 := by omega
    refine ⟨fun t ht => ?_, ?_, ?_⟩
    · show (f (-1) + (cnt acc.1 t : Int)) % 2 = f t
      by_cases y : u ≤ t
      · rw [cnt_all (ts := acc.1) fun x hx => by have := below x (I.sub.subset hx); omega]
        rw [← above t y ht, z, hh]
      · exact I.c t fun x hx => by
          rw [ed] at hx
          rcases List.mem_cons.mp hx with q | q
          · omega
          · exact ht x q
    · show f u = _
      rw [z, hh]
    · rw [et]
      exact I.sub.trans (List.sublist_append_left _ _)

/-! ### waves: a first worth and the rising times of the changes -/
def wv (x : Int × List Int) (t : Int) : Int := (x.1 + (cnt x.2 t : Int)) % 2
structure Wv (x : Int × List Int) (f : Int → Int) : Prop where
  at_ : ∀ t, wv x t = f t
  lo : ∀ t ∈ x.2, 0 ≤ t
  rise : x.2.Pairwise (· < ·)
  f01 : x.1 = 0 ∨ x.1 = 1
theorem cnt_cons (a : Int) (l : List Int) (t : Int) : cnt (a :: l) t = (if a ≤ t then 1 else 0) + cnt l t := by
  rw [show a :: l = [a] ++ l from rfl, cnt_app, cnt_one]
theorem cnt_step : ∀ (l : List Int) (t : Int), l.Pairwise (· < ·) → cnt l t = cnt l (t - 1) + if t ∈ l then 1 else 0
  | [], t, _ => by simp [cnt]
  | a :: l, t, h => by
    obtain ⟨h1, h2⟩ := List.pairwise_cons.mp h
    rw [cnt_cons, cnt_cons, cnt_step l t h2]
    by_cases e : t = a
    · subst e
      have no : t ∉ l := fun z => by have := h1 t z; omega
      rw [if_pos (Int.le_refl _), if_neg no, if_neg (show ¬ t ≤ t - 1 by omega), if_pos (show t ∈ t :: l from List.mem_cons_self)]
      omega
    · have iff : (if t ∈ a :: l then 1 else 0) = (if t ∈ l then 1 else 0) := by simp [List.mem_cons, e]
      rw [iff]
      by_cases z : a ≤ t
      · rw [if_pos z, if_pos (show a ≤ t - 1 by omega)]
        omega
      · rw [if_neg z, if_neg (show ¬ a ≤ t - 1 by omega)]
        omega
theorem wv01 (x : Int × List Int) (t : Int) : wv x t = 0 ∨ wv x t = 1 := by unfold wv; omega
theorem Wv.first {x : Int × List Int} {f : Int → Int} (W : Wv x f) : x.1 = f (-1) := by
  rw [← W.at_ (-1)]
  unfold wv
  rw [cnt_no fun t ht => by have := W.lo t ht; omega]
  have := W.f01
  show x.1 = (x.1 + (0 : Int)) % 2
  omega
theorem Wv.mem {x : Int × List Int} {f : Int → Int} (W : Wv x f) (t : Int) : t ∈ x.2 ↔ f t ≠ f (t - 1) := by
  rw [← W.at_ t, ← W.at_ (t - 1)]
  unfold wv
  rw [cnt_step x.2 t W.rise]
  by_cases z : t ∈ x.2
  · rw [if_pos z]
    refine ⟨fun _ => ?_, fun _ => z⟩
    push_cast
    omega
  · rw [if_neg z]
    refine ⟨fun k => absurd k z, fun k => ?_⟩
    exact absurd rfl k
theorem rise_ext : ∀ {a b : List Int}, a.Pairwise (· < ·) → b.Pairwise (· < ·) → (∀ x, x ∈ a ↔ x ∈ b) → a = b
  | [], [], _, _, _ => rfl
  | [], y :: _, _, _, h => by have := (h y).mpr List.mem_cons_self; cases this
  | x :: _, [], _, _, h => by have := (h x).mp List.mem_cons_self; cases this
  | x :: r, y :: s, ha, hb, h => by
    obtain ⟨a1, a2⟩ := List.pairwise_cons.mp ha
    obtain ⟨b1, b2⟩ := List.pairwise_cons.mp hb
    have e : x = y := by
      rcases List.mem_cons.mp ((h x).mp List.mem_cons_self) with z | z
      · exact z
      · rcases List.mem_cons.mp ((h y).mpr List.mem_cons_self) with z' | z'
        · exact z'.symm
        · have := a1 y z'
          have := b1 x z
          omega
    subst e
    rw [rise_ext a2 b2 fun u => ⟨fun hu => ?_, fun hu => ?_⟩]
    · rcases List.mem_cons.mp ((h u).mp (List.mem_cons_of_mem _ hu)) with z | z
      · have := a1 u hu
        omega
      · exact z
    · rcases List.mem_cons.mp ((h u).mpr (List.mem_cons_of_mem _ hu)) with z | z
      · have := b1 u hu
        omega
      · exact z
theorem Wv.uniq {x y : Int × List Int} {f : Int → Int} (W : Wv x f) (W' : Wv y f) : x = y := by
  obtain ⟨a, b⟩ := x
  obtain ⟨c, d⟩ := y
  have e1 : a = c := W.first.trans W'.first.symm
  have e2 : b = d := rise_ext W.rise W'.rise fun t => (W.mem t).trans (W'.mem t).symm
  rw [e1, e2]
theorem few_len : ∀ {l : List Int} {lo : Int} {n : Nat}, l.Pairwise (· < ·) → (∀ x ∈ l, lo ≤ x ∧ x < lo + n) → l.length ≤ n
  | [], _, _, _, _ => Nat.zero_le _
  | a :: l, lo, n, h, b => by
    obtain ⟨h1, h2⟩ := List.pairwise_cons.mp h
    have ha := b a List.mem_cons_self
    obtain ⟨k, rfl⟩ : ∃ k, n = k + 1 := ⟨n - 1, by omega⟩
    have := few_len (l := l) (lo := lo + 1) (n := k) h2 fun x hx => by
      have := h1 x hx
      have := (b x (List.mem_cons_of_mem _ hx)).2
      push_cast at this
      omega
    rw [List.length_cons]
    omega
theorem cnt_map (d : Int) (l : List Int) (t : Int) : cnt (l.map fun x => x + d) t = cnt l (t - d) := by
  induction l with
  | nil => rfl
  | cons a r ih =>
    rw [List.map_cons, cnt_cons, cnt_cons, ih]
    by_cases z : a ≤ t - d
    · rw [if_pos z, if_pos (by omega)]
    · rw [if_neg z, if_neg (by omega)]
def shiftW (x : Int × List Int) (d : Int) : Int × List Int := (x.1, x.2.map fun t => t + d)
theorem Wv.shift {x : Int × List Int} {f : Int → Int} (W : Wv x f) {d : Int} (h : 0 ≤ d) : Wv (shiftW x d) (fun t => f (t - d)) := by
  refine ⟨fun t => ?_, fun t ht => ?_, ?_, W.f01⟩
  · rw [← W.at_ (t - d)]
    unfold wv shiftW
    rw [cnt_map]
  · obtain ⟨u, hu, rfl⟩ := List.mem_map.mp ht
    have := W.lo u hu
    show 0 ≤ u + d
    omega
  · exact List.pairwise_map.mpr (W.rise.imp fun h => by omega)
theorem Wv.ext {x : Int × List Int} {f g : Int → Int} (W : Wv x f) (h : ∀ t, f t = g t) : Wv x g := ⟨fun t => (W.at_ t).trans (h t), W.lo, W.rise, W.f01⟩
theorem Wv.self {x : Int × List Int} {f : Int → Int} (W : Wv x f) : Wv x (wv x) := ⟨fun _ => rfl, W.lo, W.rise, W.f01⟩
/-! ### a gate's wave of its ins' waves -/
def gateV (bs : List Bool) (ws : List (Int × List Int)) (t : Int) : Int := gateM bs (ws.map fun x => wv x t)
theorem cnt_same {ts : List Int} {s t : Int} (le : s ≤ t) (h : ∀ x ∈ ts, ¬ (s < x ∧ x ≤ t)) : cnt ts s = cnt ts t := by
  unfold cnt
  congr 1
  refine List.filter_congr fun x hx => ?_
  have := h x hx
  by_cases z : x ≤ s
  · rw [decide_eq_true z, decide_eq_true (show x ≤ t by omega)]
  · rw [decide_eq_false z, decide_eq_false (show ¬ x ≤ t by omega)]
theorem gateV_con {bs : List Bool} {ws : List (Int × List Int)} {ms : List Int} (mem : ∀ t, t ∈ ms ↔ ∃ x ∈ ws, t ∈ x.2) (s t : Int) (le : s ≤ t) (h : ∀ x ∈ ms, ¬ (s < x ∧ x ≤ t)) : gateV bs ws s = gateV bs ws t := by
  unfold gateV
  congr 1
  refine List.map_congr_left fun x hx => ?_
  unfold wv
  rw [cnt_same le fun u hu => h u ((mem u).mpr ⟨x, hx, hu⟩)]
/-- what the gate's walk over the turns leaves is its wave -/
theorem gateV_end {bs : List Bool} {ws : List (Int × List Int)} {ms : List Int} {acc : List Int × Int} (rise : ms.Pairwise (· < ·)) (lo : ∀ x ∈ ms, 0 ≤ x) (I : TInv (gateV bs ws) ms ms.length acc) : Wv (gateV bs ws (-1), acc.1) (gateV bs ws) := by
  refine ⟨fun t => ?_, fun t ht => lo t (List.mem_of_mem_take (I.sub.subset ht)), ?_, gate01 _ _⟩
  · exact I.c t fun x hx => by rw [List.drop_length] at hx; cases hx
  · have := I.sub
    rw [List.take_length] at this
    exact rise.sublist this

/-! ### an input's wave -/
def InWave (x y : Int) : List Int := if x = y then [] else [0]
theorem in_wv {x y : Int} (hx : x = 0 ∨ x = 1) (hy : y = 0 ∨ y = 1) : Wv (x, InWave x y) (fun t => if 0 ≤ t then y else x) := by
  unfold InWave
  refine ⟨fun t => ?_, fun z hz => ?_, ?_, hx⟩
  · by_cases e : x = y
    · rw [if_pos e]
      show (x + 0) % 2 = if 0 ≤ t then y else x
      subst e
      split <;> omega
    · rw [if_neg e]
      show (x + (cnt [0] t : Int)) % 2 = _
      rw [cnt_one]
      split <;> push_cast <;> omega
  · have hz : z ∈ (if x = y then ([] : List Int) else [0]) := hz
    split at hz
    · cases hz
    · rw [List.mem_singleton.mp hz]
      decide
  · show (if x = y then ([] : List Int) else [0]).Pairwise (· < ·)
    split
    · exact .nil
    · exact List.pairwise_singleton _ _
def wvD (x : Int × List Int) : PyData := .tuple [.int x.1, rowD x.2]

/-! ### forms over time: a delay for each input, in the order in which they are written -/
mutual
def Fm.ins : Fm → Nat
  | .st _ => 0
  | .inp _ => 1
  | .no f => f.ins
  | .op _ fs => Fm.inss fs
def Fm.inss : List Fm → Nat
  | [] => 0
  | f :: r => f.ins + Fm.inss r
end
def opW (c : Bool) (ws : List Int) : Int := if c = true then (if 0 ∈ ws then 0 else 1) else (if 1 ∈ ws then 1 else 0)
mutual
def Fm.vt (a b : List Int) (t : Int) : Fm → List Int → Int
  | .st c, _ => if c = true then 1 else 0
  | .inp i, ds => if ds.headD 0 ≤ t then b.getD i 0 else a.getD i 0
  | .no f, ds => 1 - f.vt a b t ds
  | .op c fs, ds => opW c (Fm.vts a b t fs ds)
def Fm.vts (a b : List Int) (t : Int) : List Fm → List Int → List Int
  | [], _ => []
  | f :: r, ds => f.vt a b t ds :: Fm.vts a b t r (ds.drop f.ins)
end
theorem Fm.inss_app : ∀ x y : List Fm, Fm.inss (x ++ y) = Fm.inss x + Fm.inss y
  | [], y => (Nat.zero_add _).symm
  | f :: r, y => by
    show f.ins + Fm.inss (r ++ y) = f.ins + Fm.inss r + Fm.inss y
    rw [Fm.inss_app r y]
    omega
mutual
theorem Fm.ins_cnt : ∀ f : Fm, f.ins ≤ f.cnt
  | .st _ => Nat.zero_le _
  | .inp _ => Nat.le_refl _
  | .no f => by
    have := Fm.ins_cnt f
    show f.ins ≤ 1 + f.cnt
    omega
  | .op _ fs => by
    have := Fm.inss_cnts fs
    show Fm.inss fs ≤ 1 + Fm.cnts fs
    omega
theorem Fm.inss_cnts : ∀ fs : List Fm, Fm.inss fs ≤ Fm.cnts fs
  | [] => Nat.le_refl _
  | f :: r => by
    have := Fm.ins_cnt f
    have := Fm.inss_cnts r
    show f.ins + Fm.inss r ≤ f.cnt + Fm.cnts r
    omega
end
theorem Fm.inner_ins : ∀ f : Fm, f.inner ≠ [] → Fm.inss f.inner = f.ins
  | .st _, h => absurd rfl h
  | .inp _, h => absurd rfl h
  | .no f, _ => Nat.add_zero _
  | .op _ _, _ => rfl
theorem Fm.vts_snoc (a b : List Int) (t : Int) (g : Fm) : ∀ (fs : List Fm) (ds : List Int), Fm.vts a b t (fs ++ [g]) ds = Fm.vts a b t fs ds ++ [g.vt a b t (ds.drop (Fm.inss fs))]
  | [], ds => rfl
  | f :: r, ds => by
    show f.vt a b t ds :: Fm.vts a b t (r ++ [g]) (ds.drop f.ins) = f.vt a b t ds :: (Fm.vts a b t r (ds.drop f.ins) ++ [g.vt a b t (ds.drop (f.ins + Fm.inss r))])
    rw [Fm.vts_snoc a b t g r, List.drop_drop]
theorem Fm.vts_len (a b : List Int) (t : Int) : ∀ (fs : List Fm) (ds : List Int), (Fm.vts a b t fs ds).length = fs.length
  | [], _ => rfl
  | f :: r, ds => congrArg Nat.succ (Fm.vts_len a b t r _)
theorem opW01 (c : Bool) (ws : List Int) : opW c ws = 0 ∨ opW c ws = 1 := by
  unfold opW
  repeat' split
  all_goals first | exact .inl rfl | exact .inr rfl
section
variable {a b : List Int}
mutual
theorem Fm.vt01 (ha : Row01 a) (hb : Row01 b) (t : Int) : ∀ (f : Fm) (ds : List Int), f.vt a b t ds = 0 ∨ f.vt a b t ds = 1
  | .st c, _ => by cases c <;> first | exact .inl rfl | exact .inr rfl
  | .inp i, ds => by
    show (if ds.headD 0 ≤ t then b.getD i 0 else a.getD i 0) = 0 ∨ (if ds.headD 0 ≤ t then b.getD i 0 else a.getD i 0) = 1
    split
    · exact row_get hb i
    · exact row_get ha i
  | .no f, ds => by
    have := Fm.vt01 ha hb t f ds
    show 1 - f.vt a b t ds = 0 ∨ 1 - f.vt a b t ds = 1
    omega
  | .op c fs, ds => opW01 c _
theorem Fm.vts01 (ha : Row01 a) (hb : Row01 b) (t : Int) : ∀ (fs : List Fm) (ds : List Int), ∀ x ∈ Fm.vts a b t fs ds, x = 0 ∨ x = 1
  | [], _, x, h => by cases h
  | f :: r, ds, x, h => by
    rcases List.mem_cons.mp h with e | e
    · rw [e]; exact Fm.vt01 ha hb t f ds
    · exact Fm.vts01 ha hb t r _ x e
end
mutual
theorem Fm.vt_con {s t : Int} (le : s ≤ t) : ∀ (f : Fm) (ds : List Int), f.ins ≤ ds.length → (∀ d ∈ ds.take f.ins, ¬ (s < d ∧ d ≤ t)) → f.vt a b s ds = f.vt a b t ds
  | .st c, _, _, _ => rfl
  | .inp i, [], h, _ => absurd h (by show ¬ 1 ≤ 0; decide)
  | .inp i, d :: r, _, h => by
    have := h d List.mem_cons_self
    show (if d ≤ s then b.getD i 0 else a.getD i 0) = (if d ≤ t then b.getD i 0 else a.getD i 0)
    by_cases z : d ≤ s
    · rw [if_pos z, if_pos (by omega)]
    · rw [if_neg z, if_neg (by omega)]
  | .no f, ds, l, h => by
    show 1 - f.vt a b s ds = 1 - f.vt a b t ds
    rw [Fm.vt_con le f ds l h]
  | .op c fs, ds, l, h => by
    show opW c (Fm.vts a b s fs ds) = opW c (Fm.vts a b t fs ds)
    rw [Fm.vts_con le fs ds l h]
theorem Fm.vts_con {s t : Int} (le : s ≤ t) : ∀ (fs : List Fm) (ds : List Int), Fm.inss fs ≤ ds.length → (∀ d ∈ ds.take (Fm.inss fs), ¬ (s < d ∧ d ≤ t)) → Fm.vts a b s fs ds = Fm.vts a b t fs ds
  | [], _, _, _ => rfl
  | f :: r, ds, l, h => by
    have l : f.ins + Fm.inss r ≤ ds.length := l
    have h : ∀ d ∈ ds.take (f.ins + Fm.inss r), ¬ (s < d ∧ d ≤ t) := h
    show f.vt a b s ds :: Fm.vts a b s r (ds.drop f.ins) = f.vt a b t ds :: Fm.vts a b t r (ds.drop f.ins)
    rw [Fm.vt_con le f ds (by omega) fun d hd => h d ?_, Fm.vts_con le r (ds.drop f.ins) (by rw [List.length_drop]; omega) fun d hd => h d ?_]
    rotate_left
    · have e : ds.take f.ins = (ds.take (f.ins + Fm.inss r)).take f.ins := by
        rw [List.take_take, Nat.min_eq_left (by omega)]
      rw [e] at hd
      exact List.mem_of_mem_take hd
    · have e : (ds.drop f.ins).take (Fm.inss r) = (ds.take (f.ins + Fm.inss r)).drop f.ins := by
        rw [List.drop_take]
        congr 1
        omega
      rw [e] at hd
      exact List.mem_of_mem_drop hd
end
mutual
theorem Fm.vt_take (t : Int) : ∀ (f : Fm) (ds es : List Int), f.ins ≤ ds.length → f.vt a b t (ds ++ es) = f.vt a b t ds
  | .st c, _, _, _ => rfl
  | .inp i, [], _, h => absurd h (by show ¬ 1 ≤ 0; decide)
  | .inp i, d :: r, _, _ => rfl
  | .no f, ds, es, l => by
    show 1 - f.vt a b t (ds ++ es) = 1 - f.vt a b t ds
    rw [Fm.vt_take t f ds es l]
  | .op c fs, ds, es, l => by
    show opW c (Fm.vts a b t fs (ds ++ es)) = opW c (Fm.vts a b t fs ds)
    rw [Fm.vts_take t fs ds es l]
theorem Fm.vts_take (t : Int) : ∀ (fs : List Fm) (ds es : List Int), Fm.inss fs ≤ ds.length → Fm.vts a b t fs (ds ++ es) = Fm.vts a b t fs ds
  | [], _, _, _ => rfl
  | f :: r, ds, es, l => by
    have l : f.ins + Fm.inss r ≤ ds.length := l
    show f.vt a b t (ds ++ es) :: Fm.vts a b t r ((ds ++ es).drop f.ins) = f.vt a b t ds :: Fm.vts a b t r (ds.drop f.ins)
    rw [Fm.vt_take t f ds es (by omega), List.drop_append_of_le_length (by omega), Fm.vts_take t r (ds.drop f.ins) es (by rw [List.length_drop]; omega)]
end
end
theorem rise_len : ∀ {xs l : List Int}, xs.Pairwise (· < ·) → (∀ x ∈ xs, x ∈ l) → xs.length ≤ l.length
  | [], _, _, _ => Nat.zero_le _
  | x :: r, l, h, k => by
    obtain ⟨h1, h2⟩ := List.pairwise_cons.mp h
    have hx := k x List.mem_cons_self
    have := rise_len (xs := r) (l := l.erase x) h2 fun y hy => (List.mem_erase_of_ne (by have := h1 y hy; omega)).mpr (k y (List.mem_cons_of_mem _ hy))
    rw [List.length_erase_of_mem hx] at this
    have := List.length_pos_of_mem hx
    rw [List.length_cons]
    omega
theorem Fm.wave_few {a b : List Int} {f : Fm} {ds : List Int} {x : Int × List Int} (l : f.ins ≤ ds.length) (W : Wv x fun t => f.vt a b t ds) : x.2.length ≤ f.ins := by
  refine Nat.le_trans (rise_len (l := ds.take f.ins) W.rise fun t ht => ?_) (by rw [List.length_take]; exact Nat.min_le_left _ _)
  have ne := (W.mem t).mp ht
  apply Classical.byContradiction
  intro no
  refine ne (Fm.vt_con (by omega) f ds l fun d hd k => no ?_).symm
  have : d = t := by omega
  rw [← this]
  exact hd
/-! ### the tables of not, and, or -/
def opT (c : Bool) (n : Nat) : List Bool := if c = true then List.replicate (2 ^ n - 1) false ++ [true] else false :: List.replicate (2 ^ n - 1) true
theorem opT_len (c : Bool) (n : Nat) : (opT c n).length = 2 ^ n := by
  have : 0 < 2 ^ n := Nat.pow_pos (by decide)
  unfold opT
  split
  · rw [List.length_append, List.length_replicate]
    show 2 ^ n - 1 + 1 = 2 ^ n
    omega
  · rw [List.length_cons, List.length_replicate]
    omega
theorem gate_op {c : Bool} {ws : List Int} (l2 : 2 ≤ ws.length) (l4 : ws.length ≤ 4) (h : ∀ x ∈ ws, x = 0 ∨ x = 1) : gateM (opT c ws.length) ws = opW c ws := by
  have key : ∀ c : Bool, (∀ x y : Bool, gateM (opT c 2) [bi x, bi y] = opW c [bi x, bi y]) ∧ (∀ x y z : Bool, gateM (opT c 3) [bi x, bi y, bi z] = opW c [bi x, bi y, bi z]) ∧ ∀ x y z w : Bool, gateM (opT c 4) [bi x, bi y, bi z, bi w] = opW c [bi x, bi y, bi z, bi w] := by decide +kernel
  have bit : ∀ {x : Int}, x = 0 ∨ x = 1 → ∃ y : Bool, x = bi y := fun h => by
    rcases h with z | z
    · exact ⟨false, z⟩
    · exact ⟨true, z⟩
  match ws, l2, l4, h with
  | [x, y], _, _, h =>
    obtain ⟨x, rfl⟩ := bit (h x (by simp))
    obtain ⟨y, rfl⟩ := bit (h y (by simp))
    exact (key c).1 x y
  | [x, y, z], _, _, h =>
    obtain ⟨x, rfl⟩ := bit (h x (by simp))
    obtain ⟨y, rfl⟩ := bit (h y (by simp))
    obtain ⟨z, rfl⟩ := bit (h z (by simp))
    exact (key c).2.1 x y z
  | [x, y, z, w], _, _, h =>
    obtain ⟨x, rfl⟩ := bit (h x (by simp))
    obtain ⟨y, rfl⟩ := bit (h y (by simp))
    obtain ⟨z, rfl⟩ := bit (h z (by simp))
    obtain ⟨w, rfl⟩ := bit (h w (by simp))
    exact (key c).2.2 x y z w
theorem gate_not {x : Int} (h : x = 0 ∨ x = 1) : gateM [true, false] [x] = 1 - x := by rcases h with rfl | rfl <;> rfl
/-- the table of a form's outermost gate -/
def Fm.tb : Fm → List Bool
  | .op c fs => opT c fs.length
  | _ => [true, false]
theorem Fm.tb_len {m : Nat} {f : Fm} (ok : f.ok m = true) (h : f.inner ≠ []) : f.tb.length = 2 ^ f.inner.length ∧ f.inner.length ≤ 4 := by
  cases f with
  | st _ => exact absurd rfl h
  | inp _ => exact absurd rfl h
  | no f => exact ⟨rfl, by show 1 ≤ 4; decide⟩
  | op c fs => exact ⟨opT_len c _, Fm.inner_few ok⟩
theorem Fm.vt_gate {a b : List Int} {m : Nat} {f : Fm} (ha : Row01 a) (hb : Row01 b) (ok : f.ok m = true) (h : f.inner ≠ []) (t : Int) (ds : List Int) : f.vt a b t ds = gateM f.tb (Fm.vts a b t f.inner ds) := by
  cases f with
  | st _ => exact absurd rfl h
  | inp _ => exact absurd rfl h
  | no f => exact (gate_not (Fm.vt01 ha hb t f ds)).symm
  | op c fs =>
    have ok : ((decide (2 ≤ fs.length) && decide (fs.length ≤ 4)) && Fm.oks m fs) = true := ok
    rw [Bool.and_eq_true, Bool.and_eq_true, decide_eq_true_eq, decide_eq_true_eq] at ok
    have l := Fm.vts_len a b t fs ds
    have := gate_op (c := c) (ws := Fm.vts a b t fs ds) (by omega) (by omega) (Fm.vts01 ha hb t fs ds)
    rw [l] at this
    exact this.symm

end
end Gk

set_option Elab.async false
set_option linter.all false
set_option maxRecDepth 100000
set_option maxHeartbeats 1000000
set_option pp.maxSteps 1500
set_option pp.deepTerms false
namespace Gk
open PySem PySem.Spec PyProof.Rows L2
section
variable {P : Program} {w : World} {K : PySem.W.Frag} {mg : Str → Option Value} {base : Heap}
/-! ### an input's wave, a wave later -/
def sp_input_wave (K : PySem.W.Frag) : Sp := fun vs H Q _ => ∃ (x y : Int), vs = [.int x, .int y] ∧ ∀ r H', Same H H' → Tk H' (.ref r) (wvD (x, InWave x y)) → Q (.ref r) H'
theorem ok_input_wave (T : Tx w K mg) : FnOk P w K mg base CX0 1 T.f_input_wave T.fd_input_wave ["before", "after"] (sp_input_wave K) := by
  refine T.F_input_wave.ok sc_input_wave (fun vs H Q E h => ?_) (fun cdv A outer s H vs Q E hr h => ?_)
  · obtain ⟨x, y, rfl, _⟩ := h
    rfl
  · obtain ⟨x, y, rfl, q⟩ := h
    refine ⟨_, (pss_cons (ps_set (i := 2) sc_input_wave.nd rfl (by first | exact .inl rfl | exact .inr rfl) (pe_ifExp (pt_cmpR op_eq (pv 0) (pv 1) (nomark _)) (pe_tup pa_nil) (pe_tup (pa_cons pe_int pa_nil)))) (pss_one (ps_ret (pe_tup (pa_cons (pv 0) (pa_cons (pv 2) pa_nil)))))), ?_⟩
    refine ⟨.int x, rfl, .int y, rfl, rfl, _, rfl, ite2 (fun e => ?_) (fun e => ?_)⟩
    · have e : x = y := V.int.inj (of_decide_eq_true e)
      refine ⟨Nat.zero_le _, fun p np => ?_⟩
      have s1 := same_upd (o := HO.tup []) np
      have h1 : upd H p (HO.tup []) p = some (HO.tup []) := upd_same
      generalize upd H p (HO.tup []) = H1 at s1 h1 ⊢
      refine ⟨.int x, rfl, .ref p, rfl, sl2, fun r nr => ?_⟩
      have s2 := same_upd (o := HO.tup [V.int x, .ref p]) nr
      refine q r _ (s1.trans s2) (.tup upd_same (.cons (.int _) (.cons (.tup (s2 _ _ h1) ?_) .nil)))
      unfold InWave
      rw [if_pos e]
      exact .nil
    · have e : x ≠ y := fun z => e (by rw [z]; exact decide_eq_true rfl)
      refine ⟨sl1, fun p np => ?_⟩
      have s1 := same_upd (o := HO.tup [V.int 0]) np
      have h1 : upd H p (HO.tup [V.int 0]) p = some (HO.tup [V.int 0]) := upd_same
      generalize upd H p (HO.tup [V.int 0]) = H1 at s1 h1 ⊢
      refine ⟨.int x, rfl, .ref p, rfl, sl2, fun r nr => ?_⟩
      have s2 := same_upd (o := HO.tup [V.int x, .ref p]) nr
      refine q r _ (s1.trans s2) (.tup upd_same (.cons (.int _) (.cons (.tup (s2 _ _ h1) ?_) .nil)))
      unfold InWave
      rw [if_neg e]
      exact TkAll.ints [0]
def sp_later (T : Tx w K mg) : Sp := fun vs H Q _ => ∃ (wa : Addr) (x : Int × List Int) (d : Int), vs = [.ref wa, .int d] ∧ Tk H (.ref wa) (wvD x) ∧ x.2.length ≤ 1000000 ∧ GxR.TabG H T.P_later ∧ ∀ r H', Gr H H' → Tk H' (.ref r) (wvD (shiftW x d)) → Q (.ref r) H'
theorem Tk.wv_inv {H : Hp} {v : V} {x : Int × List Int} (h : Tk H v (wvD x)) : ∃ a t, v = .ref a ∧ H a = some (.tup [.int x.1, .ref t]) ∧ H t = some (.tup (x.2.map V.int)) := by
  obtain ⟨a, xs, rfl, ha, ts⟩ := h.tup_inv
  cases ts with
  | cons h1 r =>
    cases r with
    | cons h2 r =>
      cases r
      obtain rfl := h1.int_inv
      obtain ⟨t, rfl, ht⟩ := h2.row_inv
      exact ⟨a, t, rfl, ha, ht⟩
theorem ok_later (T : Tx w K mg) (B : Tb base T) : FnOk P w K mg base CX0 2 T.f_later T.fd_later ["wave", "delay"] (sp_later T) := by
  refine okC T.F_later sc_later (fun vs H Q E h => ?_) (fun A outer s H vs Q E hr h => ?_)
  · obtain ⟨wa, x, d, rfl, _⟩ := h
    rfl
  · obtain ⟨wa, x, d, rfl, tw, hl, tab, q⟩ := h
    refine ⟨_, (pss_cons (ps_asg (pv 0) (pg_tup rfl (pgs_cons (pg_name (i := 2) sc_later.nd rfl (by first | exact .inl rfl | exact .inr rfl)) (pgs_cons (pg_name (i := 3) sc_later.nd rfl (by first | exact .inl rfl | exact .inr rfl)) pgs_nil)))) (pss_one (ps_ret (pe_tup (pa_cons (pv 2) (pa_cons (pe_tupX (own := [("time", 4)]) (k := 0) (hr.mono (by decide)) rfl sc_later.nd (by rfl) T.m_tuple (by decide +kernel) B.TB_later T.cd_later rfl rfl (by decide +kernel) (blkOk_by (own := [("time", 4)]) (N := ["wave", "delay", "first", "times", "time"]) (sc := defScope s_later) (by decide +kernel)) (pi_tup (pv 3)) (fun _ _ _ _ _ _ _ hr gd => (pg_name (i := 4) sc_later.nd rfl (by first | exact .inl rfl | exact .inr rfl))) (fun _ _ _ _ _ _ _ hr gd => pts_nil) (fun _ _ _ _ _ _ _ hr gd => (pe_op op_add (pv 4) (pv 1))) (fun _ => rfl)) pa_nil)))))), ?_⟩
    obtain ⟨wa', t, e, ha, ht⟩ := tw.wv_inv
    cases e
    refine ⟨.ref wa, rfl, wa, _, rfl, SqT.of ha, rfl, _, _, rfl, _, _, rfl, rfl, ?_⟩
    refine ⟨.int x.1, rfl, .ref t, rfl, t, rfl, ⟨_, SqT.of ht⟩, tab, fun H2 tb2 => ?_⟩
    have g2 := Gr.tab tab tb2
    refine gx_tup (K := K) (a := t) (xs := x.2.map V.int) (fun i ys H' => Gr H H' ∧ ys = (x.2.take i).map fun u => V.int (u + d)) ⟨g2, rfl⟩ (fun i _ H' _ z => SqT.of (z.1.tup ht)) ?_ ?_
    · rintro i v ys H3 hv ⟨g3, rfl⟩
      obtain ⟨u, hu, rfl⟩ : ∃ u, x.2[i]? = some u ∧ v = V.int u := by
        rw [List.getElem?_map] at hv
        obtain ⟨u, hu, e⟩ := Option.map_eq_some_iff.mp hv
        exact ⟨u, hu, e.symm⟩
      have hi := (List.getElem?_eq_some_iff.mp hu).1
      refine ⟨rfl, .int u, rfl, .int d, rfl, _, _, rfl, rfl, ?_, g3, ?_⟩
      · rw [List.length_map, List.length_take]
        exact Nat.lt_of_le_of_lt (show min i x.2.length ≤ 1000000 by omega) (by decide)
      · rw [List.take_add_one, hu, List.map_append]
        rfl
    · rintro ys H3 ⟨g3, rfl⟩
      have e0 : (x.2.map V.int).length = x.2.length := List.length_map ..
      rw [e0, List.take_length]
      refine ⟨?_, fun p np => ?_⟩
      · rw [List.length_map]
        exact Nat.le_trans hl (by decide)
      have s1 := same_upd (o := HO.tup (x.2.map fun u => V.int (u + d))) np
      have h1 : upd H3 p (HO.tup (x.2.map fun u => V.int (u + d))) p = some (HO.tup (x.2.map fun u => V.int (u + d))) := upd_same
      generalize upd H3 p _ = H4 at s1 h1 ⊢
      refine ⟨sl2, fun r nr => ?_⟩
      have s2 := same_upd (o := HO.tup [V.int x.1, .ref p]) nr
      refine q r _ ((g3.trans (Gr.of s1)).trans (Gr.of s2)) (.tup upd_same (.cons (.int _) (.cons (.tup (s2 _ _ h1) ?_) .nil)))
      have := TkAll.ints (H := upd H4 r (HO.tup [V.int x.1, .ref p])) (x.2.map fun u => u + d)
      rw [List.map_map] at this
      exact this

theorem ok_table_worth (T : Tx w K mg) : FnOk P w K mg base CX0 1 T.f_table_worth T.fd_table_worth ["table", "worths"] (spGate K) := by
  refine T.F_table_worth.ok sc_table_worth (fun vs H Q E h => ?_) (fun cdv A outer s H vs Q E hr h => ?_)
  · obtain ⟨bs, la, ws, rfl, _⟩ := h
    rfl
  · obtain ⟨bs, la, ws, rfl, hS, hw, hb, h3, q⟩ := h
    obtain ⟨b, p0, p1, p2, p3, p4⟩ := gate_read hw hb h3
    refine ⟨_, (pss_cons (ps_set (i := 2) sc_table_worth.nd rfl (by first | exact .inl rfl | exact .inr rfl) pe_int) (pss_cons (ps_for PassesOwn.never rfl (pi_list (pv 1)) (pg_name (i := 3) sc_table_worth.nd rfl (by first | exact .inl rfl | exact .inr rfl)) (pss_one (ps_set (i := 2) sc_table_worth.nd rfl (by first | exact .inl rfl | exact .inr rfl) (pe_op op_add (pe_op op_mul pe_int (pv 2)) (pv 3))))) (pss_one (ps_ret (pe_callTy call_int_str (by rfl) T.m_int (by decide +kernel) (pa_cons (pe_item_str (pv 0) (pv 2) (fun _ _ => rfl)) pa_nil)))))), ?_⟩
    refine ⟨.ref la, rfl, la, rfl, ⟨_, hS⟩, for_list (K := K) (a := la) (xs := ws.map V.int) (fun i σ H' => ∃ y, σ = [some (.str (tabOf bs)), some (.ref la), some (.int (plc (ws.take i))), y] ∧ H' = H) ⟨none, rfl, rfl⟩ (fun i σ H' _ ⟨_, _, e⟩ => by rw [e]; exact hS) ?_ ?_⟩
    · rintro i x σ H' hx ⟨y, rfl, rfl⟩
      obtain ⟨u, hu, rfl⟩ : ∃ u, ws[i]? = some u ∧ x = V.int u := by
        rw [List.getElem?_map] at hx
        cases hz : ws[i]? with
        | none => rw [hz] at hx; cases hx
        | some u => rw [hz] at hx; exact ⟨u, rfl, (Option.some.inj hx).symm⟩
      refine ⟨.int (plc (ws.take i)), rfl, 2, _, rfl, rfl, .inl ⟨by decide, by decide⟩, .int u, rfl, _, _, rfl, rfl, some (.int u), ?_, rfl⟩
      rw [plc_take hu]
      rfl
    · rintro σ H' ⟨y, rfl, rfl⟩
      rw [List.length_map, List.take_length]
      refine ⟨.str (tabOf bs), rfl, .int (plc ws), rfl, _, _, _, rfl, rfl, p0, p1, p2, p3, _, _, rfl, int_sign b, (show 1 ≤ 640 by decide), ?_⟩
      rw [← p4]
      exact q

end
end Gk

set_option Elab.async false
set_option linter.all false
set_option maxRecDepth 100000
set_option maxHeartbeats 1000000
set_option pp.maxSteps 1500
set_option pp.deepTerms false
namespace Gk
open PySem PySem.Spec PyProof.Rows L2
/-! ### sorted(d) of a dict with ints as keys, any number of them -/
namespace SrtDi
section
variable {X : Cx}
def rSortDi : List V → Hp → VK → Prop := fun vs H Q => ∃ (a : Addr) (kvs : List (Key × V)) (ks : List Int), vs = [V.ref a] ∧ H a = some (.dK kvs) ∧ kvs.map (·.1) = ks.map Sum.inl ∧
  ∀ (ys : List Int) (p : Addr), ys.Perm ks → ys.Pairwise (· ≤ ·) → H p = none → Q (.ref p) (upd H p (.lst (ys.map V.int)))
theorem key_int {k : Key} {x : Int} {v : Value} (e : k = Sum.inl x) (h : keyIs k v = true) : ∃ t, v = Value.int x t := by
  subst e
  exact Value.isInt_shape (k := x) (v := v) h
theorem cr_sortedDi (hc : X.calm = true) : CallR X (.builtin "sorted") rSortDi := by
  intro pins s σ H xs us Q I r h
  obtain ⟨a, kvs, ks, rfl, hd, hk, q⟩ := h
  rw [Vals.ref1 r]
  obtain ⟨big, lo, vs, rel, at_⟩ : kvs.length ≤ sizeLine ∧ (a == sysModules) = false ∧ ∃ vs, KV kvs vs ∧ s.heap.DictOf (mixKind X.prog X.w) a vs := I.hok a _ hd
  obtain ⟨ep, at2⟩ := at_.dictAt
  have keys : vs.map (·.1) = ks.map Sum.inl := rel.keys.symm.trans hk
  have len : vs.length = ks.length := by simpa using congrArg List.length keys
  have len2 : kvs.length = ks.length := by simpa using congrArg List.length hk
  refine Calls.call_function_entry (kind_sorted) (plain_sorted) (entry_sorted) (args_sorted1 _) ?_
  unfold Builtin.«sorted»
  refine wpAny_bind (m := checkCount "sorted" 1 1 _) (wpAny_pure ?_)
  refine wpAny_bind (PySem.W.kdu_collect (A := X.A.in1) (PySem.W.kdl_dict (knd := mixKind X.prog X.w) (kvs := vs) (ep := ep) lo) (I.ok.hd hc) at2 (show vs.length ≤ sizeLine by omega) fun h' tk acc old got => ?_)
  have accl : acc.toList.length = ks.length := by rw [Array.length_toList, got.1, len]
  have at' : ∀ (j : Nat) (v : Value), acc.toList[j]? = some v → ∃ y t, ks[j]? = some y ∧ v = Value.int y t := fun j v e => by
    obtain ⟨k, x, e1, e2⟩ := got.2 j v (by rw [← Array.getElem?_toList]; exact e)
    have e3 : (ks.map Sum.inl)[j]? = some k := by
      rw [← keys, List.getElem?_map, e1]
      rfl
    rw [List.getElem?_map] at e3
    obtain ⟨y, e4, e5⟩ := Option.map_eq_some_iff.mp e3
    obtain ⟨t, ev⟩ := key_int e5.symm e2
    exact ⟨y, t, e4, ev⟩
  have hi0 : IntsAre acc.toList (acc.toList.map SrtO.iv) := SrtO.ints_iv fun v hv => by
    obtain ⟨j, hj⟩ := List.getElem?_of_mem hv
    obtain ⟨y, t, _, e⟩ := at' j v hj
    exact ⟨y, t, e⟩
  have ek : acc.toList.map SrtO.iv = ks := List.ext_getElem? fun j => by
    rw [List.getElem?_map]
    cases e : acc.toList[j]? with
    | none =>
      have := List.getElem?_eq_none_iff.mp e
      exact (List.getElem?_eq_none (by omega)).symm
    | some v =>
      obtain ⟨y, t, e1, rfl⟩ := at' j v e
      rw [e1]
      rfl
  rw [ek] at hi0
  have sl : acc.toList.length ≤ sizeLine := by omega
  have I1 : Inv X pins σ H { s with heap := h', toks := tk } := I.kept old
  refine wpAny_bind (wpAny_newList ?_ sl)
  have hL : (h'.push (seqObj "list" acc.toList.toArray 0)).get? h'.objs.size = some (seqObj "list" acc.toList.toArray 0) := Heap.get?_push_size _ rfl
  refine wpAny_bind (wpAny_holding (wpAny_call_entry (slot_list_sort) ⟨_, hL, rfl⟩ (entry_list_sort) (SrtO.list_sort_ord SrtO.swo_int hL sl (fun two => SrtO.ints_sortable hi0 two) fun out k1 k2 => ⟨_, rfl, ?_⟩) (args_list_sort _)))
  obtain ⟨c, hcc⟩ := sortedHeap_at (vs := acc.toList) (out := out.toArray) hL
  obtain ⟨k3, k4, k5⟩ := SrtO.ints_out hi0 k1 k2
  have few : ((out.map SrtO.iv).map V.int).length ≤ sizeLine := by
    rw [List.length_map, k4.length_eq]
    omega
  exact wpAny_pure ⟨_, rfl, .ref h'.objs.size, upd H h'.objs.size (.lst ((out.map SrtO.iv).map V.int)), I1.laid (t' := tk) (fun b u e => by
    have e1 : h'.get? b = some u := e
    have lt := Heap.lt_size e1
    show (sortedHeap (h'.push (seqObj "list" acc.toList.toArray 0)) h'.objs.size acc.toList out.toArray).get? b = some u
    rw [sortedHeap_old (Nat.ne_of_lt lt) (by rw [size_push']; exact Nat.lt_succ_of_lt lt)]
    exact Heap.get?_push_of_some _ e1) (Nat.le_refl _) ⟨few, out, c, vals_of_ints k3, hcc⟩, rfl, q _ _ k4 k5 (I1.hok.fresh (Nat.le_refl _))⟩
end
end SrtDi

section
variable {P : Program} {w : World} {K : PySem.W.Frag} {mg : Str → Option Value} {base : Heap}
theorem for_enumL {K : PySem.W.Frag} {a : Addr} {xs : List V} {g : TG} {tb : TS} {D : Ends} {σ : L2.St} {H : Hp} (Pv : Nat → L2.St → Hp → Prop) (h0 : Pv 0 σ H) (hl : ∀ i σ H, i ≤ xs.length → Pv i σ H → SqL K H a xs)
    (hs : ∀ (i : Nat) (x : V) (T : Addr) (σ : L2.St) (H : Hp), xs[i]? = some x → H T = none → Pv i σ H → g (.ref T) σ (upd H T (.tup [.int (i : Nat), x])) fun σ2 H2 => tb { D with nx := Pv (i + 1), ct := Pv (i + 1), bk := D.nx } σ2 H2) (hd : ∀ σ H, Pv xs.length σ H → D.nx σ H) :
    ∃ W : Nat → Nat → L2.St → Hp → Prop, (∃ m, W 0 m σ H) ∧ ∀ i m σ H, W i m σ H →
      ((Ite K a).stop i H ∧ D.nx σ H) ∨ ((Ite K a).go i H ∧ ∃ N : L2.St → Hp → Prop, (∀ σ' H', N σ' H' → ∃ m', m' < m ∧ W (i + 1) m' σ' H') ∧ ∀ x H', (Ite K a).yld i H x H' → g x σ H' fun σ2 H2 => tb { D with nx := N, ct := N, bk := D.nx } σ2 H2) := by
  refine ⟨fun i m σ H => m = xs.length - i ∧ i ≤ xs.length ∧ Pv i σ H, ⟨xs.length, rfl, Nat.zero_le _, h0⟩, ?_⟩
  rintro i m σ H ⟨rfl, hi, p⟩
  have q := hl i σ H hi p
  by_cases hlt : i < xs.length
  · have hx : xs[i]? = some xs[i] := List.getElem?_eq_getElem hlt
    refine .inr ⟨⟨xs, xs[i], q, hx⟩, Pv (i + 1), fun σ' H' p' => ⟨xs.length - (i + 1), by omega, rfl, hlt, p'⟩, fun x H' y => ?_⟩
    obtain ⟨T, x1, rfl, nT, rfl, e1⟩ := y
    exact hs i x1 T σ H (e1 xs q) nT p
  · have e : i = xs.length := by omega
    subst e
    exact .inl ⟨⟨xs, q, Nat.le_refl _⟩, hd σ H p⟩

/-! ### the turns of waves: a time, and the places that change then -/
def nV (ws : List Nat) : List V := (ws.map Int.ofNat).map V.int
theorem nV_len (ws : List Nat) : (nV ws).length = ws.length := by unfold nV; rw [List.length_map, List.length_map]
theorem nV_app (a b : List Nat) : nV (a ++ b) = nV a ++ nV b := by unfold nV; rw [List.map_append, List.map_append]
abbrev TL3 := List (Int × Addr × List Nat)
def kvL (L : TL3) : List (Key × V) := L.map fun e => ((Sum.inl e.1 : Key), V.ref e.2.1)
structure TsAt (H : Hp) (da : Addr) (L : TL3) : Prop where
  d : H da = some (.dK (kvL L))
  ls : ∀ e ∈ L, H e.2.1 = some (.lst (nV e.2.2))
  nd : (L.map fun e => e.2.1).Nodup
  nk : (L.map fun e => e.1).Nodup
theorem kvL_at (u : Int) : ∀ L : TL3, (∃ e ∈ L, e.1 = u ∧ valV (kvL L) (Sum.inl u) = some (.ref e.2.1)) ∨ (u ∉ L.map (fun e => e.1) ∧ valV (kvL L) (Sum.inl u) = none)
  | [] => .inr ⟨(fun h => by cases h), rfl⟩
  | e :: L => by
    by_cases z : e.1 = u
    · refine .inl ⟨e, List.mem_cons_self, z, ?_⟩
      show valV ((Sum.inl e.1, V.ref e.2.1) :: kvL L) (Sum.inl u) = _
      rw [valV_pos (by show (Sum.inl e.1 : Key) = Sum.inl u; rw [z])]
    · have hn : valV (kvL (e :: L)) (Sum.inl u) = valV (kvL L) (Sum.inl u) := valV_neg (fun k => z (Sum.inl.inj k))
      rcases kvL_at u L with ⟨f, hf, h1, h2⟩ | ⟨h1, h2⟩
      · exact .inl ⟨f, List.mem_cons_of_mem _ hf, h1, hn.trans h2⟩
      · refine .inr ⟨fun h => ?_, hn.trans h2⟩
        rw [List.map_cons] at h
        rcases List.mem_cons.mp h with k | k
        · exact z k.symm
        · exact h1 k
def bumpT (L : TL3) (u : Int) (k : Nat) : TL3 := L.map fun e => if e.1 = u then (e.1, e.2.1, e.2.2 ++ [k]) else e
theorem bump_keys (L : TL3) (u : Int) (k : Nat) : (bumpT L u k).map (fun e => e.1) = L.map fun e => e.1 := by
  unfold bumpT
  rw [List.map_map]
  refine List.map_congr_left fun e _ => ?_
  show (if e.1 = u then _ else e : Int × Addr × List Nat).1 = e.1
  split <;> rfl
theorem bump_adds (L : TL3) (u : Int) (k : Nat) : (bumpT L u k).map (fun e => e.2.1) = L.map fun e => e.2.1 := by
  unfold bumpT
  rw [List.map_map]
  refine List.map_congr_left fun e _ => ?_
  show (if e.1 = u then _ else e : Int × Addr × List Nat).2.1 = e.2.1
  split <;> rfl
theorem bump_kv (L : TL3) (u : Int) (k : Nat) : kvL (bumpT L u k) = kvL L := by
  unfold kvL bumpT
  rw [List.map_map]
  refine List.map_congr_left fun e _ => ?_
  dsimp only [Function.comp]
  split <;> rfl
theorem nodup_adr {L : TL3} (nd : (L.map fun e => e.2.1).Nodup) {e f : Int × Addr × List Nat} (he : e ∈ L) (hf : f ∈ L) (h : e.2.1 = f.2.1) : e = f := by
  induction L with
  | nil => cases he
  | cons x L ih =>
    rw [List.map_cons, List.nodup_cons] at nd
    rcases List.mem_cons.mp he with z | z <;> rcases List.mem_cons.mp hf with y | y
    · rw [z, y]
    · exact absurd (List.mem_map.mpr ⟨f, y, by rw [← h, z]⟩) nd.1
    · exact absurd (List.mem_map.mpr ⟨e, z, by rw [h, y]⟩) nd.1
    · exact ih nd.2 z y
theorem nodup_key {L : TL3} (nd : (L.map fun e => e.1).Nodup) {e f : Int × Addr × List Nat} (he : e ∈ L) (hf : f ∈ L) (h : e.1 = f.1) : e = f := by
  induction L with
  | nil => cases he
  | cons x L ih =>
    rw [List.map_cons, List.nodup_cons] at nd
    rcases List.mem_cons.mp he with z | z <;> rcases List.mem_cons.mp hf with y | y
    · rw [z, y]
    · exact absurd (List.mem_map.mpr ⟨f, y, by rw [← h, z]⟩) nd.1
    · exact absurd (List.mem_map.mpr ⟨e, z, by rw [h, y]⟩) nd.1
    · exact ih nd.2 z y
theorem TsAt.bump {H : Hp} {da : Addr} {L : TL3} (h : TsAt H da L) {e : Int × Addr × List Nat} (he : e ∈ L) (k : Nat) : TsAt (upd H e.2.1 (.lst (nV (e.2.2 ++ [k])))) da (bumpT L e.1 k) := by
  have nda : da ≠ e.2.1 := ne_of h.d (h.ls e he) (by intro z; cases z)
  refine ⟨by rw [upd_ne nda, bump_kv]; exact h.d, fun f hf => ?_, by rw [bump_adds]; exact h.nd, by rw [bump_keys]; exact h.nk⟩
  obtain ⟨g, hg, rfl⟩ := List.mem_map.mp hf
  by_cases z : g.1 = e.1
  · obtain rfl := nodup_key h.nk hg he z
    rw [if_pos rfl]
    exact upd_same
  · rw [if_neg z, upd_ne (fun y => z (by rw [nodup_adr h.nd hg he y]))]
    exact h.ls g hg
theorem TsAt.more {H : Hp} {da q : Addr} {L : TL3} {u : Int} (h : TsAt H da L) (hq : H q = some (.lst [])) (fr : ∀ e ∈ L, e.2.1 ≠ q) (hu : u ∉ L.map fun e => e.1) : TsAt (upd H da (.dK (kvL (L ++ [(u, q, [])])))) da (L ++ [(u, q, [])]) := by
  have nq : q ≠ da := ne_of hq h.d (by intro z; cases z)
  refine ⟨upd_same, fun f hf => ?_, ?_, ?_⟩
  · have nf : f.2.1 ≠ da := by
      rcases List.mem_append.mp hf with z | z
      · exact ne_of (h.ls f z) h.d (by intro z; cases z)
      · rw [List.mem_singleton.mp z]
        exact nq
    rw [upd_ne nf]
    rcases List.mem_append.mp hf with z | z
    · exact h.ls f z
    · rw [List.mem_singleton.mp z]
      exact hq
  · rw [List.map_append, List.nodup_append]
    refine ⟨h.nd, by simp, fun x hx y hy => ?_⟩
    obtain ⟨e, he, rfl⟩ := List.mem_map.mp hx
    rw [List.mem_singleton.mp hy]
    exact fr e he
  · rw [List.map_append, List.nodup_append]
    refine ⟨h.nk, by simp, fun x hx y hy => ?_⟩
    rw [List.mem_singleton.mp hy]
    intro z
    have z : x = u := z
    exact hu (z ▸ hx)
/-! what stands there, told by the waves' times -/
def plAt (tss : List (List Int)) (k j : Nat) (t : Int) : List Nat := ((List.range k).filter fun i => decide (t ∈ tss.getD i [])) ++ (if t ∈ (tss.getD k []).take j then [k] else [])
structure SemT (L : TL3) (tss : List (List Int)) (k j : Nat) : Prop where
  pl : ∀ e ∈ L, e.2.2 = plAt tss k j e.1
  ks : ∀ t, t ∈ L.map (fun e => e.1) ↔ (∃ i, i < k ∧ t ∈ tss.getD i []) ∨ t ∈ (tss.getD k []).take j
theorem SemT.none {tss : List (List Int)} : SemT [] tss 0 0 := ⟨(fun e h => by cases h), fun t => ⟨(fun h => by cases h), fun h => by
  rcases h with ⟨i, h, _⟩ | h
  · exact absurd h (Nat.not_lt_zero _)
  · rw [List.take_zero] at h
    cases h⟩⟩
theorem SemT.next {L : TL3} {tss : List (List Int)} {k : Nat} (h : SemT L tss k (tss.getD k []).length) : SemT L tss (k + 1) 0 := by
  refine ⟨fun e he => ?_, fun t => ?_⟩
  · rw [h.pl e he]
    unfold plAt
    rw [List.take_length, List.take_zero, List.range_succ, List.filter_append, if_neg (fun z : e.1 ∈ ([] : List Int) => by cases z), List.append_nil]
    congr 1
    rw [List.filter_cons, List.filter_nil]
    by_cases z : e.1 ∈ tss.getD k []
    · rw [if_pos z, if_pos (decide_eq_true z)]
    · rw [if_neg z, if_neg (fun y => z (of_decide_eq_true y))]
  · rw [h.ks t, List.take_length, List.take_zero]
    constructor
    · rintro (⟨i, h1, h2⟩ | h1)
      · exact .inl ⟨i, by omega, h2⟩
      · exact .inl ⟨k, by omega, h1⟩
    · rintro (⟨i, h1, h2⟩ | h1)
      · by_cases z : i = k
        · exact .inr (z ▸ h2)
        · exact .inl ⟨i, by omega, h2⟩
      · cases h1
theorem plAt_ne {tss : List (List Int)} {k j : Nat} {t u : Int} (hu : (tss.getD k [])[j]? = some u) (h : t ≠ u) : plAt tss k (j + 1) t = plAt tss k j t := by
  unfold plAt
  rw [List.take_add_one, hu, Option.toList_some]
  congr 1
  have : (t ∈ (tss.getD k []).take j ++ [u]) ↔ t ∈ (tss.getD k []).take j := by rw [List.mem_append, List.mem_singleton]; simp [h]
  by_cases z : t ∈ (tss.getD k []).take j
  · rw [if_pos z, if_pos (this.mpr z)]
  · rw [if_neg z, if_neg (fun y => z (this.mp y))]
theorem plAt_eq {tss : List (List Int)} {k j : Nat} {u : Int} (rise : (tss.getD k []).Pairwise (· < ·)) (hu : (tss.getD k [])[j]? = some u) : plAt tss k (j + 1) u = plAt tss k j u ++ [k] := by
  unfold plAt
  have no : u ∉ (tss.getD k []).take j := fun z => by
    obtain ⟨i, hi⟩ := List.getElem?_of_mem z
    have hij : i < j := by
      have := (List.getElem?_eq_some_iff.mp hi).1
      rw [List.length_take] at this
      omega
    rw [List.getElem?_take_of_lt hij] at hi
    obtain ⟨a1, a2⟩ := List.getElem?_eq_some_iff.mp hi
    obtain ⟨b1, b2⟩ := List.getElem?_eq_some_iff.mp hu
    have := List.pairwise_iff_getElem.mp rise i j a1 b1 hij
    omega
  rw [List.take_add_one, hu, Option.toList_some, if_neg no, List.append_nil, if_pos (show u ∈ _ ++ [u] from List.mem_append_right _ (List.mem_singleton.mpr rfl))]
theorem SemT.step {L : TL3} {tss : List (List Int)} {k j : Nat} {u : Int} (h : SemT L tss k j) (rise : (tss.getD k []).Pairwise (· < ·)) (hu : (tss.getD k [])[j]? = some u) (mem : u ∈ L.map fun e => e.1) : SemT (bumpT L u k) tss k (j + 1) := by
  refine ⟨fun e he => ?_, fun t => ?_⟩
  · obtain ⟨g, hg, rfl⟩ := List.mem_map.mp he
    by_cases z : g.1 = u
    · rw [if_pos z]
      show g.2.2 ++ [k] = plAt tss k (j + 1) g.1
      rw [h.pl g hg, z, plAt_eq rise hu]
    · rw [if_neg z, h.pl g hg, plAt_ne hu z]
  · rw [bump_keys, h.ks t, List.take_add_one, hu]
    show _ ↔ _ ∨ t ∈ (tss.getD k []).take j ++ [u]
    rw [List.mem_append, List.mem_singleton]
    constructor
    · rintro (z | z)
      · exact .inl z
      · exact .inr (.inl z)
    · rintro (z | z | z)
      · exact .inl z
      · exact .inr z
      · subst z
        exact (h.ks t).mp mem
/-- a time that isn't there yet, laid with no place -/
theorem SemT.lay {L : TL3} {tss : List (List Int)} {k j : Nat} {u : Int} {q : Addr} (h : SemT L tss k j) (rise : (tss.getD k []).Pairwise (· < ·)) (hu : (tss.getD k [])[j]? = some u) (no : u ∉ L.map fun e => e.1) : SemT (bumpT (L ++ [(u, q, [])]) u k) tss k (j + 1) := by
  have nn := fun z => no ((h.ks u).mpr z)
  have e0 : plAt tss k j u = [] := by
    unfold plAt
    rw [if_neg (fun z => nn (.inr z)), List.append_nil, List.filter_eq_nil_iff]
    intro i hi z
    exact nn (.inl ⟨i, List.mem_range.mp hi, of_decide_eq_true z⟩)
  refine ⟨fun e he => ?_, fun t => ?_⟩
  · obtain ⟨g, hg, rfl⟩ := List.mem_map.mp he
    rcases List.mem_append.mp hg with y | y
    · have z : g.1 ≠ u := fun z => no (z ▸ List.mem_map.mpr ⟨g, y, rfl⟩)
      rw [if_neg z, h.pl g y, plAt_ne hu z]
    · rw [List.mem_singleton.mp y, if_pos rfl]
      show [] ++ [k] = plAt tss k (j + 1) u
      rw [plAt_eq rise hu, e0]
  · rw [bump_keys, List.map_append, List.mem_append, h.ks t, List.take_add_one, hu]
    show _ ∨ t ∈ [u] ↔ _ ∨ t ∈ (tss.getD k []).take j ++ [u]
    rw [List.mem_append]
    constructor
    · rintro ((z | z) | z)
      · exact .inl z
      · exact .inr (.inl z)
      · exact .inr (.inr z)
    · rintro (z | z | z)
      · exact .inl (.inl z)
      · exact .inl (.inr z)
      · exact .inr z
def plcs (tss : List (List Int)) (t : Int) : List Nat := (List.range tss.length).filter fun i => decide (t ∈ tss.getD i [])
theorem plAt_end (tss : List (List Int)) (t : Int) : plAt tss tss.length 0 t = plcs tss t := by
  unfold plAt plcs
  rw [List.take_zero, if_neg (fun z => by cases z), List.append_nil]
theorem plAt_len (tss : List (List Int)) (k j : Nat) (t : Int) : (plAt tss k j t).length ≤ k + 1 := by
  unfold plAt
  rw [List.length_append]
  have h1 : ((List.range k).filter fun i => decide (t ∈ tss.getD i [])).length ≤ k := Nat.le_trans (List.length_filter_le ..) (by rw [List.length_range]; exact Nat.le_refl _)
  have h2 : (if t ∈ (tss.getD k []).take j then [k] else []).length ≤ 1 := by
    split
    · exact Nat.le_refl 1
    · exact Nat.zero_le _
  omega
theorem bump_len (L : TL3) (u : Int) (k : Nat) : (bumpT L u k).length = L.length := List.length_map ..
theorem bump_fresh {H : Hp} {L : TL3} {u : Int} {k : Nat} (h : ∀ e ∈ L, H e.2.1 = none) : ∀ e ∈ bumpT L u k, H e.2.1 = none := fun e he => by
  have h1 : e.2.1 ∈ (bumpT L u k).map fun e => e.2.1 := List.mem_map.mpr ⟨e, he, rfl⟩
  rw [bump_adds] at h1
  obtain ⟨f, hf, e1⟩ := List.mem_map.mp h1
  rw [← e1]
  exact h f hf
theorem kvL_snoc (L : TL3) (u : Int) (q : Addr) (h : valV (kvL L) (Sum.inl u) = none) : putK (kvL L) (Sum.inl u) (V.ref q) = kvL (L ++ [(u, q, [])]) := by
  rw [putK_new _ h]
  unfold kvL
  rw [List.map_append]
  rfl
theorem sameU {H H' : Hp} {p : Addr} {o : HO} (s : Same H H') (n : H p = none) : Same H (upd H' p o) := fun b x e => by
  rw [upd_ne (ne_of_none e n)]
  exact s b x e
theorem none_of_same {H H' : Hp} {p : Addr} (s : Same H H') (n : H' p = none) : H p = none := by
  cases z : H p with
  | none => rfl
  | some o => rw [s _ _ z] at n; cases n
theorem TsAt.same {H H' : Hp} {da : Addr} {L : TL3} (h : TsAt H da L) (s : Same H H') : TsAt H' da L := ⟨s _ _ h.d, fun e he => s _ _ (h.ls e he), h.nd, h.nk⟩
/-- what turns_of hands out: a tuple for each time, rising, with the list of the places that change -/
structure TurnsAt (H0 H : Hp) (xs : List V) (ms : List Int) (tss : List (List Int)) : Prop where
  len : xs.length = ms.length
  at_ : ∀ (i : Nat) (v : V) (t : Int), xs[i]? = some v → ms[i]? = some t → ∃ a p, v = .ref a ∧ H a = some (.tup [.int t, .ref p]) ∧ H p = some (.lst (nV (plcs tss t))) ∧ H0 p = none
  rise : ms.Pairwise (· < ·)
  mem : ∀ t, t ∈ ms ↔ ∃ i, i < tss.length ∧ t ∈ tss.getD i []
  few : ms.length ≤ 10000 * tss.length
def WvAll (H : Hp) (vs : List V) (ws : List (Int × List Int)) : Prop := TkAll H vs (ws.map wvD)
def sp_turns_of (K : PySem.W.Frag) : Sp := fun vs H Q _ => ∃ (wl : Addr) (xs : List V) (ws : List (Int × List Int)), vs = [.ref wl] ∧ H wl = some (.lst xs) ∧ TkAll H xs (ws.map wvD) ∧ ws.length ≤ 100 ∧ (∀ x ∈ ws, x.2.Pairwise (· < ·) ∧ x.2.length ≤ 10000) ∧
  ∀ r H' ys ms, Same H H' → H r = none → H' r = some (.lst ys) → TurnsAt H H' ys ms (ws.map (·.2)) → Q (.ref r) H'
theorem ok_turns_of (T : Tx w K mg) : FnOk P w K mg base CX0 1 T.f_turns_of T.fd_turns_of ["waves"] (sp_turns_of K) := by
  refine T.F_turns_of.ok sc_turns_of (fun vs H Q E h => ?_) (fun cdv A outer s H vs Q E hr h => ?_)
  · obtain ⟨wl, xs, ws, rfl, _⟩ := h
    rfl
  · obtain ⟨wl, xs, ws, rfl, hw, tw, l100, okw, q⟩ := h
    refine ⟨_, (pss_cons (ps_set (i := 1) sc_turns_of.nd rfl (by first | exact .inl rfl | exact .inr rfl) pe_dnewK) (pss_cons (ps_for PassesOwn.never rfl (pi_enum (by rfl) T.m_enumerate (pa_cons (pv 0) pa_nil)) (pg_tup rfl (pgs_cons (pg_name (i := 2) sc_turns_of.nd rfl (by first | exact .inl rfl | exact .inr rfl)) (pgs_cons (pg_tup rfl (pgs_cons (pg_name (i := 3) sc_turns_of.nd rfl (by first | exact .inl rfl | exact .inr rfl)) (pgs_cons (pg_name (i := 4) sc_turns_of.nd rfl (by first | exact .inl rfl | exact .inr rfl)) pgs_nil))) pgs_nil))) (pss_one (ps_for PassesOwn.never rfl (pi_tup (pv 4)) (pg_name (i := 5) sc_turns_of.nd rfl (by first | exact .inl rfl | exact .inr rfl)) (pss_one (ps_expr (pe_bm PySem.F.plainAttrs_list PySem.F.slot_list_append PySem.F.type_list_append mt_append (pe_dsetd (pv 1) (pv 5) (pe_lst pa_nil) ⟨rfl, rfl, rfl, rfl⟩) (pa_cons (pv 2) pa_nil))))))) (pss_one (ps_ret (pe_lc (own := [("time", 5)]) (by rfl) sc_turns_of.nd (pi_list (pe_callB (SrtDi.cr_sortedDi rfl) (by rfl) T.m_sorted (by decide +kernel) (pa_cons (pv 1) pa_nil))) (blkOk_by (own := [("time", 5)]) (N := ["waves", "places_at", "place", "first", "times", "time"]) (sc := defScope s_turns_of) (by decide +kernel)) (fun _ _ _ _ _ => (pg_name (i := 5) sc_turns_of.nd rfl (by first | exact .inl rfl | exact .inr rfl))) (fun _ _ _ _ _ => pts_nil) (fun _ _ _ _ _ => (pe_tup (pa_cons (pv 5) (pa_cons (pe_dget (hu_of hr) (pv 1) (pv 5) (fun _ _ => rfl)) pa_nil))))))))), ?_⟩
    refine fun da nda => ?_
    have s1 := same_upd (o := HO.dK []) nda
    have h1 : upd H da (HO.dK []) da = some (HO.dK []) := upd_same
    generalize upd H da (HO.dK []) = H1 at s1 h1 ⊢
    refine ⟨.ref wl, rfl, wl, xs, rfl, SqL.of (s1 _ _ hw), for_enumL (K := K) (a := wl) (xs := xs) (fun k σ H' => ∃ y2 y3 y4 y5 L, σ = [some (.ref wl), some (.ref da), y2, y3, y4, y5] ∧ Same H H' ∧ TsAt H' da L ∧ (∀ e ∈ L, H e.2.1 = none) ∧ SemT L (ws.map (·.2)) k 0 ∧ L.length ≤ 10000 * k)
      ⟨_, _, _, _, [], rfl, s1, ⟨h1, (fun e h => by cases h), .nil, .nil⟩, (fun e h => by cases h), .none, Nat.zero_le _⟩ (fun k σ H' _ ⟨_, _, _, _, _, _, z, _⟩ => SqL.of (z _ _ hw)) ?_ ?_⟩
    · rintro k v T0 σ H2 hv nT ⟨y2, y3, y4, y5, L, rfl, s2, tl, fr, sm, ll⟩
      obtain ⟨x, hx, tx⟩ := tw.at hv
      obtain ⟨wa, t, rfl, ha, ht⟩ := tx.wv_inv
      have s3 := same_upd (o := HO.tup [.int (k : Nat), .ref wa]) nT
      have h3 : upd H2 T0 (HO.tup [.int (k : Nat), .ref wa]) T0 = some (.tup [.int (k : Nat), .ref wa]) := upd_same
      have tl3 := tl.same s3
      generalize upd H2 T0 (HO.tup [.int (k : Nat), .ref wa]) = H3 at s3 h3 tl3 ⊢
      have s03 := s2.trans s3
      have hk : k < ws.length := (List.getElem?_eq_some_iff.mp hx).1
      have ek : (ws.map (·.2)).getD k [] = x.2 := by
        rw [List.getD_eq_getElem?_getD, List.getElem?_map, hx]
        rfl
      obtain ⟨rise, lx⟩ := okw x (List.mem_of_getElem? hx)
      refine ⟨T0, _, rfl, SqT.of h3, rfl, _, _, rfl, _, _, rfl, wa, _, rfl, SqT.of (s03 _ _ ha), rfl, _, _, rfl, _, _, rfl, rfl, rfl, ?_⟩
      refine ⟨.ref t, rfl, t, rfl, ⟨_, SqT.of (s03 _ _ ht)⟩, for_tup (K := K) (a := t) (xs := x.2.map V.int) (fun j σ H' => ∃ y5 L, σ = [some (.ref wl), some (.ref da), some (.int (k : Nat)), some (.int x.1), some (.ref t), y5] ∧ Same H H' ∧ TsAt H' da L ∧ (∀ e ∈ L, H e.2.1 = none) ∧ SemT L (ws.map (·.2)) k j ∧ L.length ≤ 10000 * k + j)
        ⟨_, L, rfl, s03, tl3, fr, sm, ll⟩ (fun j σ H' _ ⟨_, _, _, z, _⟩ => SqT.of (z _ _ ht)) ?_ ?_⟩
      · rintro j v σ H4 hv ⟨y5, L, rfl, s4, tl4, fr, sm, ll⟩
        obtain ⟨u, hu, rfl⟩ : ∃ u, x.2[j]? = some u ∧ v = V.int u := by
          rw [List.getElem?_map] at hv
          obtain ⟨u, hu, e⟩ := Option.map_eq_some_iff.mp hv
          exact ⟨u, hu, e.symm⟩
        have hj := (List.getElem?_eq_some_iff.mp hu).1
        refine ⟨.ref da, rfl, da, rfl, .inl ⟨_, .inl tl4.d⟩, .int u, rfl, Nat.zero_le _, fun q nq => ?_⟩
        have s5 := same_upd (o := HO.lst []) nq
        have h5 : upd H4 q (HO.lst []) q = some (.lst []) := upd_same
        have tl5 := tl4.same s5
        have ndq : ∀ e ∈ L, e.2.1 ≠ q := fun e he => ne_of_none (tl4.ls e he) nq
        have nq0 := none_of_same s4 nq
        generalize upd H4 q (HO.lst []) = H5 at s5 h5 tl5 ⊢
        have s05 := s4.trans s5
        refine ⟨kvL L, Sum.inl u, tl5.d, rfl, ?_, fun v hv => ?_, fun hn => ?_⟩
        · unfold kvL
          rw [List.length_map]
          exact Nat.lt_of_le_of_lt (show L.length ≤ 1010000 by omega) (by decide)
        · rcases kvL_at u L with ⟨e, he, rfl, e2⟩ | ⟨_, e2⟩
          · rw [e2] at hv
            cases Option.some.inj hv
            refine ⟨.inl ⟨rfl, _, SqL.of (tl5.ls e he)⟩, .int (k : Nat), rfl, e.2.1, _, _, rfl, rfl, tl5.ls e he, ?_, ?_⟩
            · rw [nV_len, sm.pl e he]
              exact Nat.lt_of_le_of_lt (Nat.le_trans (plAt_len ..) (show k + 1 ≤ 101 by omega)) (by decide)
            have tb := tl5.bump he k
            rw [nV_app] at tb
            refine ⟨_, bumpT L e.1 k, rfl, sameU s05 (fr e he), tb, bump_fresh fr, ?_, by rw [bump_len]; omega⟩
            exact sm.step (by rw [ek]; exact rise) (by rw [ek]; exact hu) (List.mem_map.mpr ⟨e, he, rfl⟩)
          · rw [e2] at hv
            cases hv
        · have no : u ∉ L.map fun e => e.1 := by
            rcases kvL_at u L with ⟨e, he, e1, e2⟩ | ⟨z, _⟩
            · rw [hn] at e2
              cases e2
            · exact z
          rw [kvL_snoc L u q hn]
          have tm := tl5.more h5 ndq no
          have nqa : q ≠ da := ne_of h5 tl5.d (by intro z; cases z)
          have h6 : upd H5 da (HO.dK (kvL (L ++ [(u, q, [])]))) q = some (.lst []) := by rw [upd_ne nqa]; exact h5
          have s06 : Same H (upd H5 da (HO.dK (kvL (L ++ [(u, q, [])])))) := sameU s05 nda
          generalize upd H5 da (HO.dK (kvL (L ++ [(u, q, [])]))) = H6 at tm h6 s06 ⊢
          refine ⟨.inl ⟨rfl, _, SqL.of h6⟩, .int (k : Nat), rfl, q, _, _, rfl, rfl, h6, by decide, ?_⟩
          have hm : (u, q, []) ∈ L ++ [(u, q, ([] : List Nat))] := List.mem_append_right _ (List.mem_singleton.mpr rfl)
          have tb := tm.bump hm k
          refine ⟨_, bumpT (L ++ [(u, q, [])]) u k, rfl, sameU s06 nq0, tb, bump_fresh fun e he => ?_, ?_, ?_⟩
          · rcases List.mem_append.mp he with z | z
            · exact fr e z
            · rw [List.mem_singleton.mp z]
              exact nq0
          · exact sm.lay (by rw [ek]; exact rise) (by rw [ek]; exact hu) no
          · rw [bump_len, List.length_append]
            show L.length + 1 ≤ _
            omega
      · rintro σ H4 ⟨y5, L, rfl, s4, tl4, fr, sm, ll⟩
        rw [List.length_map] at sm ll
        refine ⟨_, _, _, _, L, rfl, s4, tl4, fr, ?_, by omega⟩
        rw [← ek] at sm
        exact sm.next
    · rintro σ H2 ⟨y2, y3, y4, y5, L, rfl, s2, tl, fr, sm, ll⟩
      have lx : xs.length = ws.length := by rw [tw.length, List.length_map]
      rw [lx] at sm ll
      refine ⟨.ref da, rfl, da, kvL L, L.map (·.1), rfl, tl.d, ?_, fun ys p pm pw np => ?_⟩
      · unfold kvL
        rw [List.map_map, List.map_map]
        rfl
      have s3 := same_upd (o := HO.lst (ys.map V.int)) np
      have h3 : upd H2 p (HO.lst (ys.map V.int)) p = some (.lst (ys.map V.int)) := upd_same
      have tl3 := tl.same s3
      generalize upd H2 p (HO.lst (ys.map V.int)) = H3 at s3 h3 tl3 ⊢
      have s03 := s2.trans s3
      have rise : ys.Pairwise (· < ·) := (pw.and ((pm.nodup_iff).mpr tl.nk)).imp fun {x y} h => by
        obtain ⟨h1, h2⟩ := h
        omega
      refine ⟨p, rfl, ⟨_, SqL.of h3⟩, fun D nD => ?_⟩
      have nD0 := none_of_same s03 nD
      refine lc_list (K := K) (a := p) (xs := ys.map V.int) (fun i H' => Same H3 H' ∧ ∃ vs, H' D = some (.lst vs) ∧ vs.length = i ∧ ∀ (i' : Nat) (v : V) (t : Int), vs[i']? = some v → ys[i']? = some t → ∃ a p, v = .ref a ∧ H' a = some (.tup [.int t, .ref p]) ∧ H3 p = some (.lst (nV (plcs (ws.map (·.2)) t))) ∧ H p = none)
        ⟨same_upd nD, [], upd_same, rfl, fun i' v t h => by cases h⟩ (fun i H' _ z => SqL.of (z.1 _ _ h3)) ?_ ?_
      · rintro i v H4 hv ⟨s4, vs, hD, lv, hall⟩
        obtain ⟨u, hu, rfl⟩ : ∃ u, ys[i]? = some u ∧ v = V.int u := by
          rw [List.getElem?_map] at hv
          obtain ⟨u, hu, e⟩ := Option.map_eq_some_iff.mp hv
          exact ⟨u, hu, e.symm⟩
        have hmem : u ∈ L.map (fun e => e.1) := pm.mem_iff.mp (List.mem_of_getElem? hu)
        obtain ⟨e, he, rfl, e2⟩ := (kvL_at u L).resolve_right fun z => z.1 hmem
        have tl4 := tl3.same s4
        refine ⟨rfl, .int e.1, rfl, .ref da, rfl, .int e.1, rfl, da, .ref e.2.1, rfl, (by rw [← e2]; exact DGet.k (k := Sum.inl e.1) tl4.d), sl2, fun a na => ?_⟩
        have s5 := same_upd (o := HO.tup [V.int e.1, .ref e.2.1]) na
        have h5 : upd H4 a (HO.tup [V.int e.1, .ref e.2.1]) a = some (.tup [V.int e.1, .ref e.2.1]) := upd_same
        generalize upd H4 a (HO.tup [V.int e.1, .ref e.2.1]) = H5 at s5 h5 ⊢
        have hi : i < ys.length := (List.getElem?_eq_some_iff.mp hu).1
        refine ⟨vs, s5 _ _ hD, ?_, sameU (s4.trans s5) nD, vs ++ [.ref a], upd_same, by rw [List.length_append, lv]; rfl, fun i' v t h1 h2 => ?_⟩
        · have := pm.length_eq
          rw [List.length_map] at this
          exact Nat.lt_of_le_of_lt (show vs.length ≤ 1010000 by omega) (by decide)
        · by_cases z : i' < vs.length
          · rw [List.getElem?_append_left z] at h1
            obtain ⟨a', p', q1, q2, q3, q4⟩ := hall i' v t h1 h2
            have nb : a' ≠ D := ne_of q2 hD (by intro z; cases z)
            exact ⟨a', p', q1, by rw [upd_ne nb]; exact s5 _ _ q2, q3, q4⟩
          · rw [List.getElem?_append_right (by omega)] at h1
            have ei : i' = vs.length := by
              have := (List.getElem?_eq_some_iff.mp h1).1
              simp at this
              omega
            subst ei
            rw [Nat.sub_self] at h1
            cases Option.some.inj h1
            rw [lv, hu] at h2
            cases Option.some.inj h2
            have nb : a ≠ D := ne_of h5 (s5 _ _ hD) (by intro z; cases z)
            refine ⟨a, e.2.1, rfl, by rw [upd_ne nb]; exact h5, ?_, fr e he⟩
            rw [tl3.ls e he, sm.pl e he]
            have := plAt_end (ws.map (·.2)) e.1
            rw [List.length_map] at this
            rw [this]
      · rintro H4 ⟨s4, vs, hD, lv, hall⟩
        rw [List.length_map] at lv
        refine q D H4 vs ys (s03.trans s4) nD0 hD ⟨lv, fun i v t h1 h2 => ?_, rise, fun t => ?_, ?_⟩
        · obtain ⟨a, p', q1, q2, q3, q4⟩ := hall i v t h1 h2
          exact ⟨a, p', q1, q2, s4 _ _ q3, q4⟩
        · rw [pm.mem_iff]
          refine (sm.ks t).trans ⟨fun h => ?_, fun ⟨i, h1, h2⟩ => .inl ⟨i, by rw [List.length_map] at h1; exact h1, h2⟩⟩
          rcases h with ⟨i, h1, h2⟩ | h
          · exact ⟨i, by rw [List.length_map]; exact h1, h2⟩
          · rw [List.take_zero] at h
            cases h
        · have := pm.length_eq
          rw [List.length_map] at this
          rw [List.length_map]
          omega

end
end Gk

set_option Elab.async false
set_option linter.all false
set_option maxRecDepth 100000
set_option maxHeartbeats 1000000
set_option pp.maxSteps 1500
set_option pp.deepTerms false
namespace Gk
open PySem PySem.Spec PyProof.Rows L2
section
variable {P : Program} {w : World} {K : PySem.W.Frag} {mg : Str → Option Value} {base : Heap}
/-! ### a gate's wave -/
theorem vint_at {l : List Int} {i : Nat} {x : V} (h : (l.map V.int)[i]? = some x) : ∃ b, l[i]? = some b ∧ x = V.int b := by
  rw [List.getElem?_map] at h
  obtain ⟨b, hb, e⟩ := Option.map_eq_some_iff.mp h
  exact ⟨b, hb, e.symm⟩
theorem ixN_k {n k : Nat} (h : k < n) : ixN n ((k : Nat) : Int) = some k := by
  unfold ixN
  rw [if_pos (by omega), if_pos (by omega)]
  rfl
def flipsM (W : List Int) (S : List Nat) : List Int := S.foldl (fun W k => W.set k (1 - W.getD k 0)) W
theorem flips_len : ∀ (S : List Nat) (W : List Int), (flipsM W S).length = W.length
  | [], _ => rfl
  | k :: S, W => by
    show (flipsM (W.set k _) S).length = _
    rw [flips_len S, List.length_set]
theorem flips_snoc (W : List Int) (S : List Nat) (k : Nat) : flipsM W (S ++ [k]) = (flipsM W S).set k (1 - (flipsM W S).getD k 0) := by
  unfold flipsM
  rw [List.foldl_append]
  rfl
theorem flips_at : ∀ (S : List Nat) (W : List Int), S.Nodup → ∀ k, k < W.length → (flipsM W S).getD k 0 = if k ∈ S then 1 - W.getD k 0 else W.getD k 0
  | [], W, _, k, hk => by rw [if_neg (fun z => by cases z)]; rfl
  | s :: S, W, nd, k, hk => by
    obtain ⟨n1, n2⟩ := List.nodup_cons.mp nd
    show (flipsM (W.set s (1 - W.getD s 0)) S).getD k 0 = _
    rw [flips_at S _ n2 k (by rw [List.length_set]; exact hk)]
    by_cases z : k = s
    · subst z
      rw [if_neg n1, if_pos List.mem_cons_self, List.getD_eq_getElem?_getD, List.getElem?_set_self hk]
      rfl
    · have e1 : (W.set s (1 - W.getD s 0)).getD k 0 = W.getD k 0 := by
        rw [List.getD_eq_getElem?_getD, List.getElem?_set_ne (fun y => z y.symm), ← List.getD_eq_getElem?_getD]
      rw [e1]
      by_cases y : k ∈ S
      · rw [if_pos y, if_pos (List.mem_cons_of_mem _ y)]
      · rw [if_neg y, if_neg (fun x => (List.mem_cons.mp x).elim z y)]
theorem plcs_nodup (tss : List (List Int)) (t : Int) : (plcs tss t).Nodup := List.nodup_range.filter _
theorem plcs_mem {tss : List (List Int)} {t : Int} {k : Nat} : k ∈ plcs tss t ↔ k < tss.length ∧ t ∈ tss.getD k [] := by
  unfold plcs
  rw [List.mem_filter, List.mem_range, decide_eq_true_iff]
/-- the moment of the turn ahead -/
def curM (ms : List Int) (i : Nat) : Int := if i = 0 then -1 else ms.getD (i - 1) 0
theorem flips_turn {ws : List (Int × List Int)} {ms : List Int} {i : Nat} {t : Int} (okw : ∀ x ∈ ws, Wv x (wv x)) (rise : ms.Pairwise (· < ·)) (mem : ∀ t, t ∈ ms ↔ ∃ i, i < (ws.map (·.2)).length ∧ t ∈ (ws.map (·.2)).getD i []) (ht : ms[i]? = some t) :
    flipsM (ws.map fun x => wv x (curM ms i)) (plcs (ws.map (·.2)) t) = ws.map fun x => wv x t := by
  have gd : ∀ {W : List Int} {k : Nat} (h : k < W.length), W[k]? = some (W.getD k 0) := fun {W k} h => by rw [List.getD_eq_getElem?_getD, List.getElem?_eq_getElem h]; rfl
  refine List.ext_getElem? fun k => ?_
  by_cases hk : k < ws.length
  · have l1 : k < (flipsM (ws.map fun x => wv x (curM ms i)) (plcs (ws.map (·.2)) t)).length := by rw [flips_len, List.length_map]; exact hk
    rw [gd l1, flips_at _ _ (plcs_nodup ..) k (by rw [List.length_map]; exact hk)]
    have hx : ws[k]? = some ws[k] := List.getElem?_eq_getElem hk
    have e1 : (ws.map fun x => wv x (curM ms i)).getD k 0 = wv ws[k] (curM ms i) := by rw [List.getD_eq_getElem?_getD, List.getElem?_map, hx]; rfl
    have e2 : (ws.map (·.2)).getD k [] = ws[k].2 := by rw [List.getD_eq_getElem?_getD, List.getElem?_map, hx]; rfl
    rw [e1, List.getElem?_map, hx]
    have okx := okw _ (List.getElem_mem hk)
    have cm : (k ∈ plcs (ws.map (·.2)) t) ↔ t ∈ ws[k].2 := by rw [plcs_mem, e2, List.length_map]; exact ⟨fun h => h.2, fun h => ⟨hk, h⟩⟩
    have hi := (List.getElem?_eq_some_iff.mp ht)
    have hil : i < ms.length := hi.1
    -- no change between the turn ahead and this one
    have same : cnt ws[k].2 (curM ms i) = cnt ws[k].2 (t - 1) := by
      have inm : ∀ u ∈ ws[k].2, u ∈ ms := fun u hu => (mem u).mpr ⟨k, by rw [List.length_map]; exact hk, by rw [e2]; exact hu⟩
      have t0 : 0 ≤ t := by
        obtain ⟨j, h1, h2⟩ := (mem t).mp (List.mem_of_getElem? ht)
        rw [List.length_map] at h1
        have e3 : (ws.map (·.2)).getD j [] = ws[j].2 := by rw [List.getD_eq_getElem?_getD, List.getElem?_map, List.getElem?_eq_getElem h1]; rfl
        rw [e3] at h2
        exact (okw _ (List.getElem_mem h1)).lo t h2
      by_cases z : i = 0
      · subst z
        show cnt _ (if (0 : Nat) = 0 then (-1 : Int) else _) = _
        rw [if_pos rfl]
        refine cnt_same (by omega) fun u hu h => ?_
        obtain ⟨j, hj⟩ := List.getElem?_of_mem (inm u hu)
        obtain ⟨j1, j2⟩ := List.getElem?_eq_some_iff.mp hj
        by_cases y : j = 0
        · subst y
          have := Option.some.inj (hj.symm.trans ht)
          omega
        · have := List.pairwise_iff_getElem.mp rise 0 j hi.1 j1 (by omega)
          rw [hi.2, j2] at this
          omega
      · have ec : curM ms i = ms[i - 1]'(by omega) := by
          unfold curM
          rw [if_neg z, List.getD_eq_getElem?_getD, List.getElem?_eq_getElem (by omega)]
          rfl
        have lt := List.pairwise_iff_getElem.mp rise (i - 1) i (by omega) hi.1 (by omega)
        rw [hi.2] at lt
        rw [ec]
        refine cnt_same (by omega) fun u hu h => ?_
        obtain ⟨j, hj⟩ := List.getElem?_of_mem (inm u hu)
        obtain ⟨j1, j2⟩ := List.getElem?_eq_some_iff.mp hj
        by_cases y : j ≤ i - 1
        · by_cases y2 : j = i - 1
          · subst y2
            omega
          · have := List.pairwise_iff_getElem.mp rise j (i - 1) j1 (by omega) (by omega)
            omega
        · by_cases y2 : j = i
          · subst y2
            have := Option.some.inj (hj.symm.trans ht)
            omega
          · have := List.pairwise_iff_getElem.mp rise i j hi.1 j1 (by omega)
            rw [hi.2, j2] at this
            omega
    have st := cnt_step ws[k].2 t okx.rise
    show some _ = some (wv ws[k] t)
    congr 1
    unfold wv
    rw [same, st]
    by_cases z : t ∈ ws[k].2
    · rw [if_pos (cm.mpr z), if_pos z]
      push_cast
      omega
    · rw [if_neg (fun y => z (cm.mp y)), if_neg z]
      rfl
  · rw [List.getElem?_eq_none (by rw [flips_len, List.length_map]; omega), List.getElem?_eq_none (by rw [List.length_map]; omega)]
theorem firsts {ws : List (Int × List Int)} (okw : ∀ x ∈ ws, Wv x (wv x)) : ws.map (·.1) = ws.map fun x => wv x (-1) := List.map_congr_left fun x hx => (okw x hx).first
def sp_gate_wave (K : PySem.W.Frag) : Sp := fun vs H Q _ => ∃ (bs : List Bool) (wl : Addr) (xs : List V) (ws : List (Int × List Int)), vs = [.str (tabOf bs), .ref wl] ∧ H wl = some (.lst xs) ∧ TkAll H xs (ws.map wvD) ∧ bs.length = 2 ^ ws.length ∧ ws.length ≤ 4 ∧ (∀ x ∈ ws, Wv x (wv x) ∧ x.2.length ≤ 10000) ∧
  ∀ r H' y, Same H H' → Tk H' (.ref r) (wvD y) → Wv y (gateV bs ws) → Q (.ref r) H'
theorem ok_gate_wave (T : Tx w K mg) : FnOk P w K mg base CX0 2 T.f_gate_wave T.fd_gate_wave ["table", "waves"] (sp_gate_wave K) := by
  refine T.F_gate_wave.ok sc_gate_wave (fun vs H Q E h => ?_) (fun cdv A outer s H vs Q E hr h => ?_)
  · obtain ⟨bs, wl, xs, ws, rfl, _⟩ := h
    rfl
  · obtain ⟨bs, wl, xs, ws, rfl, hw, tw, hb, l3, okw0, q⟩ := h
    have okw : ∀ x ∈ ws, Wv x (wv x) := fun x hx => (okw0 x hx).1
    have lx : xs.length = ws.length := by rw [tw.length, List.length_map]
    have w01 : ∀ t, ∀ u ∈ ws.map (fun x => wv x t), u = 0 ∨ u = 1 := fun t u hu => by
      obtain ⟨x, _, rfl⟩ := List.mem_map.mp hu
      exact wv01 x t
    refine ⟨_, (pss_cons (ps_setLc (i := 2) (own := [("first", 3), ("times", 5)]) (by rfl) sc_gate_wave.nd rfl rfl (sw_true rfl rfl rfl (by decide +kernel)) (pi_list (pv 1)) (blkOk_by (own := [("first", 3), ("times", 5)]) (N := ["table", "waves", "worths", "first", "now", "times", "time", "places", "place"]) (sc := defScope s_gate_wave) (by decide +kernel)) (fun _ _ _ _ _ => (show PG _ _ (gTup K 2 _) from pg_tup rfl (pgs_cons (pg_name (i := 3) sc_gate_wave.nd rfl (by first | exact .inl rfl | exact .inr rfl)) (pgs_cons (pg_name (i := 5) sc_gate_wave.nd rfl (by first | exact .inl rfl | exact .inr rfl)) pgs_nil)))) (fun _ _ _ _ _ => pts_nil) (fun _ _ _ _ _ => (pv 3))) (pss_cons (ps_set (i := 3) sc_gate_wave.nd rfl (by first | exact .inl rfl | exact .inr rfl) (pe_call (ok_table_worth T) (hr.mono (by decide)) (by rfl) T.g_table_worth T.F_table_worth.kp T.b_table_worth .nil pass0 (pa_cons (pv 0) (pa_cons (pv 2) pa_nil)))) (pss_cons (ps_set (i := 4) sc_gate_wave.nd rfl (by first | exact .inl rfl | exact .inr rfl) (pv 3)) (pss_cons (ps_set (i := 5) sc_gate_wave.nd rfl (by first | exact .inl rfl | exact .inr rfl) (pe_lst pa_nil)) (pss_cons (ps_for PassesOwn.never rfl (pi_list (pe_call (ok_turns_of T) (hr.mono (by decide)) (by rfl) T.g_turns_of T.F_turns_of.kp T.b_turns_of .nil pass0 (pa_cons (pv 1) pa_nil))) (pg_tup rfl (pgs_cons (pg_name (i := 6) sc_gate_wave.nd rfl (by first | exact .inl rfl | exact .inr rfl)) (pgs_cons (pg_name (i := 7) sc_gate_wave.nd rfl (by first | exact .inl rfl | exact .inr rfl)) pgs_nil))) (pss_cons (ps_for PassesOwn.never rfl (pi_list (pv 7)) (pg_name (i := 8) sc_gate_wave.nd rfl (by first | exact .inl rfl | exact .inr rfl)) (pss_one (ps_asg (pe_op op_sub pe_int (pe_ix ix_list (pv 2) (pv 8) (fun _ _ => rfl))) (pg_sub (pv 2) (pv 8) set_list)))) (pss_one (ps_if (pt_cmpR op_ne (pe_call (ok_table_worth T) (hr.mono (by decide)) (by rfl) T.g_table_worth T.F_table_worth.kp T.b_table_worth .nil pass0 (pa_cons (pv 0) (pa_cons (pv 2) pa_nil))) (pv 4) (nomark _)) (pss_cons (ps_set (i := 4) sc_gate_wave.nd rfl (by first | exact .inl rfl | exact .inr rfl) (pe_op op_sub pe_int (pv 4))) (pss_one (ps_expr (pe_bm PySem.F.plainAttrs_list PySem.F.slot_list_append PySem.F.type_list_append mt_append (pv 5) (pa_cons (pv 6) pa_nil))))) pss_nil)))) (pss_one (ps_ret (pe_tup (pa_cons (pv 3) (pa_cons (pe_callTy call_tuple_of (by rfl) T.m_tuple (by decide +kernel) (pa_cons (pv 5) pa_nil)) pa_nil)))))))))), ?_⟩
    refine ⟨.ref wl, rfl, wl, rfl, ⟨_, SqL.of hw⟩, fun wo nwo => ?_⟩
    refine lc_list (K := K) (a := wl) (xs := xs) (fun i H' => Same H H' ∧ H' wo = some (.lst (((ws.take i).map (·.1)).map V.int))) ⟨same_upd nwo, upd_same⟩ (fun i H' _ z => SqL.of (z.1 _ _ hw)) ?_ ?_
    · rintro i v H1 hv ⟨s1, ho⟩
      obtain ⟨x, hx, tx⟩ := tw.at hv
      obtain ⟨wa, t, rfl, ha, ht⟩ := tx.wv_inv
      have hi := (List.getElem?_eq_some_iff.mp hx).1
      refine ⟨wa, _, rfl, SqT.of (s1 _ _ ha), rfl, _, _, rfl, _, _, rfl, rfl, rfl, .int x.1, rfl, _, ho, ?_, sameU s1 nwo, ?_⟩
      · rw [List.length_map, List.length_map, List.length_take]
        exact Nat.lt_of_le_of_lt (show min i ws.length ≤ 4 by omega) (by decide)
      · rw [upd_same, List.take_add_one, hx, List.map_append, List.map_append]
        rfl
    · rintro H1 ⟨s1, ho⟩
      rw [lx, List.take_length, firsts okw] at ho
      have lW : ∀ t, (ws.map fun x => wv x t).length = ws.length := fun t => List.length_map ..
      have hb' : ∀ t, bs.length = 2 ^ (ws.map fun x => wv x t).length := fun t => by rw [lW]; exact hb
      have l3' : ∀ t, (ws.map fun x => wv x t).length ≤ 4 := fun t => by rw [lW]; exact l3
      refine ⟨.str (tabOf bs), rfl, .ref wo, rfl, bs, wo, _, rfl, SqL.of ho, w01 (-1), hb' _, l3' _, ?_⟩
      refine ⟨.int (gateV bs ws (-1)), rfl, Nat.zero_le _, fun ti nti => ?_⟩
      have s2 := same_upd (o := HO.lst []) nti
      have h2 : upd H1 ti (HO.lst []) ti = some (.lst []) := upd_same
      have hwo2 := s2 _ _ ho
      have nti0 := none_of_same s1 nti
      generalize upd H1 ti (HO.lst []) = H2 at s2 h2 hwo2 ⊢
      have s02 := s1.trans s2
      refine ⟨.ref wl, rfl, wl, xs, ws, rfl, s02 _ _ hw, tw.same s02, by omega, fun x hx => ⟨(okw x hx).rise, (okw0 x hx).2⟩, fun r HT ys ms sT nr hr TA => ?_⟩
      have mem' : ∀ t, t ∈ ms ↔ ∃ x ∈ ws, t ∈ x.2 := fun t => by
        rw [TA.mem]
        constructor
        · rintro ⟨i, h1, h2⟩
          rw [List.length_map] at h1
          refine ⟨ws[i], List.getElem_mem h1, ?_⟩
          rw [List.getD_eq_getElem?_getD, List.getElem?_map, List.getElem?_eq_getElem h1] at h2
          exact h2
        · rintro ⟨x, hx, h⟩
          obtain ⟨i, hi⟩ := List.getElem?_of_mem hx
          refine ⟨i, by rw [List.length_map]; exact (List.getElem?_eq_some_iff.mp hi).1, ?_⟩
          rw [List.getD_eq_getElem?_getD, List.getElem?_map, hi]
          exact h
      have lo : ∀ t ∈ ms, 0 ≤ t := fun t ht => by
        obtain ⟨x, hx, h⟩ := (mem' t).mp ht
        exact (okw x hx).lo t h
      have f01 : ∀ t, gateV bs ws t = 0 ∨ gateV bs ws t = 1 := fun t => gate01 _ _
      have con := gateV_con (bs := bs) mem'
      have nrw : r ≠ wo := (ne_of_none hwo2 nr).symm
      have nrt : r ≠ ti := (ne_of_none h2 nr).symm
      have few : ms.length ≤ 40000 := by
        have := TA.few
        rw [List.length_map] at this
        omega
      refine ⟨r, rfl, ⟨_, SqL.of hr⟩, for_list (K := K) (a := r) (xs := ys) (fun i σ H' => ∃ acc y6 y7 y8, σ = [some (.str (tabOf bs)), some (.ref wl), some (.ref wo), some (.int (gateV bs ws (-1))), some (.int acc.2), some (.ref ti), y6, y7, y8] ∧ Fr wo ti HT H' ∧ H' wo = some (.lst ((ws.map fun x => wv x (curM ms i)).map V.int)) ∧ H' ti = some (.lst (acc.1.map V.int)) ∧ TInv (gateV bs ws) ms i acc)
        ⟨([], gateV bs ws (-1)), _, _, _, rfl, Fr.refl, sT _ _ hwo2, sT _ _ h2, tinv0 f01 lo con⟩ (fun i σ H' _ ⟨_, _, _, _, _, z, _⟩ => SqL.of (z _ _ nrw nrt hr)) ?_ ?_⟩
      · rintro i v σ H3 hv ⟨acc, y6, y7, y8, rfl, f3, ho3, ht3, I⟩
        have hi : i < ms.length := by rw [← TA.len]; exact (List.getElem?_eq_some_iff.mp hv).1
        obtain ⟨t, ht⟩ : ∃ t, ms[i]? = some t := ⟨_, List.getElem?_eq_getElem hi⟩
        obtain ⟨a, p, rfl, ha, hp, np⟩ := TA.at_ i v t hv ht
        have na1 : a ≠ wo := ne_of ha (sT _ _ hwo2) (by intro z; cases z)
        have na2 : a ≠ ti := ne_of ha (sT _ _ h2) (by intro z; cases z)
        have np1 : p ≠ wo := (ne_of_none hwo2 np).symm
        have np2 : p ≠ ti := (ne_of_none h2 np).symm
        refine ⟨a, _, rfl, SqT.of (f3 _ _ na1 na2 ha), rfl, _, _, rfl, _, _, rfl, rfl, ?_⟩
        refine ⟨.ref p, rfl, p, rfl, ⟨_, SqL.of (f3 _ _ np1 np2 hp)⟩, for_list (K := K) (a := p) (xs := nV (plcs (ws.map (·.2)) t)) (fun j σ H' => ∃ y8, σ = [some (.str (tabOf bs)), some (.ref wl), some (.ref wo), some (.int (gateV bs ws (-1))), some (.int acc.2), some (.ref ti), some (.int t), some (.ref p), y8] ∧ Fr wo ti HT H' ∧ H' wo = some (.lst ((flipsM (ws.map fun x => wv x (curM ms i)) ((plcs (ws.map (·.2)) t).take j)).map V.int)) ∧ H' ti = some (.lst (acc.1.map V.int)))
          ⟨_, rfl, f3, ho3, ht3⟩ (fun j σ H' _ ⟨_, _, z, _⟩ => SqL.of (z _ _ np1 np2 hp)) ?_ ?_⟩
        · rintro j v σ H4 hv ⟨y8, rfl, f4, ho4, ht4⟩
          obtain ⟨k, hk, rfl⟩ : ∃ k, (plcs (ws.map (·.2)) t)[j]? = some k ∧ v = V.int (k : Nat) := by
            obtain ⟨b, hb, rfl⟩ := vint_at hv
            rw [List.getElem?_map] at hb
            obtain ⟨k, hk, e⟩ := Option.map_eq_some_iff.mp hb
            exact ⟨k, hk, by rw [← e]; rfl⟩
          have kl : k < ws.length := by
            have := (plcs_mem.mp (List.mem_of_getElem? hk)).1
            rw [List.length_map] at this
            exact this
          generalize hF : flipsM (ws.map fun x => wv x (curM ms i)) ((plcs (ws.map (·.2)) t).take j) = F at ho4
          have lF : F.length = ws.length := by rw [← hF, flips_len, List.length_map]
          have hFk : F[k]? = some (F.getD k 0) := by rw [List.getD_eq_getElem?_getD, List.getElem?_eq_getElem (by omega)]; rfl
          refine ⟨.ref wo, rfl, .int (k : Nat), rfl, wo, _, ((k : Nat) : Int), .int (F.getD k 0), rfl, rfl, SqL.of ho4, atI_nat (by rw [List.getElem?_map, hFk]; rfl), _, _, rfl, rfl, .ref wo, rfl, .int (k : Nat), rfl, wo, _, _, k, rfl, rfl, ho4, ixN_k (by rw [List.length_map, lF]; exact kl), ?_⟩
          have nwt : ti ≠ wo := (ne_of_none ho nti).symm
          refine ⟨_, rfl, fun b o h1 h2 e => by rw [upd_ne h1]; exact f4 b o h1 h2 e, ?_, by rw [upd_ne nwt]; exact ht4⟩
          rw [upd_same, List.take_add_one, hk]
          show _ = some (HO.lst ((flipsM _ (_ ++ [k])).map V.int))
          rw [flips_snoc, hF, List.map_set]
        · rintro σ H4 ⟨y8, rfl, f4, ho4, ht4⟩
          rw [nV_len, List.take_length, flips_turn okw TA.rise TA.mem ht] at ho4
          have ec : curM ms (i + 1) = t := by
            unfold curM
            rw [if_neg (Nat.succ_ne_zero i), Nat.add_sub_cancel, List.getD_eq_getElem?_getD, ht]
            rfl
          have nwt : ti ≠ wo := (ne_of_none ho nti).symm
          have st := tinv_step f01 TA.rise con I ht
          have la : acc.1.length ≤ 40000 := by
            have := I.sub.length_le
            rw [List.length_take] at this
            omega
          refine ⟨.str (tabOf bs), rfl, .ref wo, rfl, bs, wo, _, rfl, SqL.of ho4, w01 t, hb' _, l3' _, .int acc.2, rfl, rfl, _, rfl, ite2 (fun e => ?_) (fun e => ?_)⟩
          · have ne : gateV bs ws t ≠ acc.2 := fun z => by
              have : (!decide (V.int (gateV bs ws t) = V.int acc.2)) = true := e
              rw [z, decide_eq_true rfl] at this
              cases this
            have e1 : gateV bs ws t = 1 - acc.2 := by
              have := f01 t
              have h2 := I.here
              omega
            have es : stepT (gateV bs ws) acc t = (acc.1 ++ [t], 1 - acc.2) := by
              unfold stepT
              rw [if_pos ne, e1]
            rw [es] at st
            refine ⟨.int acc.2, rfl, _, _, rfl, rfl, .ref ti, rfl, .inl ⟨rfl, _, SqL.of ht4⟩, .int t, rfl, ti, _, _, rfl, rfl, ht4, ?_, ?_⟩
            · rw [List.length_map]
              exact Nat.lt_of_le_of_lt la (by decide)
            refine ⟨(acc.1 ++ [t], 1 - acc.2), _, _, _, rfl, fun b o h1 h2 e => by rw [upd_ne h2]; exact f4 b o h1 h2 e, ?_, ?_, st⟩
            · rw [upd_ne nwt.symm, ec]
              exact ho4
            · rw [upd_same, List.map_append]
              rfl
          · have eq : gateV bs ws t = acc.2 := by
              apply Classical.byContradiction
              intro ne
              apply e
              show (!decide (V.int (gateV bs ws t) = V.int acc.2)) = true
              rw [decide_eq_false (fun z => ne (V.int.inj z))]
              rfl
            have es : stepT (gateV bs ws) acc t = acc := by
              unfold stepT
              rw [if_neg (fun z => z eq), eq]
            rw [es] at st
            refine ⟨acc, _, _, _, rfl, f4, ?_, ht4, st⟩
            rw [ec]
            exact ho4
      · rintro σ H3 ⟨acc, y6, y7, y8, rfl, f3, ho3, ht3, I⟩
        rw [TA.len] at I
        have W := gateV_end TA.rise lo I
        have s03 : Same H H3 := fun b o e => f3 b o (ne_of_none e nwo) (ne_of_none e nti0) ((s02.trans sT) b o e)
        refine ⟨.int (gateV bs ws (-1)), rfl, .ref ti, rfl, ti, _, rfl, .inl ⟨SqL.of ht3, fun tp ntp => ?_⟩⟩
        have s4 := same_upd (o := HO.tup (acc.1.map V.int)) ntp
        have h4 : upd H3 tp (HO.tup (acc.1.map V.int)) tp = some (.tup (acc.1.map V.int)) := upd_same
        generalize upd H3 tp (HO.tup (acc.1.map V.int)) = H4 at s4 h4 ⊢
        refine ⟨sl2, fun r nr => ?_⟩
        have s5 := same_upd (o := HO.tup [V.int (gateV bs ws (-1)), .ref tp]) nr
        exact q r _ (gateV bs ws (-1), acc.1) ((s03.trans s4).trans s5) (.tup upd_same (.cons (.int _) (.cons (.tup (s5 _ _ h4) (TkAll.ints _)) .nil))) W

end
end Gk

set_option Elab.async false
set_option linter.all false
set_option maxRecDepth 100000
set_option maxHeartbeats 1000000
set_option pp.maxSteps 1500
set_option pp.deepTerms false
namespace Gk
open PySem PySem.Spec PyProof.Rows L2
/-! ### a tuple told backwards: t[::-1]; and == against nothing -/
namespace TupRev
section
open PySem.W PySem.Calls HT
variable {prog : Program} {w : World} {A : Around} {E : Value → Shared → Prop} {s : Shared}
theorem adj_rev (n : Nat) : Builtin.Slice.sliceAdjust none none (-1) (n : Int) = ((n : Int) - 1, -1) := by
  first
    | rfl
    | simp [Builtin.Slice.sliceAdjust]
theorem places_rev (n : Nat) : Builtin.Slice.slicePlaces ((n : Int) - 1) (-1) (-1) = n := by
  unfold Builtin.Slice.slicePlaces
  by_cases h : n = 0
  · subst h
    decide
  · simp
    omega
theorem applied_rev {sl : Addr} {vl vu vs : Value} {n : Nat} {Q : Int × Int × Nat → Shared → Prop} (slice : s.heap.IsSliceOf sl vl vu vs) (pl : IsPart vl none) (pu : IsPart vu none) (ps : IsPart vs (some (-1))) (fin : Q ((n : Int) - 1, -1, n) s) :
    wpAny (model prog w) A (Builtin.Slice.sliceApplied (.ref sl) (pure (n : Int))) Q E s := by
  obtain ⟨o, ho, hc, parts⟩ := id slice
  unfold Builtin.Slice.sliceApplied Builtin.Slice.sliceFields
  refine wpAny_bind (wpAny_bind (wpAny_field ho parts (x := vl) rfl (wpAny_bind (wpAny_field ho parts (x := vu) rfl (wpAny_bind (wpAny_field ho parts (x := vs) rfl (wpAny_pure ?_)))))))
  refine wpAny_bind (slicePart_ ps ?_)
  show wpAny _ _ (if ((-1 : Int) == 0) = true then _ else _) _ _ s
  rw [if_neg (show ¬ _ by decide)]
  refine wpAny_bind (slicePart_ pl (wpAny_bind (slicePart_ pu (wpAny_bind (wpAny_pure (?_))))))
  show wpAny _ _ (match Builtin.Slice.sliceAdjust none none (-1) (n : Int) with | (a, b) => pure (a, (-1 : Int), Builtin.Slice.slicePlaces a b (-1))) _ _ s
  rw [adj_rev]
  show wpAny _ _ (pure ((n : Int) - 1, (-1 : Int), Builtin.Slice.slicePlaces ((n : Int) - 1) (-1) (-1))) _ _ s
  rw [places_rev]
  exact wpAny_pure fin
theorem pick_rev (xs : Array Value) : ((List.range xs.size).filterMap fun (k : Nat) => xs[((xs.size : Int) - 1 + (k : Int) * (-1)).toNat]?).toArray = xs.toList.reverse.toArray := by
  have e : ((List.range xs.size).filterMap fun (k : Nat) => xs[((xs.size : Int) - 1 + (k : Int) * (-1)).toNat]?) = ((List.range xs.size).map fun k => xs.size - 1 - k).filterMap (xs[·]?) := by
    rw [List.filterMap_map]
    congr 1
    funext k
    show xs[((xs.size : Int) - 1 + (k : Int) * (-1)).toNat]? = xs[xs.size - 1 - k]?
    rw [show ((xs.size : Int) - 1 + (k : Int) * (-1)).toNat = xs.size - 1 - k by omega]
  rw [e, krv_range, List.filterMap_reverse, krv_all]
theorem item_rev {t sl : Addr} {xs : Array Value} {vl vu vs : Value} {Q : Value → Shared → Prop} (tup : IsTup s.heap t xs) (slice : s.heap.IsSliceOf sl vl vu vs) (pl : IsPart vl none) (pu : IsPart vu none) (ps : IsPart vs (some (-1)))
    (fin : Q (.ref s.heap.objs.size) { s with heap := s.heap.push { cls := .type "tuple", data := .seq xs.toList.reverse.toArray } }) (few : xs.size ≤ sizeLine) : wpAny (model prog w) A (getItem (.ref t) (.ref sl)) Q E s := by
  have fits : sizeOk (.seq xs.toList.reverse.toArray) := by
    show xs.toList.reverse.toArray.size ≤ sizeLine
    rw [List.size_toArray, List.length_reverse, Array.length_toList]
    exact few
  obtain ⟨o, ho, hc, parts⟩ := id slice
  have ty : s.TypeIs (.ref sl) "slice" := ⟨o, ho, hc⟩
  unfold getItem
  (try with_reducible refine wpAny_holding (?_)); (first | refine wpAny_bind (wpAny_pure (?_)) | skip)
  refine wpAny_bind (wpAny_sequenceKey tup.typeIs (by decide) ?_)
  refine wpAny_bind (wpAny_callSpecial?_slot (name := Str.ofString "__getitem__") tup.typeIs PyProof.Rows.slot_tuple_getitem (wpAny_call_entry PyProof.Rows.slot_tuple_getitem tup.typeIs entry_tuple_getitem ?_ (args_tuple_getitem _ _)))
  show wpAny _ _ (Builtin.Tuple.tupleItemsOf (Value.ref t) >>= _) _ _ s
  refine wpAny_bind (tupleItemsOf_ tup (wpAny_bind (wpAny_typeOf ty ?_)))
  rw [if_pos (show _ by decide)]
  refine wpAny_bind (applied_rev slice pl pu ps ?_)
  have no : ¬ ((((xs.size : Int) - 1) == 0 && (-1 : Int) == 1 && xs.size == xs.size) = true) := by
    intro z
    rw [Bool.and_eq_true, Bool.and_eq_true] at z
    have := z.1.2
    revert this
    decide
  show wpAny _ _ (if ((((xs.size : Int) - 1) == 0 && (-1 : Int) == 1 && xs.size == xs.size)) = true then _ else _) _ _ s
  rw [if_neg no, pick_rev]
  first
    | exact wpAny_bind (m := Builtin.Tuple.tupleExact _) (wpAny_newObj_type (wpAny_pure ⟨_, rfl, wpAny_pure fin⟩) fits)
    | exact wpAny_bind (m := Builtin.Tuple.tupleExact _) (wpAny_newObj_type (wpAny_bind (wpAny_pure (wpAny_pure ⟨_, rfl, wpAny_pure fin⟩))) fits)
    | exact wpAny_bind (wpAny_bind (m := Builtin.Tuple.tupleExact _) (wpAny_newObj_type (wpAny_pure (wpAny_pure ⟨_, rfl, wpAny_pure fin⟩)) fits))
    | exact wpAny_bind (wpAny_bind (m := Builtin.Tuple.tupleExact _) (wpAny_newObj_type (wpAny_pure ⟨_, rfl, wpAny_pure fin⟩) fits))
end
section
variable {X : Cx}
def tRevT (K : PySem.W.Frag) (te : TE) : TE := fun σ H Q => te σ H fun x H1 => ∃ a xs, x = .ref a ∧ SqT K H1 a xs ∧ ∀ p, H1 p = none → Q (.ref p) (upd H1 p (.tup xs.reverse))
theorem pe_revT {e : Expr} {te : TE} {k : Nat} {p1 p2 p3 pos : Pos} (he : PE X e te) : PE X (.Subscript e (.Slice none none (some (.UnaryOp .USub (.Constant (.int 1) k p1) p2)) p3) pos) (tRevT X.K te) := by
  refine ⟨fun pins s σ H Q I told => Subscript_ (thn (he.run pins s σ H _ I told) ?_)⟩
  rintro v s1 ⟨x, H1, I1, r1, a, xs, rfl, tup, q⟩
  cases r1
  have back : PO X (some (.UnaryOp .USub (.Constant (.int 1) k p1) p2)) (tPart (tUn (rU fun i => .int (-i)) (tC (.int 1)))) := po_some (pe_un un_neg pe_int)
  refine wpAny_Slice (thn (po_none.run pins s1 σ H1 (fun o H2 => o = none ∧ H2 = H1) I1 ⟨rfl, rfl⟩) ?_)
  rintro vl s2 ⟨l, H2, I2, pl, rfl, rfl⟩
  refine thn (po_none.run pins s2 σ H2 (fun o H3 => o = none ∧ H3 = H2) I2 ⟨rfl, rfl⟩) ?_
  rintro vu s3 ⟨u, H3, I3, pu, rfl, rfl⟩
  refine thn (back.run pins s3 σ H3 (fun o H4 => o = some (-1) ∧ H4 = H3) I3 ⟨1, rfl, -1, rfl, rfl, rfl⟩) ?_
  rintro vs s4 ⟨o, H4, I4, ps, rfl, rfl⟩
  have J : Inv X pins σ H4 { s4 with heap := s4.heap.push { cls := .type "slice", data := .fields #[vl, vu, vs] } } := I4.kept (t' := s4.toks) fun b ob z => Heap.get?_push_of_some _ z
  obtain ⟨us, r, ht, few⟩ := J.tuple tup
  have ln := r.length
  show wpAny (model X.prog X.w) X.A (subscriptTail e (.Slice none none (some (.UnaryOp .USub (.Constant (.int 1) k p1) p2)) p3) (.ref a) (.ref s4.heap.objs.size)) (EP X pins σ Q) _ _
  refine tail_any (ops := [.ref a, .ref s4.heap.objs.size]) ht.typeIs (PyProof.Rows.slot_tuple_getitem.lookup) ?_ (by with_unfolding_all rfl)
  refine item_rev ht (Heap.IsSliceOf.new _ vl vu vs) pl pu ps ?_ (by rw [List.size_toArray]; omega)
  refine ⟨.ref _, _, J.laid (t' := s4.toks) (o := .tup xs.reverse) (fun b ob z => Heap.get?_push_of_some _ z) (Nat.le_refl _) ?_, rfl, q _ (J.hok.fresh (Nat.le_refl _))⟩
  exact ⟨by rw [List.length_reverse]; exact few, _, r.reverse, IsTup.new _ _⟩
/-- t == () of any tuple -/
def rEqE (K : PySem.W.Frag) : R2 := fun x y H Q => ∃ a b xs, x = .ref a ∧ y = .ref b ∧ SqT K H a xs ∧ SqT K H b [] ∧ Q (.bl xs.isEmpty) H
theorem op_eqE (hu : X.A.units + 64 < cLine) : OpR X (compareOp .Eq) (rEqE X.K) := by
  intro pins s σ H x y v u Q I rx ry h
  obtain ⟨a, b, xs, rfl, rfl, ha, hb, q⟩ := h
  cases rx
  cases ry
  obtain ⟨us, r1, t1, _⟩ := I.tuple ha
  obtain ⟨ws, r2, t2, _⟩ := I.tuple hb
  cases r2
  refine SeqAt.eq_tupleAt (items2 := #[]) (e := fun _ => true) t1 t2 (by omega) (fun j _ h2 => absurd h2 (Nat.not_lt_zero _)) ?_
  have : ((List.range (min us.toArray.size (#[] : Array Value).size)).all (fun _ => true) && us.toArray.size == (#[] : Array Value).size) = xs.isEmpty := by
    cases r1 with
    | nil => rfl
    | cons _ _ => simp
  show EP X pins σ Q (.bool ((List.range (min us.toArray.size (#[] : Array Value).size)).all (fun _ => true) && us.toArray.size == (#[] : Array Value).size)) s
  rw [this]
  exact ⟨.bl _, H, I, rfl, q⟩
/-- l == [] of any list -/
def rEqN (K : PySem.W.Frag) : R2 := fun x y H Q => ∃ a b xs, x = .ref a ∧ y = .ref b ∧ SqL K H a xs ∧ SqL K H b [] ∧ Q (.bl xs.isEmpty) H
theorem op_eqN (hu : X.A.units + 64 < cLine) : OpR X (compareOp .Eq) (rEqN X.K) := by
  intro pins s σ H x y v u Q I rx ry h
  obtain ⟨a, b, xs, rfl, rfl, ha, hb, q⟩ := h
  cases rx
  cases ry
  obtain ⟨us, r1, t1, _⟩ := I.list ha
  obtain ⟨ws, r2, t2, _⟩ := I.list hb
  cases r2
  cases r1 with
  | nil => exact SeqAt.eq_listAt (e := fun _ => true) t1.isList t2.isList rfl (by omega) (fun j h1 _ => absurd h1 (Nat.not_lt_zero _)) ⟨.bl true, H, I, rfl, q⟩
  | cons _ _ => exact SeqAt.eq_list_lengthsAt t1.isList t2.isList (by simp) (by omega) ⟨.bl false, H, I, rfl, q⟩
end
end TupRev

section
variable {P : Program} {w : World} {K : PySem.W.Frag} {mg : Str → Option Value} {base : Heap}
def rRepS : V → V → Hp → VK → Prop := fun x y H Q => ∃ (z : Str) (n : Int), x = .str z ∧ y = .int n ∧ z.length ≤ 16 ∧ 0 ≤ n ∧ n ≤ 1048576 ∧ Q (.str (Txt.mul z n)) H
theorem op_repS {X : Cx} : OpR X (binaryOp .Mult) rRepS := by
  intro pins s σ H x y v u Q I rx ry h
  obtain ⟨i, j, rfl, rfl, h1, h2, h3, q⟩ := h
  obtain ⟨t, rfl⟩ := rx
  obtain ⟨t', rfl⟩ := ry
  exact SB.mul (mulOk_of 16 1048576 h1 h3 (by omega) (by decide) (by decide)) fun t' tk => ⟨.str _, H, I.tok _, ⟨_, rfl⟩, q⟩

/-! ### the wave of a form -/
/-- all grows but the list at L, which is written -/
def GL (L : Addr) (H H' : Hp) : Prop := Gr (hd1 L H) (hd1 L H')
theorem GL.refl {L : Addr} {H : Hp} : GL L H H := Gr.refl
theorem GL.trans {L : Addr} {H H1 H2 : Hp} (a : GL L H H1) (b : GL L H1 H2) : GL L H H2 := Gr.trans a b
theorem GL.of {L : Addr} {H H' : Hp} (s : Same H H') : GL L H H' := Gr.of (hd1_same s)
theorem GL.gr {L : Addr} {xs : List V} {H H' : Hp} (hL : H L = some (.lst xs)) (g : Gr H H') : GL L H H' := hd1_gr g fun P ⟨ps, e, _⟩ z => by
  subst z
  rw [hL] at e
  cases e
theorem GL.upd {L : Addr} {H : Hp} {o : HO} : GL L H (upd H L o) := Gr.of hd1_upd
theorem GL.ts {L : Addr} {xs : List V} {H H' : Hp} (hL : H L = some (.lst xs)) (g : GL L H H') : Ts H H' := fun b ys e => by
  have n : b ≠ L := ne_of e hL (by intro z; cases z)
  have z : hd1 L H b = some (.tup ys) := by rw [hd1_at n]; exact e
  exact hd1_le _ _ (g.tup z)
theorem GL.tab {L P : Addr} {xs : List V} {H H' : Hp} (hL : H L = some (.lst xs)) (g : GL L H H') (t : GxR.TabG H P) : GxR.TabG H' P := by
  have t1 : GxR.TabG (hd1 L H) P := TabG_hd1 t fun z => by
    obtain ⟨ps, e, _⟩ := t
    subst z
    rw [hL] at e
    cases e
  exact (Gr.of hd1_le).2 _ (g.2 _ t1)
def GLD (L D : Addr) (H H' : Hp) : Prop := Gr (hd1 L H) (hd1 D (hd1 L H'))
theorem GLD.gl {L D : Addr} {H H' : Hp} (g : GLD L D H H') : GL L H H' := Gr.trans g (Gr.of hd1_le)
theorem GLD.new {L D : Addr} {H : Hp} {o : HO} (n : H D = none) : GLD L D H (upd H D o) := Gr.of fun b u e => by
  have e' : H b = some u := hd1_le _ _ e
  have bD : b ≠ D := ne_of_none e' n
  have bL : b ≠ L := fun z => by
    subst z
    unfold hd1 at e
    rw [if_pos rfl] at e
    cases e
  rw [hd1_at bD, hd1_at bL, upd_ne bD]
  exact e'
theorem GLD.then {L D : Addr} {H H1 H2 : Hp} {xs : List V} {o : HO} (g : GLD L D H H1) (hD : H1 D = some (.lst xs)) (k : GL L H1 H2) (n : L ≠ D) : GLD L D H (upd H2 D o) := by
  have a : Gr (hd1 D (hd1 L H1)) (hd1 D (hd1 L H2)) := hd1_gr k fun P ⟨ps, e, _⟩ z => by
    subst z
    rw [hd1_at n.symm, hD] at e
    cases e
  refine Gr.trans (Gr.trans g a) (Gr.of fun b u e => ?_)
  have bD : b ≠ D := fun z => by
    subst z
    unfold hd1 at e
    rw [if_pos rfl] at e
    cases e
  have bL : b ≠ L := fun z => by
    subst z
    rw [hd1_at bD] at e
    unfold hd1 at e
    rw [if_pos rfl] at e
    cases e
  rw [hd1_at bD, hd1_at bL] at e ⊢
  rw [upd_ne bD]
  exact e
theorem noL_ints : ∀ l : List Int, noLs (l.map PyData.int) = true
  | [] => rfl
  | _ :: r => noL_ints r
theorem noL_wv (x : Int × List Int) : noL (wvD x) = true := by
  show (true && (noLs (x.2.map PyData.int) && true)) = true
  rw [noL_ints]
  rfl
def sp_form_table (K : PySem.W.Frag) : Sp := fun vs H Q _ => ∃ (v : V) (f : Fm) (m : Nat), vs = [v] ∧ Tk H v f.d ∧ f.ok m = true ∧ f.inner ≠ [] ∧ Q (.str (tabOf f.tb)) H
theorem ok_form_table (T : Tx w K mg) : FnOk P w K mg base CX0 1 T.f_form_table T.fd_form_table ["form"] (sp_form_table K) := by
  refine T.F_form_table.ok sc_form_table (fun vs H Q E h => ?_) (fun cdv A outer s H vs Q E hr h => ?_)
  · obtain ⟨v, f, m, rfl, _⟩ := h
    rfl
  · obtain ⟨v, f, m, rfl, tk, ok, ne, q⟩ := h
    refine ⟨_, (pss_cons (ps_if (pt_cmpR op_eq (pe_ix ix_tup (pv 0) pe_int (fun _ _ => rfl)) pe_str (nomark _)) (pss_one (ps_ret pe_str)) pss_nil) (pss_cons (ps_set (i := 1) sc_form_table.nd rfl (by first | exact .inl rfl | exact .inr rfl) (pe_op op_sub (pe_op op_shl pe_int (pe_callB call_len_seq (by rfl) T.m_len PySem.boot_len (pa_cons (pe_ix ix_tup (pv 0) pe_int (fun _ _ => rfl)) pa_nil))) pe_int)) (pss_one (ps_ret (pe_ifExp (pt_cmpR op_eq (pe_ix ix_tup (pv 0) pe_int (fun _ _ => rfl)) pe_str (nomark _)) (pe_op op_add_str (pe_op op_repS pe_str (pv 1)) pe_str) (pe_op op_add_str pe_str (pe_op op_repS pe_str (pv 1)))))))), ?_⟩
    cases f with
    | st _ => exact absurd rfl ne
    | inp _ => exact absurd rfl ne
    | no f =>
      obtain ⟨a, w', rfl, ha, _⟩ := Fm.tk_no tk
      exact ⟨.ref a, rfl, a, _, 0, .str wNot, rfl, rfl, SqT.of ha, rfl, rfl, _, rfl, iteT q⟩
    | op c fs =>
      obtain ⟨a, b, ys, rfl, ha, hb, ty⟩ := Fm.tk_op tk
      have ok : ((decide (2 ≤ fs.length) && decide (fs.length ≤ 4)) && Fm.oks m fs) = true := ok
      rw [Bool.and_eq_true, Bool.and_eq_true, decide_eq_true_eq, decide_eq_true_eq] at ok
      have ly : ys.length = fs.length := by rw [ty.length, List.length_map]
      have q : Q (.str (tabOf (opT c fs.length))) H := q
      refine ⟨.ref a, rfl, a, _, 0, .str (wOp c), rfl, rfl, SqT.of ha, rfl, rfl, _, rfl, ite2 (fun e => absurd (V.str.inj (of_decide_eq_true e)) (by cases c <;> decide +kernel)) (fun _ => ?_)⟩
      refine ⟨.ref a, rfl, a, _, 1, .ref b, rfl, rfl, SqT.of ha, rfl, b, ys, rfl, .inr (SqT.of hb), 1, (ys.length : Nat), rfl, rfl, ⟨by omega, by omega, by decide⟩, _, 1, rfl, rfl, ?_⟩
      rw [ly]
      have e16 : (1 : Int) * 2 ^ ((fs.length : Nat) : Int).toNat - 1 = ((2 ^ fs.length - 1 : Nat) : Int) := by
        have : 0 < 2 ^ fs.length := Nat.pow_pos (by decide)
        rw [Int.toNat_natCast, Int.one_mul]
        have : ((2 ^ fs.length : Nat) : Int) = (2 : Int) ^ fs.length := by simp
        omega
      show gName 1 (V.int (1 * 2 ^ ((fs.length : Nat) : Int).toNat - 1)) _ _ _
      rw [e16]
      have r15 : 2 ^ fs.length - 1 ≤ 15 := by
        rcases (show fs.length = 2 ∨ fs.length = 3 ∨ fs.length = 4 by omega) with z | z | z <;> rw [z] <;> decide
      refine ⟨.ref a, rfl, a, _, 0, .str (wOp c), rfl, rfl, SqT.of ha, rfl, rfl, _, rfl, ?_⟩
      cases c with
      | true =>
        refine iteT ?_
        refine ⟨.int ((2 ^ fs.length - 1 : Nat) : Int), rfl, _, _, rfl, rfl, by decide, by omega, by omega, _, _, rfl, rfl, ?_, ?_⟩
        · rcases (show fs.length = 2 ∨ fs.length = 3 ∨ fs.length = 4 by omega) with z | z | z <;> rw [z] <;> decide +kernel
        have e : Txt.mul (Str.ofString "0") ((2 ^ fs.length - 1 : Nat) : Int) ++ Str.ofString "1" = tabOf (opT true fs.length) := by
          rcases (show fs.length = 2 ∨ fs.length = 3 ∨ fs.length = 4 by omega) with z | z | z <;> rw [z] <;> decide +kernel
        rw [e]
        exact q
      | false =>
        refine ite2 (fun e => absurd (V.str.inj (of_decide_eq_true e)) (by decide +kernel)) (fun _ => ?_)
        refine ⟨.int ((2 ^ fs.length - 1 : Nat) : Int), rfl, _, _, rfl, rfl, by decide, by omega, by omega, _, _, rfl, rfl, ?_, ?_⟩
        · rcases (show fs.length = 2 ∨ fs.length = 3 ∨ fs.length = 4 by omega) with z | z | z <;> rw [z] <;> decide +kernel
        have e : Str.ofString "0" ++ Txt.mul (Str.ofString "1") ((2 ^ fs.length - 1 : Nat) : Int) = tabOf (opT false fs.length) := by
          rcases (show fs.length = 2 ∨ fs.length = 3 ∨ fs.length = 4 by omega) with z | z | z <;> rw [z] <;> decide +kernel
        rw [e]
        exact q
def sp_wave_from (T : Tx w K mg) (e : Nat) : Sp := fun vs H Q _ => ∃ (v c : V) (L : Addr) (f : Fm) (m : Nat) (a b ds : List Int), vs = [v, .ref L, c] ∧ Tk H v f.d ∧ f.ok m = true ∧ f.dep ≤ e ∧ H L = some (.lst (ds.reverse.map V.int)) ∧ f.ins ≤ ds.length ∧ (∀ d ∈ ds, 0 ≤ d) ∧ f.cnt ≤ 1000 ∧ Tk H c (chD a b) ∧ a.length = m ∧ b.length = m ∧ Row01 a ∧ Row01 b ∧ GxR.TabG H T.P_later ∧
  ∀ r H' x, GL L H H' → H' L = some (.lst ((ds.drop f.ins).reverse.map V.int)) → Tk H' (.ref r) (wvD x) → Wv x (fun t => f.vt a b t ds) → Q (.ref r) H'
theorem ok_wave_fromE (T : Tx w K mg) (B : Tb base T) : ∀ e : Nat, FnOk P w K mg base CX0 (e + 3) T.f_wave_from T.fd_wave_from ["form", "lates", "change"] (sp_wave_from T e)
  | 0 => ⟨fun _ _ _ _ h => by obtain ⟨_, _, _, f, _, _, _, _, _, _, _, h, _⟩ := h; exact absurd h (by have := Fm.dep_pos f; omega), fun _ _ _ _ _ _ _ _ _ _ _ _ _ h => by obtain ⟨_, _, _, f, _, _, _, _, _, _, _, h, _⟩ := h; exact absurd h (by have := Fm.dep_pos f; omega)⟩
  | e + 1 => by
    have ih := ok_wave_fromE T B e
    refine T.F_wave_from.ok sc_wave_from (fun vs H Q E h => ?_) (fun cdv A outer s H vs Q E hr h => ?_)
    · obtain ⟨v, c, L, f, m, a, b, ds, rfl, _⟩ := h
      rfl
    · obtain ⟨v, c, L, f, m, a, b, ds, rfl, tk, ok, de, hL, il, d0, cf, tc, la, lb, a01, b01, tab, q⟩ := h
      refine ⟨_, (pss_cons (ps_asg (pv 2) (pg_tup rfl (pgs_cons (pg_name (i := 3) sc_wave_from.nd rfl (by first | exact .inl rfl | exact .inr rfl)) (pgs_cons (pg_name (i := 4) sc_wave_from.nd rfl (by first | exact .inl rfl | exact .inr rfl)) pgs_nil)))) (pss_cons (ps_if (pt_cmpR op_eq (pe_ix ix_tup (pv 0) pe_int (fun _ _ => rfl)) pe_str (nomark _)) (pss_one (ps_ret (pe_call (ok_later T B) (hr.mono (by omega)) (by rfl) T.g_later T.F_later.kp T.b_later .nil pass0 (pa_cons (pe_call (ok_input_wave T) (hr.mono (by omega)) (by rfl) T.g_input_wave T.F_input_wave.kp T.b_input_wave .nil pass0 (pa_cons (pe_ix ix_tup (pv 3) (pe_ix ix_tup (pv 0) pe_int (fun _ _ => rfl)) (fun _ _ => rfl)) (pa_cons (pe_ix ix_tup (pv 4) (pe_ix ix_tup (pv 0) pe_int (fun _ _ => rfl)) (fun _ _ => rfl)) pa_nil))) (pa_cons (pe_bm0 PySem.F.plainAttrs_list PySem.F.slot_list_pop PySem.F.type_list_pop mt_pop (pv 1)) pa_nil))))) pss_nil) (pss_cons (ps_set (i := 5) sc_wave_from.nd rfl (by first | exact .inl rfl | exact .inr rfl) (pe_call (ok_still_worth T) (hr.mono (by omega)) (by rfl) T.g_still_worth T.F_still_worth.kp T.b_still_worth .nil pass0 (pa_cons (pv 0) pa_nil))) (pss_cons (ps_if (pt_cmpR op_notN (pv 5) pe_non (nomark _)) (pss_one (ps_ret (pe_tup (pa_cons (pv 5) (pa_cons (pe_tup pa_nil) pa_nil))))) pss_nil) (pss_one (ps_ret (pe_call (ok_gate_wave T) (hr.mono (by omega)) (by rfl) T.g_gate_wave T.F_gate_wave.kp T.b_gate_wave .nil pass0 (pa_cons (pe_call (ok_form_table T) (hr.mono (by omega)) (by rfl) T.g_form_table T.F_form_table.kp T.b_form_table .nil pass0 (pa_cons (pv 0) pa_nil)) (pa_cons (pe_lc (own := [("part", 6)]) (by rfl) sc_wave_from.nd (pi_tup (pe_call (ok_inner_of T) (hr.mono (by omega)) (by rfl) T.g_inner_of T.F_inner_of.kp T.b_inner_of .nil pass0 (pa_cons (pv 0) pa_nil))) (blkOk_by (own := [("part", 6)]) (N := ["form", "lates", "change", "a", "b", "still", "part"]) (sc := defScope s_wave_from) (by decide +kernel)) (fun _ _ _ _ _ => (pg_name (i := 6) sc_wave_from.nd rfl (by first | exact .inl rfl | exact .inr rfl))) (fun _ _ _ _ _ => pts_nil) (fun _ _ _ _ _ => (pe_call (ih) (hr.mono (by omega)) (by rfl) T.g_wave_from T.F_wave_from.kp T.b_wave_from .nil pass0 (pa_cons (pv 6) (pa_cons (pv 1) (pa_cons (pv 2) pa_nil)))))) pa_nil))))))))), ?_⟩
      obtain ⟨c, ra, rb, rfl, hc, hra, hrb⟩ := tc.ch_inv
      refine ⟨.ref c, rfl, c, _, rfl, SqT.of hc, rfl, _, _, rfl, _, _, rfl, rfl, ?_⟩
      have key : (∃ b, f = .st b) ∨ (∃ i, f = .inp i) ∨ f.inner ≠ [] ∧ ∃ a z rest, v = .ref a ∧ H a = some (.tup (.str z :: rest)) ∧ z ≠ wIn ∧ z ≠ wOne ∧ z ≠ wNou := by
        cases f with
        | st b => exact .inl ⟨b, rfl⟩
        | inp i => exact .inr (.inl ⟨i, rfl⟩)
        | no f =>
          obtain ⟨a, w', rfl, ha, _⟩ := Fm.tk_no tk
          exact .inr (.inr ⟨List.cons_ne_nil _ _, a, _, _, rfl, ha, by decide +kernel, by decide +kernel, by decide +kernel⟩)
        | op c fs =>
          obtain ⟨a, b, ys, rfl, ha, _⟩ := Fm.tk_op tk
          refine .inr (.inr ⟨fun z => ?_, a, _, _, rfl, ha, by cases c <;> decide +kernel, by cases c <;> decide +kernel, by cases c <;> decide +kernel⟩)
          have z : fs = [] := z
          subst z
          cases ok
      rcases key with ⟨b', rfl⟩ | ⟨i, rfl⟩ | ⟨ne, ad, z, rest, rfl, ha, n1, n2, n3⟩
      · obtain ⟨ad, rfl, ha⟩ := Fm.tk_st tk
        refine ⟨.ref ad, rfl, ad, _, 0, .str (wSt b'), rfl, rfl, SqT.of ha, rfl, rfl, _, rfl, ite2 (fun e => absurd (V.str.inj (of_decide_eq_true e)) (by cases b' <;> decide +kernel)) (fun _ => ?_)⟩
        have fin : ∀ x : Int, x = (if b' = true then 1 else 0) → ∀ p0, H p0 = none → ∀ r H', H' r = some (.tup [.int x, .ref p0]) → Same H H' → H' p0 = some (.tup []) → Q (.ref r) H' := fun x hx p0 _ r H' hr' s1 h0 => by
          refine q r H' (x, []) (GL.of s1) (s1 _ _ hL) (.tup hr' (.cons (.int _) (.cons (.tup h0 .nil) .nil))) ⟨fun t => ?_, (fun t ht => by cases ht), .nil, ?_⟩
          · show (x + ((cnt [] t : Nat) : Int)) % 2 = (if b' = true then 1 else 0)
            rw [hx]
            cases b' <;> rfl
          · show x = 0 ∨ x = 1
            rw [hx]
            cases b' <;> simp
        have go : ∀ x : Int, x = (if b' = true then 1 else 0) → ∀ p0, H p0 = none → ∀ r, upd H p0 (.tup []) r = none → Q (.ref r) (upd (upd H p0 (.tup [])) r (.tup [.int x, .ref p0])) := fun x hx p0 n0 r nr => fin x hx p0 n0 r _ upd_same ((same_upd n0).trans (same_upd nr)) (same_upd nr _ _ upd_same)
        refine ⟨.ref ad, rfl, ad, _, _, rfl, ha, fun e => ?_, fun e => ?_, fun e1 e2 => ?_⟩
        · cases b'
          · exact absurd e (by decide +kernel)
          · exact ⟨_, rfl, rfl, _, rfl, ite2 (fun _ => ⟨_, rfl, Nat.zero_le _, fun p0 n0 => ⟨sl2, fun r nr => go 1 rfl p0 n0 r nr⟩⟩) (fun k => absurd rfl k)⟩
        · cases b'
          · exact ⟨_, rfl, rfl, _, rfl, ite2 (fun _ => ⟨_, rfl, Nat.zero_le _, fun p0 n0 => ⟨sl2, fun r nr => go 0 rfl p0 n0 r nr⟩⟩) (fun k => absurd rfl k)⟩
          · exact absurd e (by decide +kernel)
        · cases b'
          · exact absurd rfl e2
          · exact absurd rfl e1
      · obtain ⟨ad, rfl, ha⟩ := Fm.tk_inp tk
        refine ⟨.ref ad, rfl, ad, _, 0, .str wIn, rfl, rfl, SqT.of ha, rfl, rfl, _, rfl, ite2 (fun _ => ?_) (fun k => absurd (decide_eq_true rfl) k)⟩
        have hi : i < m := of_decide_eq_true ok
        have ata : atI (a.map V.int) (i : Int) = some (.int (a.getD i 0)) := atI_nat (by rw [List.getElem?_map, List.getD_eq_getElem?_getD, List.getElem?_eq_getElem (by omega)]; rfl)
        have atb : atI (b.map V.int) (i : Int) = some (.int (b.getD i 0)) := atI_nat (by rw [List.getElem?_map, List.getD_eq_getElem?_getD, List.getElem?_eq_getElem (by omega)]; rfl)
        obtain ⟨d, dr, rfl⟩ : ∃ d dr, ds = d :: dr := by
          cases ds with
          | nil => exact absurd il (by show ¬ 1 ≤ 0; decide)
          | cons d dr => exact ⟨d, dr, rfl⟩
        refine ⟨.ref ra, rfl, .ref ad, rfl, ad, _, 1, .int i, rfl, rfl, SqT.of ha, rfl, ra, _, i, _, rfl, rfl, SqT.of hra, ata, .ref rb, rfl, .ref ad, rfl, ad, _, 1, .int i, rfl, rfl, SqT.of ha, rfl, rb, _, i, _, rfl, rfl, SqT.of hrb, atb, ?_⟩
        refine ⟨_, _, rfl, fun r1 H1 s1 t1 => ?_⟩
        have eL : (dr.reverse ++ [d]).map V.int = (d :: dr).reverse.map V.int := by rw [List.reverse_cons]
        have hL1 : H1 L = some (.lst ((dr.reverse ++ [d]).map V.int)) := by rw [eL]; exact s1 _ _ hL
        refine ⟨.ref L, rfl, .inl ⟨rfl, _, SqL.of hL1⟩, L, _, .int d, rfl, rfl, hL1, by simp, ?_⟩
        have dl : ((dr.reverse ++ [d]).map V.int).dropLast = dr.reverse.map V.int := by rw [List.map_append]; exact List.dropLast_concat
        rw [dl]
        have nL : r1 ≠ L := fun z => by
          obtain ⟨p, xs, e, hp, _⟩ := t1.tup_inv
          cases e
          rw [z, hL1] at hp
          cases hp
        have g2 : GL L H (upd H1 L (.lst (dr.reverse.map V.int))) := (GL.of s1).trans GL.upd
        have h2 : upd H1 L (.lst (dr.reverse.map V.int)) L = some (.lst (dr.reverse.map V.int)) := upd_same
        have t2 := t1.ts (Ts.set (ys := dr.reverse.map V.int) hL1) (noL_wv _)
        generalize upd H1 L (.lst (dr.reverse.map V.int)) = H2 at g2 h2 t2 ⊢
        refine ⟨r1, (a.getD i 0, InWave (a.getD i 0) (b.getD i 0)), d, rfl, t2, ?_, GL.tab hL g2 tab, fun r3 H3 g3 t3 => ?_⟩
        · unfold InWave
          show (if a.getD i 0 = b.getD i 0 then ([] : List Int) else [0]).length ≤ 1000000
          split
          · exact Nat.zero_le _
          · show 1 ≤ 1000000; decide
        refine q r3 H3 _ (g2.trans (GL.gr h2 g3)) (g3.lst h2) t3 (((in_wv (row_get a01 i) (row_get b01 i)).shift (d0 d List.mem_cons_self)).ext fun t => ?_)
        show (if 0 ≤ t - d then b.getD i 0 else a.getD i 0) = (if d ≤ t then b.getD i 0 else a.getD i 0)
        by_cases z : d ≤ t
        · rw [if_pos z, if_pos (by omega)]
        · rw [if_neg z, if_neg (by omega)]
      · refine ⟨.ref ad, rfl, ad, _, ((0 : Nat) : Int), .str z, rfl, rfl, SqT.of ha, atI_nat rfl, rfl, _, rfl, ite2 (fun e => absurd (V.str.inj (of_decide_eq_true e)) n1) (fun _ => ?_)⟩
        refine ⟨.ref ad, rfl, ad, z, rest, rfl, ha, fun e => absurd e n2, fun e => absurd e n3, fun _ _ => ?_⟩
        refine ⟨_, rfl, rfl, _, rfl, ite2 (fun k => by cases k) (fun _ => ?_)⟩
        refine ⟨.ref ad, rfl, .ref ad, f, m, rfl, tk, ok, ne, ?_⟩
        refine ⟨.ref ad, rfl, .ref ad, f, rfl, tk, fun H1 b0 xs s1 hb0 txs => ⟨b0, rfl, ⟨_, SqT.of hb0⟩, fun D nD => ?_⟩⟩
        have lxs : xs.length = f.inner.length := by rw [txs.length, List.length_map]
        obtain ⟨ltb, few⟩ := Fm.tb_len ok ne
        have cst := Fm.cnt_eq f
        have hL1 := s1 _ _ hL
        have tc1 := tc.same s1
        have tab1 := (Gr.of s1).2 _ tab
        have DL : L ≠ D := ne_of_none hL1 nD
        have ins := Fm.inner_ins f ne
        refine lc_tup (K := K) (a := b0) (xs := xs) (fun i H' => GLD L D H1 H' ∧ H' L = some (.lst ((ds.drop (Fm.inss (f.inner.take i))).reverse.map V.int)) ∧ ∃ vs ws, H' D = some (.lst vs) ∧ TkAll H' vs (ws.map wvD) ∧ ws.length = i ∧ (∀ x ∈ ws, Wv x (wv x) ∧ x.2.length ≤ 10000) ∧ ∀ t, (ws.map fun x => wv x t) = Fm.vts a b t (f.inner.take i) ds)
          ⟨GLD.new nD, by rw [upd_ne DL]; exact hL1, [], [], upd_same, .nil, rfl, (fun x hx => by cases hx), fun t => rfl⟩ (fun i H' _ hP => SqT.of (hP.1.gl.ts hL1 _ _ hb0)) ?_ ?_
        · rintro i u H2 hu ⟨g2, hL2, vs, ws, hD, tws, lw, okw, val⟩
          obtain ⟨g, hg, tg⟩ := txs.at hu
          have gm := List.mem_of_getElem? hg
          have gi := (List.getElem?_eq_some_iff.mp hg).1
          have ts12 := g2.gl.ts hL1
          have etk : f.inner.take (i + 1) = f.inner.take i ++ [g] := by rw [List.take_add_one, hg]; rfl
          have esum : Fm.inss (f.inner.take (i + 1)) = Fm.inss (f.inner.take i) + g.ins := by rw [etk, Fm.inss_app]; rfl
          have esum2 : Fm.inss (f.inner.take (i + 1)) ≤ f.ins := by
            rw [← ins]
            have := Fm.inss_app (f.inner.take (i + 1)) (f.inner.drop (i + 1))
            rw [List.take_append_drop] at this
            omega
          have gc : g.cnt ≤ f.cnt := by have := Fm.cnts_mem gm; omega
          have lg : g.ins ≤ (ds.drop (Fm.inss (f.inner.take i))).length := by rw [List.length_drop]; omega
          refine ⟨rfl, u, rfl, .ref L, rfl, .ref c, rfl, u, .ref c, L, g, m, a, b, ds.drop (Fm.inss (f.inner.take i)), rfl, tg.ts ts12 (Fm.noL g), Fm.inner_ok ok gm, by have := Fm.inner_dep gm; omega, hL2, lg, fun d hd => d0 d (List.mem_of_mem_drop hd), by omega, tc1.ts ts12 (noL_ch a b), la, lb, a01, b01, g2.gl.tab hL1 tab1, fun r H3 x g3 hL3 t3 W3 => ?_⟩
          have hD3 : H3 D = some (.lst vs) := hd1_le _ _ (g3.lst (show hd1 L H2 D = some (.lst vs) by rw [hd1_at DL.symm]; exact hD))
          refine ⟨vs, hD3, ?_, g2.then hD g3 DL, by rw [upd_ne DL, hL3, esum, List.drop_drop], vs ++ [.ref r], ws ++ [x], upd_same, ?_, by rw [List.length_append, lw]; rfl, fun y hy => ?_, fun t => ?_⟩
          · rw [tws.length, List.length_map, lw]
            exact Nat.lt_of_lt_of_le (show i < 64 by omega) (by decide)
          · rw [List.map_append]
            exact ((tws.ts (g3.ts hL2) (noLs_map noL_wv _)).ts (Ts.set hD3) (noLs_map noL_wv _)).append (.cons (t3.ts (Ts.set hD3) (noL_wv _)) .nil)
          · rcases List.mem_append.mp hy with z | z
            · exact okw y z
            · rw [List.mem_singleton.mp z]
              refine ⟨W3.self, ?_⟩
              have := Fm.wave_few lg W3
              have := Fm.ins_cnt g
              omega
          · rw [List.map_append, val t, etk, Fm.vts_snoc]
            congr 1
            show [wv x t] = _
            rw [W3.at_ t]
        rintro H2 ⟨g2, hL2, vs, ws, hD, tws, lw, okw, val⟩
        rw [lxs] at lw
        rw [lxs, List.take_length, ins] at hL2
        refine ⟨f.tb, D, vs, ws, rfl, hD, tws, by rw [lw]; exact ltb, by omega, okw, fun r H3 y s3 t3 W3 => ?_⟩
        refine q r H3 y (((GL.of s1).trans g2.gl).trans (GL.of s3)) (s3 _ _ hL2) t3 (W3.ext fun t => ?_)
        show gateM f.tb (ws.map fun x => wv x t) = f.vt a b t ds
        rw [val t, lxs, List.take_length]
        exact (Fm.vt_gate a01 b01 ok ne t ds).symm
theorem ok_wave_from (T : Tx w K mg) (B : Tb base T) : FnOk P w K mg base CX0 25 T.f_wave_from T.fd_wave_from ["form", "lates", "change"] (sp_wave_from T 22) := ok_wave_fromE T B 22
def sp_form_wave (T : Tx w K mg) : Sp := fun vs H Q _ => ∃ (v c : V) (dp : Addr) (f : Fm) (m : Nat) (a b ds : List Int), vs = [v, .ref dp, c] ∧ Tk H v f.d ∧ f.ok m = true ∧ f.dep ≤ 22 ∧ H dp = some (.tup (ds.map V.int)) ∧ f.ins ≤ ds.length ∧ ds.length ≤ 1000 ∧ (∀ d ∈ ds, 0 ≤ d) ∧ f.cnt ≤ 1000 ∧ Tk H c (chD a b) ∧ a.length = m ∧ b.length = m ∧ Row01 a ∧ Row01 b ∧ GxR.TabG H T.P_later ∧
  ∀ r H' x, Gr H H' → Tk H' (.ref r) (wvD x) → Wv x (fun t => f.vt a b t ds) → Q (.ref r) H'
theorem ok_form_wave (T : Tx w K mg) (B : Tb base T) : FnOk P w K mg base CX0 26 T.f_form_wave T.fd_form_wave ["form", "delays", "change"] (sp_form_wave T) := by
  refine T.F_form_wave.ok sc_form_wave (fun vs H Q E h => ?_) (fun cdv A outer s H vs Q E hr h => ?_)
  · obtain ⟨v, c, dp, f, m, a, b, ds, rfl, _⟩ := h
    rfl
  · obtain ⟨v, c, dp, f, m, a, b, ds, rfl, tk, ok, de, hdp, il, ll, d0, cf, tc, la, lb, a01, b01, tab, q⟩ := h
    refine ⟨_, (pss_one (ps_ret (pe_call (ok_wave_from T B) (hr.mono (by decide)) (by rfl) T.g_wave_from T.F_wave_from.kp T.b_wave_from .nil pass0 (pa_cons (pv 0) (pa_cons (pe_callTy call_list_of (by rfl) T.m_list (by decide +kernel) (pa_cons (TupRev.pe_revT (pv 1)) pa_nil)) (pa_cons (pv 2) pa_nil)))))), ?_⟩
    refine ⟨v, rfl, .ref dp, rfl, dp, _, rfl, SqT.of hdp, fun r1 n1 => ?_⟩
    have s1 := same_upd (o := (HO.tup (ds.map V.int).reverse)) n1
    have h1 : upd H r1 (HO.tup (ds.map V.int).reverse) r1 = some (HO.tup (ds.map V.int).reverse) := upd_same
    generalize upd H r1 (HO.tup (ds.map V.int).reverse) = H1 at s1 h1 ⊢
    refine ⟨r1, _, rfl, .inr (SqT.of h1), fun L nL => ?_⟩
    have s2 := same_upd (o := (HO.lst (ds.map V.int).reverse)) nL
    have h2 : upd H1 L (HO.lst (ds.map V.int).reverse) L = some (HO.lst (ds.map V.int).reverse) := upd_same
    generalize upd H1 L (HO.lst (ds.map V.int).reverse) = H2 at s2 h2 ⊢
    have s02 := s1.trans s2
    have hL : H2 L = some (.lst (ds.reverse.map V.int)) := by rw [h2, List.map_reverse]
    have nL0 : H L = none := none_of_same s1 nL
    refine ⟨c, rfl, v, c, L, f, m, a, b, ds, rfl, tk.same s02, ok, de, hL, il, d0, cf, tc.same s02, la, lb, a01, b01, (Gr.of s02).2 _ tab, fun r H3 x g3 hL3 t3 W3 => ?_⟩
    refine q r H3 x ?_ t3 W3
    have g0 : Gr H (hd1 L H2) := Gr.of (hd1_of s02 nL0)
    exact Gr.trans (Gr.trans g0 g3) (Gr.of hd1_le)

end
end Gk

set_option Elab.async false
set_option linter.all false
set_option maxRecDepth 100000
set_option maxHeartbeats 1000000
set_option pp.maxSteps 1500
set_option pp.deepTerms false
namespace Gk
open PySem PySem.Spec PyProof.Rows L2
/-! ### zip of two or three texts, tuples, lists -/
namespace ZpG
open PySem PySem.Spec PyProof.Rows L2
inductive ZS where
  | tx (x : PySem.Str)
  | tu (a : Addr)
  | li (a : Addr)
def ZS.val : ZS → V
  | .tx x => .str x
  | .tu a => .ref a
  | .li a => .ref a
def ZS.at (K : PySem.W.Frag) : ZS → Hp → List V → Prop
  | .tx x, _, xs => xs = x.cps.toList.map fun c => V.str ⟨#[c]⟩
  | .tu a, H, xs => SqT K H a xs
  | .li a, H, xs => SqL K H a xs
def ZS.it : ZS → Addr → Nat → Heap → Prop
  | .tx x, it, i, h => ∃ t, h.IsStrIter it (strIterType x) x t i
  | .tu a, it, i, h => h.IsTupleIter it a i
  | .li a, it, i, h => h.IsListIter it a i
def ZS.lt : ZS → Nat → Prop
  | .tx _, _ => True
  | .tu a, n => a < n
  | .li a, n => a < n
def ZS.off : ZS → Addr → Prop
  | .tx _, _ => True
  | .tu a, c => a ≠ c
  | .li a, c => a ≠ c
theorem ne' {a b : Nat} (h : a ≠ b) : @Ne Addr a b := h
theorem ZS.off_of {n c : Nat} (hc : n ≤ c) : ∀ {z : ZS}, z.lt n → z.off c
  | .tx _, _ => trivial
  | .tu _, h => Nat.ne_of_lt (Nat.lt_of_lt_of_le h hc)
  | .li _, h => Nat.ne_of_lt (Nat.lt_of_lt_of_le h hc)
theorem ZS.obj {it : Addr} {i : Nat} {h : Heap} : ∀ {z : ZS}, z.it it i h → ∃ o, h.get? it = some o ∧ ∀ v, o.data ≠ .cell v
  | .tx _, ⟨_, o, e, _, d⟩ => ⟨o, e, fun v q => by rw [d] at q; cases q⟩
  | .tu _, ⟨o, e, _, d⟩ => ⟨o, e, fun v q => by rw [d] at q; cases q⟩
  | .li _, ⟨o, e, _, d⟩ => ⟨o, e, fun v q => by rw [d] at q; cases q⟩
theorem ZS.move {it : Addr} {i : Nat} {h h' : Heap} (k : ∀ o, h.get? it = some o → h'.get? it = some o) : ∀ {z : ZS}, z.it it i h → z.it it i h'
  | .tx _, ⟨t, o, e, r⟩ => ⟨t, o, k o e, r⟩
  | .tu _, ⟨o, e, r⟩ => ⟨o, k o e, r⟩
  | .li _, ⟨o, e, r⟩ => ⟨o, k o e, r⟩
section
variable {X : Cx} {pins : List (Addr × Obj)} {σ : L2.St} {H : Hp} {s : Shared}
theorem ZS.inj (I : Inv X pins σ H s) {z : ZS} {xs ys : List V} (h1 : z.at X.K H xs) (h2 : z.at X.K H ys) : xs = ys := by
  cases z with
  | tx x =>
    have e1 : xs = _ := h1
    have e2 : ys = _ := h2
    rw [e1, e2]
  | tu a => exact I.tuple_inj h1 h2
  | li a => exact I.list_inj h1 h2
theorem ZS.draws {A : Around} {it : Addr} {i : Nat} {xs : List V} (z : ZS) (I : Inv X pins σ H s) (hq : z.at X.K H xs) (hh : A.handled = none) (off : z.off it) (st : z.it it i s.heap) :
    ∃ (fp : List Addr) (P : Nat → Value → Prop) (St : Nat → Heap → Prop), Draws X.prog X.w A it fp xs.length P St ∧ it ∈ fp ∧ (∀ c, c ∈ fp → c = it ∨ ¬ z.off c) ∧ St i s.heap ∧ (∀ j h, St j h → z.it it j h) ∧ ∀ j v, P j v → ∃ x, xs[j]? = some x ∧ RelV x v := by
  cases z with
  | tx x =>
    obtain ⟨t, st⟩ := st
    have e : xs = x.cps.toList.map fun c => V.str ⟨#[c]⟩ := hq
    have el : xs.length = x.cps.size := by rw [e, List.length_map, Array.length_toList]
    refine ⟨[it], fun i v => ∃ c u, x.cps[i]? = some c ∧ v = .str ⟨#[c]⟩ u, fun i h => h.IsStrIter it (strIterType x) x t i, ?_, List.mem_cons_self, fun c hc => .inl (List.mem_singleton.mp hc), st, fun j h q => ⟨t, q⟩, fun j v p => ?_⟩
    · rw [el]
      exact Draws.text hh it x t
    · obtain ⟨c, u, hc, rfl⟩ := p
      refine ⟨.str ⟨#[c]⟩, ?_, ⟨u, rfl⟩⟩
      rw [e, List.getElem?_map, Array.getElem?_toList, hc]
      rfl
  | tu a =>
    obtain ⟨its, rv, p, _⟩ := I.tuple hq
    have hl := rv.length
    refine ⟨[it, a], fun i v => its.toArray[i]? = some v, fun i h => h.IsTupleIter it a i ∧ h.IsTuple a its.toArray, ?_, List.mem_cons_self, fun c hc => ?_, ⟨st, p⟩, fun j h q => q.1, fun j v q => ?_⟩
    · rw [hl, ← List.size_toArray]
      exact Draws.tuple hh it a off its.toArray
    · rcases List.mem_cons.mp hc with e | e
      · exact .inl e
      · refine .inr fun q => ?_
        rw [List.mem_singleton.mp e] at q
        exact q rfl
    · have q : its[j]? = some v := by simpa using q
      have hj := (List.getElem?_eq_some_iff.mp q).1
      have hx : xs[j]? = some (xs[j]'(by omega)) := List.getElem?_eq_getElem _
      obtain ⟨u, hu, ru⟩ := rv.get hx
      rw [q] at hu
      cases Option.some.inj hu
      exact ⟨_, hx, ru⟩
  | li a =>
    obtain ⟨its, rv, p, _⟩ := I.list hq
    have hl := rv.length
    refine ⟨[it, a], fun i v => its.toArray[i]? = some v, fun i h => h.IsListIter it a i ∧ h.IsList a its.toArray, ?_, List.mem_cons_self, fun c hc => ?_, ⟨st, p.isList⟩, fun j h q => q.1, fun j v q => ?_⟩
    · rw [hl, ← List.size_toArray]
      exact Draws.list hh it a off its.toArray
    · rcases List.mem_cons.mp hc with e | e
      · exact .inl e
      · refine .inr fun q => ?_
        rw [List.mem_singleton.mp e] at q
        exact q rfl
    · have q : its[j]? = some v := by simpa using q
      have hj := (List.getElem?_eq_some_iff.mp q).1
      have hx : xs[j]? = some (xs[j]'(by omega)) := List.getElem?_eq_getElem _
      obtain ⟨u, hu, ru⟩ := rv.get hx
      rw [q] at hu
      cases Option.some.inj hu
      exact ⟨_, hx, ru⟩
theorem ZS.begins {v : Value} {xs : List V} (z : ZS) (I : Inv X pins σ H s) (hq : z.at X.K H xs) (r : RelV z.val v) : ∃ o Hh, Begins v o Hh ∧ Hh s.heap ∧ (∀ it h, h.get? it = some o → z.it it 0 h) ∧ z.lt s.heap.objs.size := by
  cases z with
  | tx x =>
    obtain ⟨t, rfl⟩ := (show ∃ t, v = Value.str x t from r)
    exact ⟨_, _, begins_text x t, trivial, fun it h e => ⟨t, _, e, rfl, rfl⟩, trivial⟩
  | tu a =>
    cases (show v = Value.ref a from r)
    obtain ⟨its, rv, p, _⟩ := I.tuple hq
    obtain ⟨o1, ho1, _⟩ := id p
    exact ⟨_, _, begins_tuple a its.toArray, p, fun it h e => ⟨_, e, rfl, rfl⟩, Heap.lt_size ho1⟩
  | li a =>
    cases (show v = Value.ref a from r)
    obtain ⟨its, rv, p, _⟩ := I.list hq
    exact ⟨_, _, begins_list a its.toArray, p.isList, fun it h e => ⟨_, e, rfl, rfl⟩, p.lt⟩
end
def Itz2 (K : PySem.W.Frag) (z1 z2 : ZS) : It :=
  ⟨fun i H => ∃ (xs1 xs2 : List V) (x1 x2 : V), z1.at K H xs1 ∧ z2.at K H xs2 ∧ xs1[i]? = some x1 ∧ xs2[i]? = some x2,
    fun i H v H' => ∃ T x1 x2, v = .ref T ∧ H T = none ∧ H' = upd H T (.tup [x1, x2]) ∧ (∀ xs, z1.at K H xs → xs[i]? = some x1) ∧ (∀ xs, z2.at K H xs → xs[i]? = some x2),
    fun i H => ∃ xs1 xs2 : List V, z1.at K H xs1 ∧ z2.at K H xs2 ∧ i ≤ xs1.length ∧ i ≤ xs2.length ∧ (i = xs1.length ∨ i = xs2.length)⟩
theorem turn_zip2 {P : Program} {w : World} {K : PySem.W.Frag} {elts : List Expr} {kk : Nat} {tpos : Pos} {z1 z2 : ZS} {n : Nat} (l1 : z1.lt n) (l2 : z2.lt n) :
    Turn P w K (.Tuple elts kk tpos) (Itz2 K z1 z2) [n + 4, n + 2, n + 3, n, n + 1] (n + 4) (fun i h => IsZip h (n + 4) (n + 2) (n + 3) .none ∧ IsTupOf2 h (n + 2) (.ref (n)) (.ref (n + 1)) ∧ (∃ x1 x2, IsTupOf2 h (n + 3) x1 x2) ∧ z1.it (n) i h ∧ z2.it (n + 1) i h) where
  mem := List.mem_cons_self
  obj := fun i h st c hc => by
    obtain ⟨hz, hTI, ⟨x1, x2, hTO⟩, st1, st2⟩ := st
    have e' : c = n + 4 ∨ c = n + 2 ∨ c = n + 3 ∨ c = n ∨ c = n + 1 := by simpa using hc
    rcases e' with q | q | q | q | q
    · rw [q]; exact ⟨_, hz, fun v q => nomatch q⟩
    · rw [q]; exact ⟨_, hTI, fun v q => nomatch q⟩
    · rw [q]; exact ⟨_, hTO, fun v q => nomatch q⟩
    · rw [q]; exact ZS.obj (z := z1) st1
    · rw [q]; exact ZS.obj (z := z2) st2
  keep := fun i h h' st k => by
    obtain ⟨hz, hTI, ⟨x1, x2, hTO⟩, st1, st2⟩ := st
    exact ⟨k _ (by simp) _ hz, k _ (by simp) _ hTI, ⟨x1, x2, k _ (by simp) _ hTO⟩, ZS.move (z := z1) (fun o q => k _ (by simp) o q) st1, ZS.move (z := z2) (fun o q => k _ (by simp) o q) st2⟩
  item := by
    intro X hP hw hK hc i pins s σ H E I hf st hg
    subst hP hw hK
    obtain ⟨hz, hTI, ⟨y1, y2, hTO⟩, st1, st2⟩ := st
    obtain ⟨xs1, xs2, x1, x2, q1, q2, h1, h2⟩ := hg
    have hh : X.A.in1.handled = none := I.ok.hd hc
    obtain ⟨fp1, P1, St1, D1, m1, f1, s1, b1, p1⟩ := z1.draws (A := X.A.in1) I q1 hh (ZS.off_of (by omega) l1) st1
    have nf1 : ∀ c, n ≤ c → c ≠ n → c ∉ fp1 := fun c h1 h2 h3 => by
      rcases f1 c h3 with e | e
      · exact h2 e
      · exact e (ZS.off_of h1 l1)
    obtain ⟨fp2, P2, St2, D2, m2, f2, s2, b2, p2⟩ := z2.draws (A := X.A.in1) I q2 hh (ZS.off_of (by omega) l2) st2
    have nf2 : ∀ c, n ≤ c → c ≠ n + 1 → c ∉ fp2 := fun c h1 h2 h3 => by
      rcases f2 c h3 with e | e
      · exact h2 e
      · exact e (ZS.off_of h1 l2)
    have t1 : i < xs1.length := (List.getElem?_eq_some_iff.mp h1).1
    have t2 : i < xs2.length := (List.getElem?_eq_some_iff.mp h2).1
    have hzl : n + 4 < s.heap.objs.size := Heap.lt_size hz
    have S : ZipSep2 (n + 4) (n + 2) (n + 3) (n) (n + 1) fp1 fp2 := { TIz := (ne' (a := n + 2) (b := n + 4) (by omega)), TOz := (ne' (a := n + 3) (b := n + 4) (by omega)), TITO := (ne' (a := n + 2) (b := n + 3) (by omega)), TIi1 := (ne' (a := n + 2) (b := n) (by omega)), mem1 := m1, zf1 := nf1 (n + 4) (by omega) (ne' (a := n + 4) (b := n) (by omega)), Tf1 := nf1 (n + 3) (by omega) (ne' (a := n + 3) (b := n) (by omega)), TIi2 := (ne' (a := n + 2) (b := n + 1) (by omega)), mem2 := m2, zf2 := nf2 (n + 4) (by omega) (ne' (a := n + 4) (b := n + 1) (by omega)), Tf2 := nf2 (n + 3) (by omega) (ne' (a := n + 3) (b := n + 1) (by omega)), sep1_2 := nf2 (n) (by omega) (ne' (a := n) (b := n + 1) (by omega)), sep2_1 := nf1 (n + 1) (by omega) (ne' (a := n + 1) (b := n) (by omega)) }
    refine wpAny_pyNext_zipD2_item S D1 D2 hz hTI hTO s1 s2 t1 t2 fun u1 u2 h' tk g1 g2 z' TO' w1 w2 hT hsz hk => ?_
    refine ⟨_, rfl, wpAny_letOwnedTupleGo_zip (s := { s with heap := h', toks := tk }) z' fun h'' z'' sb => ?_⟩
    obtain ⟨x1', e1, ru1⟩ := p1 i u1 g1
    rw [h1] at e1
    cases Option.some.inj e1
    obtain ⟨x2', e2, ru2⟩ := p2 i u2 g2
    rw [h2] at e2
    cases Option.some.inj e2
    have hT2 : h''.get? s.heap.objs.size = some { cls := .type "tuple", data := .seq #[u1, u2] } := (sb.2 _ (Nat.ne_of_gt hzl)).trans hT
    have new : ObjOk X.prog X.w (upd H s.heap.objs.size (.tup [x1, x2])) h'' s.heap.objs.size (.tup [x1, x2]) :=
      ⟨by show 2 ≤ sizeLine; decide, [u1, u2], .cons ru1 (.cons ru2 (.nil)), ⟨_, hT2, rfl, _, rfl⟩⟩
    have out5 : ∀ c, c ∉ [n + 4, n + 2, n + 3, n, n + 1] → c ≠ n + 4 ∧ c ≠ n + 3 ∧ c ≠ n ∧ c ≠ n + 1 := fun c hb => ⟨fun q' => hb (by simp [q']), fun q' => hb (by simp [q']), fun q' => hb (by simp [q']), fun q' => hb (by simp [q'])⟩
    have I1 : Inv X pins σ (upd H s.heap.objs.size (.tup [x1, x2])) { s with heap := h'', toks := tk } :=
      I.turnedNew (t' := tk) (ch := [n + 4, n + 2, n + 3, n, n + 1]) (fun c o hb q => by
        obtain ⟨a1, a2, b1', b2'⟩ := out5 c hb
        exact (sb.2 c a1).trans (hk c o a1 a2 b1' b2' q)) hf (Nat.le_refl _) new
    refine ⟨.ref s.heap.objs.size, _, I1, rfl, ⟨_, x1, x2, rfl, I.hok.fresh (Nat.le_refl _), rfl, fun l hl => by rw [ZS.inj I hl q1]; exact h1, fun l hl => by rw [ZS.inj I hl q2]; exact h2⟩, ⟨z'', ?_, ⟨u1, u2, ?_⟩, ?_, ?_⟩, fun c hcm => ?_⟩
    · exact (sb.2 (n + 2) (ne' (a := n + 2) (b := n + 4) (by omega))).trans (hk (n + 2) _ (ne' (a := n + 2) (b := n + 4) (by omega)) (ne' (a := n + 2) (b := n + 3) (by omega)) (ne' (a := n + 2) (b := n) (by omega)) (ne' (a := n + 2) (b := n + 1) (by omega)) hTI)
    · exact (sb.2 (n + 3) (ne' (a := n + 3) (b := n + 4) (by omega))).trans TO'
    · exact ZS.move (z := z1) (fun o q => (sb.2 (n) (ne' (a := n) (b := n + 4) (by omega))).trans q) (b1 _ _ w1)
    · exact ZS.move (z := z2) (fun o q => (sb.2 (n + 1) (ne' (a := n + 1) (b := n + 4) (by omega))).trans q) (b2 _ _ w2)
    · have hlt : c < s.heap.objs.size := by
        have e' : c = n + 4 ∨ c = n + 2 ∨ c = n + 3 ∨ c = n ∨ c = n + 1 := by simpa using hcm
        rcases e' with q | q | q | q | q
        · rw [q]; exact (show (n + 4 : Nat) < s.heap.objs.size by omega)
        · rw [q]; exact (show (n + 2 : Nat) < s.heap.objs.size by omega)
        · rw [q]; exact (show (n + 3 : Nat) < s.heap.objs.size by omega)
        · rw [q]; exact (show (n : Nat) < s.heap.objs.size by omega)
        · rw [q]; exact (show (n + 1 : Nat) < s.heap.objs.size by omega)
      rw [upd_ne (Nat.ne_of_lt hlt)]
      exact (hf c hcm).1
  done := by
    intro X hP hw hK hc i pins s σ H E I hf st hg
    subst hP hw hK
    obtain ⟨hz, hTI, ⟨y1, y2, hTO⟩, st1, st2⟩ := st
    obtain ⟨xs1, xs2, q1, q2, t1, t2, hend⟩ := hg
    have hh : X.A.in1.handled = none := I.ok.hd hc
    obtain ⟨fp1, P1, St1, D1, m1, f1, s1, b1, p1⟩ := z1.draws (A := X.A.in1) I q1 hh (ZS.off_of (by omega) l1) st1
    have nf1 : ∀ c, n ≤ c → c ≠ n → c ∉ fp1 := fun c h1 h2 h3 => by
      rcases f1 c h3 with e | e
      · exact h2 e
      · exact e (ZS.off_of h1 l1)
    obtain ⟨fp2, P2, St2, D2, m2, f2, s2, b2, p2⟩ := z2.draws (A := X.A.in1) I q2 hh (ZS.off_of (by omega) l2) st2
    have nf2 : ∀ c, n ≤ c → c ≠ n + 1 → c ∉ fp2 := fun c h1 h2 h3 => by
      rcases f2 c h3 with e | e
      · exact h2 e
      · exact e (ZS.off_of h1 l2)
    have S : ZipSep2 (n + 4) (n + 2) (n + 3) (n) (n + 1) fp1 fp2 := { TIz := (ne' (a := n + 2) (b := n + 4) (by omega)), TOz := (ne' (a := n + 3) (b := n + 4) (by omega)), TITO := (ne' (a := n + 2) (b := n + 3) (by omega)), TIi1 := (ne' (a := n + 2) (b := n) (by omega)), mem1 := m1, zf1 := nf1 (n + 4) (by omega) (ne' (a := n + 4) (b := n) (by omega)), Tf1 := nf1 (n + 3) (by omega) (ne' (a := n + 3) (b := n) (by omega)), TIi2 := (ne' (a := n + 2) (b := n + 1) (by omega)), mem2 := m2, zf2 := nf2 (n + 4) (by omega) (ne' (a := n + 4) (b := n + 1) (by omega)), Tf2 := nf2 (n + 3) (by omega) (ne' (a := n + 3) (b := n + 1) (by omega)), sep1_2 := nf2 (n) (by omega) (ne' (a := n) (b := n + 1) (by omega)), sep2_1 := nf1 (n + 1) (by omega) (ne' (a := n + 1) (b := n) (by omega)) }
    exact wpAny_pyNext_zipD2_end S D1 D2 hz hTI hTO s1 s2 t1 t2 hend fun h' tk hk => ⟨rfl, I.turnedL (t' := tk) (ch := [n + 4, n + 2, n + 3, n, n + 1]) (fun c o hb q =>
      hk c o (fun q' => hb (by simp [q'])) (fun q' => hb (by simp [q'])) (fun q' => hb (by simp [q'])) (fun q' => hb (by simp [q'])) q) hf⟩
  self := fun A i s Q E st h => wpAny_pyIter_zip st.1 h
def iZip2 (K : PySem.W.Frag) (ta : TA) : TI := fun σ H R => ta σ H fun vs H1 => ∃ (z1 z2 : ZS) (xs1 xs2 : List V), vs = [z1.val, z2.val] ∧ z1.at K H1 xs1 ∧ z2.at K H1 xs2 ∧ R (Itz2 K z1 z2) H1
theorem pi_zip2 {X : Cx} {e e2 : Expr} {ta : TA} {p pos tpos : Pos} {elts : List Expr} {kk : Nat} (hg : Gl X "zip") (hm : X.mg "zip" = none) (ha : PA X [e, e2] ta)
    (hs : starEach [e, e2] X.env = (false, eval e X.env) :: starEach [e2] X.env := by rfl) (hpl : (backTo pos (starEach [e2] X.env)).any (·.1) = false := by rfl) :
    PI X (.Tuple elts kk tpos) (.Call (.Name "zip" p) [e, e2] [] pos) (iZip2 X.K ta) := by
  refine ⟨fun pins s σ H R I h => ?_⟩
  refine Call_ (ld_blt I hg hm PyProof.Rows.boot_zip (PyProof.Rows.callWith_type1 (thn (ha.run pos pins s σ H _ I h) fun us s1 ⟨vs, H1, I1, r1, q1⟩ => ?_) hs hpl))
  obtain ⟨z1, z2, xs1, xs2, ex, q1, q2, q⟩ := q1
  subst ex
  cases r1 with
  | cons r1 rr =>
    cases rr with
    | cons r2 rr =>
      cases rr
      obtain ⟨o1, G1, B1, h1, i1, l1⟩ := z1.begins I1 q1 r1
      obtain ⟨o2, G2, B2, h2, i2, l2⟩ := z2.begins I1 q2 r2
      have fresh5 : ∀ c, c ∈ [s1.heap.objs.size + 4, s1.heap.objs.size + 2, s1.heap.objs.size + 3, s1.heap.objs.size, s1.heap.objs.size + 1] → FpOk X pins H1 c := fun c hcm => by
        have e' : c = s1.heap.objs.size + 4 ∨ c = s1.heap.objs.size + 2 ∨ c = s1.heap.objs.size + 3 ∨ c = s1.heap.objs.size ∨ c = s1.heap.objs.size + 1 := by simpa using hcm
        have hle : s1.heap.objs.size ≤ c := by omega
        exact I1.fpOk hle (I1.hok.fresh hle)
      refine zip_begins2 B1 B2 h1 h2 fun h' hz hTI hTO g1 g2 hsz hk => wpAny_pyIter_zip hz ?_
      have I2 : Inv X pins σ H1 { s1 with heap := h' } := I1.kept (t' := s1.toks) hk
      exact ⟨s1.heap.objs.size + 4, [s1.heap.objs.size + 4, s1.heap.objs.size + 2, s1.heap.objs.size + 3, s1.heap.objs.size, s1.heap.objs.size + 1], _, _, H1, rfl, I2, turn_zip2 l1 l2, ⟨hz, hTI, ⟨_, _, hTO⟩, i1 _ _ g1, i2 _ _ g2⟩, fresh5, q⟩
theorem for_zip2 {K : PySem.W.Frag} {z1 z2 : ZS} {xs1 xs2 : List V} {n : Nat} {g : TG} {tb : TS} {D : Ends} {σ : L2.St} {H : Hp} (n1 : xs1.length = n) (n2 : xs2.length = n) (Pv : Nat → L2.St → Hp → Prop) (h0 : Pv 0 σ H) (hl : ∀ i σ H, i ≤ n → Pv i σ H → z1.at K H xs1 ∧ z2.at K H xs2)
    (hs : ∀ (i : Nat) (x1 x2 : V) (T : Addr) (σ : L2.St) (H : Hp), xs1[i]? = some x1 → xs2[i]? = some x2 → H T = none → Pv i σ H → g (.ref T) σ (upd H T (.tup [x1, x2])) fun σ2 H2 => tb { D with nx := Pv (i + 1), ct := Pv (i + 1), bk := D.nx } σ2 H2) (hd : ∀ σ H, Pv n σ H → D.nx σ H) :
    ∃ W : Nat → Nat → L2.St → Hp → Prop, (∃ m, W 0 m σ H) ∧ ∀ i m σ H, W i m σ H →
      ((Itz2 K z1 z2).stop i H ∧ D.nx σ H) ∨ ((Itz2 K z1 z2).go i H ∧ ∃ N : L2.St → Hp → Prop, (∀ σ' H', N σ' H' → ∃ m', m' < m ∧ W (i + 1) m' σ' H') ∧ ∀ v H', (Itz2 K z1 z2).yld i H v H' → g v σ H' fun σ2 H2 => tb { D with nx := N, ct := N, bk := D.nx } σ2 H2) := by
  refine ⟨fun i m σ H => m = n - i ∧ i ≤ n ∧ Pv i σ H, ⟨n, rfl, Nat.zero_le _, h0⟩, ?_⟩
  rintro i m σ H ⟨rfl, hi, p⟩
  obtain ⟨q1, q2⟩ := hl i σ H hi p
  by_cases hlt : i < n
  · have e1 : xs1[i]? = some (xs1[i]'(by omega)) := List.getElem?_eq_getElem _
    have e2 : xs2[i]? = some (xs2[i]'(by omega)) := List.getElem?_eq_getElem _
    refine .inr ⟨⟨xs1, xs2, _, _, q1, q2, e1, e2⟩, Pv (i + 1), fun σ' H' p' => ⟨n - (i + 1), by omega, rfl, hlt, p'⟩, fun v H' y => ?_⟩
    obtain ⟨T, y1, y2, rfl, hT, rfl, f1, f2⟩ := y
    exact hs i y1 y2 T σ H (f1 xs1 q1) (f2 xs2 q2) hT p
  · have e : i = n := by omega
    subst e
    exact .inl ⟨⟨xs1, xs2, q1, q2, by omega, by omega, .inl (by omega)⟩, hd σ H p⟩
theorem lc_zip2 {K : PySem.W.Frag} {z1 z2 : ZS} {xs1 xs2 : List V} {n : Nat} {g : TG} {tt : TT} {te : TE} {vs : List Nat} {σ : L2.St} {H1 : Hp} {D : Addr} {Qd : Hp → Prop} (n1 : xs1.length = n) (n2 : xs2.length = n) (Pv : Nat → Hp → Prop) (h0 : Pv 0 (upd H1 D (.lst []))) (hl : ∀ i H, i ≤ n → Pv i H → z1.at K H xs1 ∧ z2.at K H xs2)
    (hs : ∀ (i : Nat) (x1 x2 : V) (T : Addr) (H : Hp), xs1[i]? = some x1 → xs2[i]? = some x2 → H T = none → Pv i H → g (.ref T) (wipe σ vs) (upd H T (.tup [x1, x2])) fun σ2 H2 => wipe σ2 vs = wipe σ vs ∧ tt σ2 H2 fun b H3 =>
      if b = true then te σ2 H3 fun y H4 => ∃ acc, H4 D = some (.lst acc) ∧ acc.length < sizeLine ∧ Pv (i + 1) (upd H4 D (.lst (acc ++ [y]))) else Pv (i + 1) H3) (hd : ∀ H, Pv n H → Qd H) :
    ∃ W : Nat → Nat → Hp → Prop, (∃ m, W 0 m (upd H1 D (.lst []))) ∧ ∀ i m H, W i m H →
      ((Itz2 K z1 z2).stop i H ∧ Qd H) ∨ ((Itz2 K z1 z2).go i H ∧ ∃ Nx : Hp → Prop, (∀ H', Nx H' → ∃ m', m' < m ∧ W (i + 1) m' H') ∧ ∀ x H', (Itz2 K z1 z2).yld i H x H' → g x (wipe σ vs) H' fun σ2 H2 => wipe σ2 vs = wipe σ vs ∧ tt σ2 H2 fun b H3 =>
        if b = true then te σ2 H3 fun y H4 => ∃ acc, H4 D = some (.lst acc) ∧ acc.length < sizeLine ∧ Nx (upd H4 D (.lst (acc ++ [y]))) else Nx H3) := by
  refine ⟨fun i m H => m = n - i ∧ i ≤ n ∧ Pv i H, ⟨n, by simp, Nat.zero_le _, h0⟩, ?_⟩
  rintro i m H ⟨rfl, hi, p⟩
  obtain ⟨q1, q2⟩ := hl i H hi p
  by_cases hlt : i < n
  · have e1 : xs1[i]? = some (xs1[i]'(by omega)) := List.getElem?_eq_getElem _
    have e2 : xs2[i]? = some (xs2[i]'(by omega)) := List.getElem?_eq_getElem _
    refine .inr ⟨⟨xs1, xs2, _, _, q1, q2, e1, e2⟩, Pv (i + 1), fun H' p' => ⟨n - (i + 1), by omega, rfl, hlt, p'⟩, fun v H' y => ?_⟩
    obtain ⟨T, y1, y2, rfl, hT, rfl, f1, f2⟩ := y
    exact hs i y1 y2 T H (f1 xs1 q1) (f2 xs2 q2) hT p
  · have e : i = n := by omega
    subst e
    exact .inl ⟨⟨xs1, xs2, q1, q2, by omega, by omega, .inl (by omega)⟩, hd H p⟩
theorem gx_zip2 {α : Type} {K : PySem.W.Frag} {z1 z2 : ZS} {xs1 xs2 : List V} {n : Nat} {g : TG} {tt : TT} {te : TE} {vs : List Nat} {σ0 : L2.St} {End : α → Hp → Prop} {Yd : α → V → Hp → (α → Hp → Prop) → Prop} {a0 : α} {H0 : Hp} (n1 : xs1.length = n) (n2 : xs2.length = n) (Pv : Nat → α → Hp → Prop) (h0 : Pv 0 a0 H0) (hl : ∀ i c H, i ≤ n → Pv i c H → z1.at K H xs1 ∧ z2.at K H xs2)
    (hs : ∀ (i : Nat) (x1 x2 : V) (T : Addr) (c : α) (H : Hp), xs1[i]? = some x1 → xs2[i]? = some x2 → H T = none → Pv i c H → g (.ref T) σ0 (upd H T (.tup [x1, x2])) fun σ2 H2 => wipe σ2 vs = σ0 ∧ tt σ2 H2 fun b H3 => if b = true then te σ2 H3 fun y H4 => Yd c y H4 (Pv (i + 1)) else Pv (i + 1) c H3) (hd : ∀ c H, Pv n c H → End c H) :
    ∃ W : Nat → Nat → α → Hp → Prop, (∃ m, W 0 m a0 H0) ∧ tGx (Itz2 K z1 z2) g tt te σ0 vs End Yd W := by
  refine ⟨fun i m c H => m = n - i ∧ i ≤ n ∧ Pv i c H, ⟨n, rfl, Nat.zero_le _, h0⟩, ?_⟩
  rintro i m c H ⟨rfl, hi, p⟩
  obtain ⟨q1, q2⟩ := hl i c H hi p
  by_cases hlt : i < n
  · have e1 : xs1[i]? = some (xs1[i]'(by omega)) := List.getElem?_eq_getElem _
    have e2 : xs2[i]? = some (xs2[i]'(by omega)) := List.getElem?_eq_getElem _
    refine .inr ⟨⟨xs1, xs2, _, _, q1, q2, e1, e2⟩, Pv (i + 1), fun c' H' p' => ⟨n - (i + 1), by omega, rfl, hlt, p'⟩, fun v H' y => ?_⟩
    obtain ⟨T, y1, y2, rfl, hT, rfl, f1, f2⟩ := y
    exact hs i y1 y2 T c H (f1 xs1 q1) (f2 xs2 q2) hT p
  · have e : i = n := by omega
    subst e
    exact .inl ⟨⟨xs1, xs2, q1, q2, by omega, by omega, .inl (by omega)⟩, hd c H p⟩
def Itz3 (K : PySem.W.Frag) (z1 z2 z3 : ZS) : It :=
  ⟨fun i H => ∃ (xs1 xs2 xs3 : List V) (x1 x2 x3 : V), z1.at K H xs1 ∧ z2.at K H xs2 ∧ z3.at K H xs3 ∧ xs1[i]? = some x1 ∧ xs2[i]? = some x2 ∧ xs3[i]? = some x3,
    fun i H v H' => ∃ T x1 x2 x3, v = .ref T ∧ H T = none ∧ H' = upd H T (.tup [x1, x2, x3]) ∧ (∀ xs, z1.at K H xs → xs[i]? = some x1) ∧ (∀ xs, z2.at K H xs → xs[i]? = some x2) ∧ (∀ xs, z3.at K H xs → xs[i]? = some x3),
    fun i H => ∃ xs1 xs2 xs3 : List V, z1.at K H xs1 ∧ z2.at K H xs2 ∧ z3.at K H xs3 ∧ i ≤ xs1.length ∧ i ≤ xs2.length ∧ i ≤ xs3.length ∧ (i = xs1.length ∨ i = xs2.length ∨ i = xs3.length)⟩
theorem turn_zip3 {P : Program} {w : World} {K : PySem.W.Frag} {elts : List Expr} {kk : Nat} {tpos : Pos} {z1 z2 z3 : ZS} {n : Nat} (l1 : z1.lt n) (l2 : z2.lt n) (l3 : z3.lt n) :
    Turn P w K (.Tuple elts kk tpos) (Itz3 K z1 z2 z3) [n + 5, n + 3, n + 4, n, n + 1, n + 2] (n + 5) (fun i h => IsZip h (n + 5) (n + 3) (n + 4) .none ∧ IsTupOf3 h (n + 3) (.ref (n)) (.ref (n + 1)) (.ref (n + 2)) ∧ (∃ x1 x2 x3, IsTupOf3 h (n + 4) x1 x2 x3) ∧ z1.it (n) i h ∧ z2.it (n + 1) i h ∧ z3.it (n + 2) i h) where
  mem := List.mem_cons_self
  obj := fun i h st c hc => by
    obtain ⟨hz, hTI, ⟨x1, x2, x3, hTO⟩, st1, st2, st3⟩ := st
    have e' : c = n + 5 ∨ c = n + 3 ∨ c = n + 4 ∨ c = n ∨ c = n + 1 ∨ c = n + 2 := by simpa using hc
    rcases e' with q | q | q | q | q | q
    · rw [q]; exact ⟨_, hz, fun v q => nomatch q⟩
    · rw [q]; exact ⟨_, hTI, fun v q => nomatch q⟩
    · rw [q]; exact ⟨_, hTO, fun v q => nomatch q⟩
    · rw [q]; exact ZS.obj (z := z1) st1
    · rw [q]; exact ZS.obj (z := z2) st2
    · rw [q]; exact ZS.obj (z := z3) st3
  keep := fun i h h' st k => by
    obtain ⟨hz, hTI, ⟨x1, x2, x3, hTO⟩, st1, st2, st3⟩ := st
    exact ⟨k _ (by simp) _ hz, k _ (by simp) _ hTI, ⟨x1, x2, x3, k _ (by simp) _ hTO⟩, ZS.move (z := z1) (fun o q => k _ (by simp) o q) st1, ZS.move (z := z2) (fun o q => k _ (by simp) o q) st2, ZS.move (z := z3) (fun o q => k _ (by simp) o q) st3⟩
  item := by
    intro X hP hw hK hc i pins s σ H E I hf st hg
    subst hP hw hK
    obtain ⟨hz, hTI, ⟨y1, y2, y3, hTO⟩, st1, st2, st3⟩ := st
    obtain ⟨xs1, xs2, xs3, x1, x2, x3, q1, q2, q3, h1, h2, h3⟩ := hg
    have hh : X.A.in1.handled = none := I.ok.hd hc
    obtain ⟨fp1, P1, St1, D1, m1, f1, s1, b1, p1⟩ := z1.draws (A := X.A.in1) I q1 hh (ZS.off_of (by omega) l1) st1
    have nf1 : ∀ c, n ≤ c → c ≠ n → c ∉ fp1 := fun c h1 h2 h3 => by
      rcases f1 c h3 with e | e
      · exact h2 e
      · exact e (ZS.off_of h1 l1)
    obtain ⟨fp2, P2, St2, D2, m2, f2, s2, b2, p2⟩ := z2.draws (A := X.A.in1) I q2 hh (ZS.off_of (by omega) l2) st2
    have nf2 : ∀ c, n ≤ c → c ≠ n + 1 → c ∉ fp2 := fun c h1 h2 h3 => by
      rcases f2 c h3 with e | e
      · exact h2 e
      · exact e (ZS.off_of h1 l2)
    obtain ⟨fp3, P3, St3, D3, m3, f3, s3, b3, p3⟩ := z3.draws (A := X.A.in1) I q3 hh (ZS.off_of (by omega) l3) st3
    have nf3 : ∀ c, n ≤ c → c ≠ n + 2 → c ∉ fp3 := fun c h1 h2 h3 => by
      rcases f3 c h3 with e | e
      · exact h2 e
      · exact e (ZS.off_of h1 l3)
    have t1 : i < xs1.length := (List.getElem?_eq_some_iff.mp h1).1
    have t2 : i < xs2.length := (List.getElem?_eq_some_iff.mp h2).1
    have t3 : i < xs3.length := (List.getElem?_eq_some_iff.mp h3).1
    have hzl : n + 5 < s.heap.objs.size := Heap.lt_size hz
    have S : ZipSep3 (n + 5) (n + 3) (n + 4) (n) (n + 1) (n + 2) fp1 fp2 fp3 := { TIz := (ne' (a := n + 3) (b := n + 5) (by omega)), TOz := (ne' (a := n + 4) (b := n + 5) (by omega)), TITO := (ne' (a := n + 3) (b := n + 4) (by omega)), TIi1 := (ne' (a := n + 3) (b := n) (by omega)), mem1 := m1, zf1 := nf1 (n + 5) (by omega) (ne' (a := n + 5) (b := n) (by omega)), Tf1 := nf1 (n + 4) (by omega) (ne' (a := n + 4) (b := n) (by omega)), TIi2 := (ne' (a := n + 3) (b := n + 1) (by omega)), mem2 := m2, zf2 := nf2 (n + 5) (by omega) (ne' (a := n + 5) (b := n + 1) (by omega)), Tf2 := nf2 (n + 4) (by omega) (ne' (a := n + 4) (b := n + 1) (by omega)), TIi3 := (ne' (a := n + 3) (b := n + 2) (by omega)), mem3 := m3, zf3 := nf3 (n + 5) (by omega) (ne' (a := n + 5) (b := n + 2) (by omega)), Tf3 := nf3 (n + 4) (by omega) (ne' (a := n + 4) (b := n + 2) (by omega)), sep1_2 := nf2 (n) (by omega) (ne' (a := n) (b := n + 1) (by omega)), sep1_3 := nf3 (n) (by omega) (ne' (a := n) (b := n + 2) (by omega)), sep2_1 := nf1 (n + 1) (by omega) (ne' (a := n + 1) (b := n) (by omega)), sep2_3 := nf3 (n + 1) (by omega) (ne' (a := n + 1) (b := n + 2) (by omega)), sep3_1 := nf1 (n + 2) (by omega) (ne' (a := n + 2) (b := n) (by omega)), sep3_2 := nf2 (n + 2) (by omega) (ne' (a := n + 2) (b := n + 1) (by omega)) }
    refine wpAny_pyNext_zipD3_item S D1 D2 D3 hz hTI hTO s1 s2 s3 t1 t2 t3 fun u1 u2 u3 h' tk g1 g2 g3 z' TO' w1 w2 w3 hT hsz hk => ?_
    refine ⟨_, rfl, wpAny_letOwnedTupleGo_zip (s := { s with heap := h', toks := tk }) z' fun h'' z'' sb => ?_⟩
    obtain ⟨x1', e1, ru1⟩ := p1 i u1 g1
    rw [h1] at e1
    cases Option.some.inj e1
    obtain ⟨x2', e2, ru2⟩ := p2 i u2 g2
    rw [h2] at e2
    cases Option.some.inj e2
    obtain ⟨x3', e3, ru3⟩ := p3 i u3 g3
    rw [h3] at e3
    cases Option.some.inj e3
    have hT2 : h''.get? s.heap.objs.size = some { cls := .type "tuple", data := .seq #[u1, u2, u3] } := (sb.2 _ (Nat.ne_of_gt hzl)).trans hT
    have new : ObjOk X.prog X.w (upd H s.heap.objs.size (.tup [x1, x2, x3])) h'' s.heap.objs.size (.tup [x1, x2, x3]) :=
      ⟨by show 3 ≤ sizeLine; decide, [u1, u2, u3], .cons ru1 (.cons ru2 (.cons ru3 (.nil))), ⟨_, hT2, rfl, _, rfl⟩⟩
    have out5 : ∀ c, c ∉ [n + 5, n + 3, n + 4, n, n + 1, n + 2] → c ≠ n + 5 ∧ c ≠ n + 4 ∧ c ≠ n ∧ c ≠ n + 1 ∧ c ≠ n + 2 := fun c hb => ⟨fun q' => hb (by simp [q']), fun q' => hb (by simp [q']), fun q' => hb (by simp [q']), fun q' => hb (by simp [q']), fun q' => hb (by simp [q'])⟩
    have I1 : Inv X pins σ (upd H s.heap.objs.size (.tup [x1, x2, x3])) { s with heap := h'', toks := tk } :=
      I.turnedNew (t' := tk) (ch := [n + 5, n + 3, n + 4, n, n + 1, n + 2]) (fun c o hb q => by
        obtain ⟨a1, a2, b1', b2', b3'⟩ := out5 c hb
        exact (sb.2 c a1).trans (hk c o a1 a2 b1' b2' b3' q)) hf (Nat.le_refl _) new
    refine ⟨.ref s.heap.objs.size, _, I1, rfl, ⟨_, x1, x2, x3, rfl, I.hok.fresh (Nat.le_refl _), rfl, fun l hl => by rw [ZS.inj I hl q1]; exact h1, fun l hl => by rw [ZS.inj I hl q2]; exact h2, fun l hl => by rw [ZS.inj I hl q3]; exact h3⟩, ⟨z'', ?_, ⟨u1, u2, u3, ?_⟩, ?_, ?_, ?_⟩, fun c hcm => ?_⟩
    · exact (sb.2 (n + 3) (ne' (a := n + 3) (b := n + 5) (by omega))).trans (hk (n + 3) _ (ne' (a := n + 3) (b := n + 5) (by omega)) (ne' (a := n + 3) (b := n + 4) (by omega)) (ne' (a := n + 3) (b := n) (by omega)) (ne' (a := n + 3) (b := n + 1) (by omega)) (ne' (a := n + 3) (b := n + 2) (by omega)) hTI)
    · exact (sb.2 (n + 4) (ne' (a := n + 4) (b := n + 5) (by omega))).trans TO'
    · exact ZS.move (z := z1) (fun o q => (sb.2 (n) (ne' (a := n) (b := n + 5) (by omega))).trans q) (b1 _ _ w1)
    · exact ZS.move (z := z2) (fun o q => (sb.2 (n + 1) (ne' (a := n + 1) (b := n + 5) (by omega))).trans q) (b2 _ _ w2)
    · exact ZS.move (z := z3) (fun o q => (sb.2 (n + 2) (ne' (a := n + 2) (b := n + 5) (by omega))).trans q) (b3 _ _ w3)
    · have hlt : c < s.heap.objs.size := by
        have e' : c = n + 5 ∨ c = n + 3 ∨ c = n + 4 ∨ c = n ∨ c = n + 1 ∨ c = n + 2 := by simpa using hcm
        rcases e' with q | q | q | q | q | q
        · rw [q]; exact (show (n + 5 : Nat) < s.heap.objs.size by omega)
        · rw [q]; exact (show (n + 3 : Nat) < s.heap.objs.size by omega)
        · rw [q]; exact (show (n + 4 : Nat) < s.heap.objs.size by omega)
        · rw [q]; exact (show (n : Nat) < s.heap.objs.size by omega)
        · rw [q]; exact (show (n + 1 : Nat) < s.heap.objs.size by omega)
        · rw [q]; exact (show (n + 2 : Nat) < s.heap.objs.size by omega)
      rw [upd_ne (Nat.ne_of_lt hlt)]
      exact (hf c hcm).1
  done := by
    intro X hP hw hK hc i pins s σ H E I hf st hg
    subst hP hw hK
    obtain ⟨hz, hTI, ⟨y1, y2, y3, hTO⟩, st1, st2, st3⟩ := st
    obtain ⟨xs1, xs2, xs3, q1, q2, q3, t1, t2, t3, hend⟩ := hg
    have hh : X.A.in1.handled = none := I.ok.hd hc
    obtain ⟨fp1, P1, St1, D1, m1, f1, s1, b1, p1⟩ := z1.draws (A := X.A.in1) I q1 hh (ZS.off_of (by omega) l1) st1
    have nf1 : ∀ c, n ≤ c → c ≠ n → c ∉ fp1 := fun c h1 h2 h3 => by
      rcases f1 c h3 with e | e
      · exact h2 e
      · exact e (ZS.off_of h1 l1)
    obtain ⟨fp2, P2, St2, D2, m2, f2, s2, b2, p2⟩ := z2.draws (A := X.A.in1) I q2 hh (ZS.off_of (by omega) l2) st2
    have nf2 : ∀ c, n ≤ c → c ≠ n + 1 → c ∉ fp2 := fun c h1 h2 h3 => by
      rcases f2 c h3 with e | e
      · exact h2 e
      · exact e (ZS.off_of h1 l2)
    obtain ⟨fp3, P3, St3, D3, m3, f3, s3, b3, p3⟩ := z3.draws (A := X.A.in1) I q3 hh (ZS.off_of (by omega) l3) st3
    have nf3 : ∀ c, n ≤ c → c ≠ n + 2 → c ∉ fp3 := fun c h1 h2 h3 => by
      rcases f3 c h3 with e | e
      · exact h2 e
      · exact e (ZS.off_of h1 l3)
    have S : ZipSep3 (n + 5) (n + 3) (n + 4) (n) (n + 1) (n + 2) fp1 fp2 fp3 := { TIz := (ne' (a := n + 3) (b := n + 5) (by omega)), TOz := (ne' (a := n + 4) (b := n + 5) (by omega)), TITO := (ne' (a := n + 3) (b := n + 4) (by omega)), TIi1 := (ne' (a := n + 3) (b := n) (by omega)), mem1 := m1, zf1 := nf1 (n + 5) (by omega) (ne' (a := n + 5) (b := n) (by omega)), Tf1 := nf1 (n + 4) (by omega) (ne' (a := n + 4) (b := n) (by omega)), TIi2 := (ne' (a := n + 3) (b := n + 1) (by omega)), mem2 := m2, zf2 := nf2 (n + 5) (by omega) (ne' (a := n + 5) (b := n + 1) (by omega)), Tf2 := nf2 (n + 4) (by omega) (ne' (a := n + 4) (b := n + 1) (by omega)), TIi3 := (ne' (a := n + 3) (b := n + 2) (by omega)), mem3 := m3, zf3 := nf3 (n + 5) (by omega) (ne' (a := n + 5) (b := n + 2) (by omega)), Tf3 := nf3 (n + 4) (by omega) (ne' (a := n + 4) (b := n + 2) (by omega)), sep1_2 := nf2 (n) (by omega) (ne' (a := n) (b := n + 1) (by omega)), sep1_3 := nf3 (n) (by omega) (ne' (a := n) (b := n + 2) (by omega)), sep2_1 := nf1 (n + 1) (by omega) (ne' (a := n + 1) (b := n) (by omega)), sep2_3 := nf3 (n + 1) (by omega) (ne' (a := n + 1) (b := n + 2) (by omega)), sep3_1 := nf1 (n + 2) (by omega) (ne' (a := n + 2) (b := n) (by omega)), sep3_2 := nf2 (n + 2) (by omega) (ne' (a := n + 2) (b := n + 1) (by omega)) }
    exact wpAny_pyNext_zipD3_end S D1 D2 D3 hz hTI hTO s1 s2 s3 t1 t2 t3 hend fun h' tk hk => ⟨rfl, I.turnedL (t' := tk) (ch := [n + 5, n + 3, n + 4, n, n + 1, n + 2]) (fun c o hb q =>
      hk c o (fun q' => hb (by simp [q'])) (fun q' => hb (by simp [q'])) (fun q' => hb (by simp [q'])) (fun q' => hb (by simp [q'])) (fun q' => hb (by simp [q'])) q) hf⟩
  self := fun A i s Q E st h => wpAny_pyIter_zip st.1 h
def iZip3 (K : PySem.W.Frag) (ta : TA) : TI := fun σ H R => ta σ H fun vs H1 => ∃ (z1 z2 z3 : ZS) (xs1 xs2 xs3 : List V), vs = [z1.val, z2.val, z3.val] ∧ z1.at K H1 xs1 ∧ z2.at K H1 xs2 ∧ z3.at K H1 xs3 ∧ R (Itz3 K z1 z2 z3) H1
theorem pi_zip3 {X : Cx} {e e2 e3 : Expr} {ta : TA} {p pos tpos : Pos} {elts : List Expr} {kk : Nat} (hg : Gl X "zip") (hm : X.mg "zip" = none) (ha : PA X [e, e2, e3] ta)
    (hs : starEach [e, e2, e3] X.env = (false, eval e X.env) :: starEach [e2, e3] X.env := by rfl) (hpl : (backTo pos (starEach [e2, e3] X.env)).any (·.1) = false := by rfl) :
    PI X (.Tuple elts kk tpos) (.Call (.Name "zip" p) [e, e2, e3] [] pos) (iZip3 X.K ta) := by
  refine ⟨fun pins s σ H R I h => ?_⟩
  refine Call_ (ld_blt I hg hm PyProof.Rows.boot_zip (PyProof.Rows.callWith_type1 (thn (ha.run pos pins s σ H _ I h) fun us s1 ⟨vs, H1, I1, r1, q1⟩ => ?_) hs hpl))
  obtain ⟨z1, z2, z3, xs1, xs2, xs3, ex, q1, q2, q3, q⟩ := q1
  subst ex
  cases r1 with
  | cons r1 rr =>
    cases rr with
    | cons r2 rr =>
      cases rr with
      | cons r3 rr =>
        cases rr
        obtain ⟨o1, G1, B1, h1, i1, l1⟩ := z1.begins I1 q1 r1
        obtain ⟨o2, G2, B2, h2, i2, l2⟩ := z2.begins I1 q2 r2
        obtain ⟨o3, G3, B3, h3, i3, l3⟩ := z3.begins I1 q3 r3
        have fresh5 : ∀ c, c ∈ [s1.heap.objs.size + 5, s1.heap.objs.size + 3, s1.heap.objs.size + 4, s1.heap.objs.size, s1.heap.objs.size + 1, s1.heap.objs.size + 2] → FpOk X pins H1 c := fun c hcm => by
          have e' : c = s1.heap.objs.size + 5 ∨ c = s1.heap.objs.size + 3 ∨ c = s1.heap.objs.size + 4 ∨ c = s1.heap.objs.size ∨ c = s1.heap.objs.size + 1 ∨ c = s1.heap.objs.size + 2 := by simpa using hcm
          have hle : s1.heap.objs.size ≤ c := by omega
          exact I1.fpOk hle (I1.hok.fresh hle)
        refine zip_begins3 B1 B2 B3 h1 h2 h3 fun h' hz hTI hTO g1 g2 g3 hsz hk => wpAny_pyIter_zip hz ?_
        have I2 : Inv X pins σ H1 { s1 with heap := h' } := I1.kept (t' := s1.toks) hk
        exact ⟨s1.heap.objs.size + 5, [s1.heap.objs.size + 5, s1.heap.objs.size + 3, s1.heap.objs.size + 4, s1.heap.objs.size, s1.heap.objs.size + 1, s1.heap.objs.size + 2], _, _, H1, rfl, I2, turn_zip3 l1 l2 l3, ⟨hz, hTI, ⟨_, _, _, hTO⟩, i1 _ _ g1, i2 _ _ g2, i3 _ _ g3⟩, fresh5, q⟩
theorem for_zip3 {K : PySem.W.Frag} {z1 z2 z3 : ZS} {xs1 xs2 xs3 : List V} {n : Nat} {g : TG} {tb : TS} {D : Ends} {σ : L2.St} {H : Hp} (n1 : xs1.length = n) (n2 : xs2.length = n) (n3 : xs3.length = n) (Pv : Nat → L2.St → Hp → Prop) (h0 : Pv 0 σ H) (hl : ∀ i σ H, i ≤ n → Pv i σ H → z1.at K H xs1 ∧ z2.at K H xs2 ∧ z3.at K H xs3)
    (hs : ∀ (i : Nat) (x1 x2 x3 : V) (T : Addr) (σ : L2.St) (H : Hp), xs1[i]? = some x1 → xs2[i]? = some x2 → xs3[i]? = some x3 → H T = none → Pv i σ H → g (.ref T) σ (upd H T (.tup [x1, x2, x3])) fun σ2 H2 => tb { D with nx := Pv (i + 1), ct := Pv (i + 1), bk := D.nx } σ2 H2) (hd : ∀ σ H, Pv n σ H → D.nx σ H) :
    ∃ W : Nat → Nat → L2.St → Hp → Prop, (∃ m, W 0 m σ H) ∧ ∀ i m σ H, W i m σ H →
      ((Itz3 K z1 z2 z3).stop i H ∧ D.nx σ H) ∨ ((Itz3 K z1 z2 z3).go i H ∧ ∃ N : L2.St → Hp → Prop, (∀ σ' H', N σ' H' → ∃ m', m' < m ∧ W (i + 1) m' σ' H') ∧ ∀ v H', (Itz3 K z1 z2 z3).yld i H v H' → g v σ H' fun σ2 H2 => tb { D with nx := N, ct := N, bk := D.nx } σ2 H2) := by
  refine ⟨fun i m σ H => m = n - i ∧ i ≤ n ∧ Pv i σ H, ⟨n, rfl, Nat.zero_le _, h0⟩, ?_⟩
  rintro i m σ H ⟨rfl, hi, p⟩
  obtain ⟨q1, q2, q3⟩ := hl i σ H hi p
  by_cases hlt : i < n
  · have e1 : xs1[i]? = some (xs1[i]'(by omega)) := List.getElem?_eq_getElem _
    have e2 : xs2[i]? = some (xs2[i]'(by omega)) := List.getElem?_eq_getElem _
    have e3 : xs3[i]? = some (xs3[i]'(by omega)) := List.getElem?_eq_getElem _
    refine .inr ⟨⟨xs1, xs2, xs3, _, _, _, q1, q2, q3, e1, e2, e3⟩, Pv (i + 1), fun σ' H' p' => ⟨n - (i + 1), by omega, rfl, hlt, p'⟩, fun v H' y => ?_⟩
    obtain ⟨T, y1, y2, y3, rfl, hT, rfl, f1, f2, f3⟩ := y
    exact hs i y1 y2 y3 T σ H (f1 xs1 q1) (f2 xs2 q2) (f3 xs3 q3) hT p
  · have e : i = n := by omega
    subst e
    exact .inl ⟨⟨xs1, xs2, xs3, q1, q2, q3, by omega, by omega, by omega, .inl (by omega)⟩, hd σ H p⟩
theorem lc_zip3 {K : PySem.W.Frag} {z1 z2 z3 : ZS} {xs1 xs2 xs3 : List V} {n : Nat} {g : TG} {tt : TT} {te : TE} {vs : List Nat} {σ : L2.St} {H1 : Hp} {D : Addr} {Qd : Hp → Prop} (n1 : xs1.length = n) (n2 : xs2.length = n) (n3 : xs3.length = n) (Pv : Nat → Hp → Prop) (h0 : Pv 0 (upd H1 D (.lst []))) (hl : ∀ i H, i ≤ n → Pv i H → z1.at K H xs1 ∧ z2.at K H xs2 ∧ z3.at K H xs3)
    (hs : ∀ (i : Nat) (x1 x2 x3 : V) (T : Addr) (H : Hp), xs1[i]? = some x1 → xs2[i]? = some x2 → xs3[i]? = some x3 → H T = none → Pv i H → g (.ref T) (wipe σ vs) (upd H T (.tup [x1, x2, x3])) fun σ2 H2 => wipe σ2 vs = wipe σ vs ∧ tt σ2 H2 fun b H3 =>
      if b = true then te σ2 H3 fun y H4 => ∃ acc, H4 D = some (.lst acc) ∧ acc.length < sizeLine ∧ Pv (i + 1) (upd H4 D (.lst (acc ++ [y]))) else Pv (i + 1) H3) (hd : ∀ H, Pv n H → Qd H) :
    ∃ W : Nat → Nat → Hp → Prop, (∃ m, W 0 m (upd H1 D (.lst []))) ∧ ∀ i m H, W i m H →
      ((Itz3 K z1 z2 z3).stop i H ∧ Qd H) ∨ ((Itz3 K z1 z2 z3).go i H ∧ ∃ Nx : Hp → Prop, (∀ H', Nx H' → ∃ m', m' < m ∧ W (i + 1) m' H') ∧ ∀ x H', (Itz3 K z1 z2 z3).yld i H x H' → g x (wipe σ vs) H' fun σ2 H2 => wipe σ2 vs = wipe σ vs ∧ tt σ2 H2 fun b H3 =>
        if b = true then te σ2 H3 fun y H4 => ∃ acc, H4 D = some (.lst acc) ∧ acc.length < sizeLine ∧ Nx (upd H4 D (.lst (acc ++ [y]))) else Nx H3) := by
  refine ⟨fun i m H => m = n - i ∧ i ≤ n ∧ Pv i H, ⟨n, by simp, Nat.zero_le _, h0⟩, ?_⟩
  rintro i m H ⟨rfl, hi, p⟩
  obtain ⟨q1, q2, q3⟩ := hl i H hi p
  by_cases hlt : i < n
  · have e1 : xs1[i]? = some (xs1[i]'(by omega)) := List.getElem?_eq_getElem _
    have e2 : xs2[i]? = some (xs2[i]'(by omega)) := List.getElem?_eq_getElem _
    have e3 : xs3[i]? = some (xs3[i]'(by omega)) := List.getElem?_eq_getElem _
    refine .inr ⟨⟨xs1, xs2, xs3, _, _, _, q1, q2, q3, e1, e2, e3⟩, Pv (i + 1), fun H' p' => ⟨n - (i + 1), by omega, rfl, hlt, p'⟩, fun v H' y => ?_⟩
    obtain ⟨T, y1, y2, y3, rfl, hT, rfl, f1, f2, f3⟩ := y
    exact hs i y1 y2 y3 T H (f1 xs1 q1) (f2 xs2 q2) (f3 xs3 q3) hT p
  · have e : i = n := by omega
    subst e
    exact .inl ⟨⟨xs1, xs2, xs3, q1, q2, q3, by omega, by omega, by omega, .inl (by omega)⟩, hd H p⟩
theorem gx_zip3 {α : Type} {K : PySem.W.Frag} {z1 z2 z3 : ZS} {xs1 xs2 xs3 : List V} {n : Nat} {g : TG} {tt : TT} {te : TE} {vs : List Nat} {σ0 : L2.St} {End : α → Hp → Prop} {Yd : α → V → Hp → (α → Hp → Prop) → Prop} {a0 : α} {H0 : Hp} (n1 : xs1.length = n) (n2 : xs2.length = n) (n3 : xs3.length = n) (Pv : Nat → α → Hp → Prop) (h0 : Pv 0 a0 H0) (hl : ∀ i c H, i ≤ n → Pv i c H → z1.at K H xs1 ∧ z2.at K H xs2 ∧ z3.at K H xs3)
    (hs : ∀ (i : Nat) (x1 x2 x3 : V) (T : Addr) (c : α) (H : Hp), xs1[i]? = some x1 → xs2[i]? = some x2 → xs3[i]? = some x3 → H T = none → Pv i c H → g (.ref T) σ0 (upd H T (.tup [x1, x2, x3])) fun σ2 H2 => wipe σ2 vs = σ0 ∧ tt σ2 H2 fun b H3 => if b = true then te σ2 H3 fun y H4 => Yd c y H4 (Pv (i + 1)) else Pv (i + 1) c H3) (hd : ∀ c H, Pv n c H → End c H) :
    ∃ W : Nat → Nat → α → Hp → Prop, (∃ m, W 0 m a0 H0) ∧ tGx (Itz3 K z1 z2 z3) g tt te σ0 vs End Yd W := by
  refine ⟨fun i m c H => m = n - i ∧ i ≤ n ∧ Pv i c H, ⟨n, rfl, Nat.zero_le _, h0⟩, ?_⟩
  rintro i m c H ⟨rfl, hi, p⟩
  obtain ⟨q1, q2, q3⟩ := hl i c H hi p
  by_cases hlt : i < n
  · have e1 : xs1[i]? = some (xs1[i]'(by omega)) := List.getElem?_eq_getElem _
    have e2 : xs2[i]? = some (xs2[i]'(by omega)) := List.getElem?_eq_getElem _
    have e3 : xs3[i]? = some (xs3[i]'(by omega)) := List.getElem?_eq_getElem _
    refine .inr ⟨⟨xs1, xs2, xs3, _, _, _, q1, q2, q3, e1, e2, e3⟩, Pv (i + 1), fun c' H' p' => ⟨n - (i + 1), by omega, rfl, hlt, p'⟩, fun v H' y => ?_⟩
    obtain ⟨T, y1, y2, y3, rfl, hT, rfl, f1, f2, f3⟩ := y
    exact hs i y1 y2 y3 T c H (f1 xs1 q1) (f2 xs2 q2) (f3 xs3 q3) hT p
  · have e : i = n := by omega
    subst e
    exact .inl ⟨⟨xs1, xs2, xs3, q1, q2, q3, by omega, by omega, by omega, .inl (by omega)⟩, hd c H p⟩
end ZpG

section
variable {P : Program} {w : World} {K : PySem.W.Frag} {mg : Str → Option Value} {base : Heap}
/-! ### pairs of words -/
def WordAt (H : Hp) (p : Addr) (a b : Int) (c : Bool) : Prop := H p = some (.tup [.int a, .int b, .bl c])
def pairsM (f l : Int) (c : Bool) : List (Int × Int) := if c = true then [(0, 0), (0, 1), (1, 0), (1, 1)] else if f = l then [(f, f)] else if f = 0 then [(0, 0), (0, 1), (1, 1)] else [(0, 0), (1, 0), (1, 1)]
def PairAt (H : Hp) (k : Addr × Int × Int) : Prop := H k.1 = some (.tup [.int k.2.1, .int k.2.2])
def PairsAt (H : Hp) (r : Addr) (ps : List (Int × Int)) : Prop := ∃ ks : List (Addr × Int × Int), H r = some (.tup (ks.map fun k => V.ref k.1)) ∧ (∀ k ∈ ks, PairAt H k) ∧ ks.map (·.2) = ps
theorem PairsAt.same {H H' : Hp} {r : Addr} {ps : List (Int × Int)} (h : PairsAt H r ps) (s : Same H H') : PairsAt H' r ps := by
  obtain ⟨ks, h1, h2, h3⟩ := h
  exact ⟨ks, s _ _ h1, fun k hk => s _ _ (h2 k hk), h3⟩
theorem sorted_one {α : Type} (c : α → Int) : ∀ (T M : List α), T.Pairwise (fun x y => c x < c y) → M.Nodup → M.Pairwise (fun x y => c x ≤ c y) → (∀ x, x ∈ M ↔ x ∈ T) → M = T
  | [], M, _, _, _, hm => by
    cases M with
    | nil => rfl
    | cons m r => cases (hm m).mp (List.mem_cons_self ..)
  | t :: T, M, hT, hn, hp, hm => by
    cases M with
    | nil => cases (hm t).mpr (List.mem_cons_self ..)
    | cons m r =>
      have hT' := List.pairwise_cons.mp hT
      have hn' := List.nodup_cons.mp hn
      have hp' := List.pairwise_cons.mp hp
      have e : m = t := by
        rcases List.mem_cons.mp ((hm m).mp (List.mem_cons_self ..)) with h | h
        · exact h
        · have h1 := hT'.1 m h
          rcases List.mem_cons.mp ((hm t).mpr (List.mem_cons_self ..)) with h2 | h2
          · exact h2.symm
          · have h3 := hp'.1 t h2
            omega
      subst e
      rw [sorted_one c T r hT'.2 hn'.2 hp'.2 fun x => ⟨fun h => ?_, fun h => ?_⟩]
      · rcases List.mem_cons.mp ((hm x).mp (List.mem_cons_of_mem _ h)) with h2 | h2
        · subst h2
          exact absurd h hn'.1
        · exact h2
      · rcases List.mem_cons.mp ((hm x).mpr (List.mem_cons_of_mem _ h)) with h2 | h2
        · subst h2
          have := hT'.1 x h
          omega
        · exact h2
def sp_pairs_of (K : PySem.W.Frag) : Sp := fun vs H Q _ => ∃ (wd : Addr) (f l : Int) (c : Bool), vs = [.ref wd] ∧ WordAt H wd f l c ∧ (f = 0 ∨ f = 1) ∧ (l = 0 ∨ l = 1) ∧ ∀ r H', Same H H' → PairsAt H' r (pairsM f l c) → Q (.ref r) H'
theorem code2 (x y : Int) : TS.code 64 [x, y] = x * 64 + y := code_pair x y
theorem pairs_sorted {f l : Int} (hf : f = 0 ∨ f = 1) (hl : l = 0 ∨ l = 1) {M : List (List Int)} (hn : M.Nodup) (hp : M.Pairwise fun x y => TS.code 64 x ≤ TS.code 64 y) (h1 : ∀ x ∈ M, x ∈ [[f, f], [f, l], [l, l]]) (h2 : ∀ x ∈ [[f, f], [f, l], [l, l]], x ∈ M) : M.map (fun x => (x.getD 0 0, x.getD 1 0)) = pairsM f l false := by
  have key : ∀ T : List (List Int), T.Pairwise (fun x y => TS.code 64 x < TS.code 64 y) → (∀ x ∈ [[f, f], [f, l], [l, l]], x ∈ T) → (∀ x ∈ T, x ∈ [[f, f], [f, l], [l, l]]) → M = T := fun T hT a b =>
    sorted_one (TS.code 64) T M hT hn hp fun x => ⟨fun h => a x (h1 x h), fun h => h2 x (b x h)⟩
  rcases hf with rfl | rfl <;> rcases hl with rfl | rfl
  · rw [key [[0, 0]] (by decide) (by decide) (by decide)]; rfl
  · rw [key [[0, 0], [0, 1], [1, 1]] (by decide) (by decide) (by decide)]; rfl
  · rw [key [[0, 0], [1, 0], [1, 1]] (by decide) (by decide) (by decide)]; rfl
  · rw [key [[1, 1]] (by decide) (by decide) (by decide)]; rfl
theorem ok_pairs_of (T : Tx w K mg) : FnOk P w K mg base CX0 1 T.f_pairs_of T.fd_pairs_of ["word"] (sp_pairs_of K) := by
  refine T.F_pairs_of.ok sc_pairs_of (fun vs H Q E h => ?_) (fun cdv A outer s H vs Q E hr h => ?_)
  · obtain ⟨wd, f, l, c, rfl, _⟩ := h
    rfl
  · obtain ⟨wd, f, l, c, rfl, hw, hf, hl, q⟩ := h
    refine ⟨_, (pss_cons (ps_asg (pv 0) (pg_tup rfl (pgs_cons (pg_name (i := 1) sc_pairs_of.nd rfl (by first | exact .inl rfl | exact .inr rfl)) (pgs_cons (pg_name (i := 2) sc_pairs_of.nd rfl (by first | exact .inl rfl | exact .inr rfl)) (pgs_cons (pg_name (i := 3) sc_pairs_of.nd rfl (by first | exact .inl rfl | exact .inr rfl)) pgs_nil))))) (pss_cons (ps_if (pt_val (pv 3)) (pss_one (ps_ret (pe_tup (pa_cons (pe_tup (pa_cons pe_int (pa_cons pe_int pa_nil))) (pa_cons (pe_tup (pa_cons pe_int (pa_cons pe_int pa_nil))) (pa_cons (pe_tup (pa_cons pe_int (pa_cons pe_int pa_nil))) (pa_cons (pe_tup (pa_cons pe_int (pa_cons pe_int pa_nil))) pa_nil))))))) pss_nil) (pss_one (ps_ret (pe_callTy call_tuple_of (by rfl) T.m_tuple (by decide +kernel) (pa_cons (pe_callB (cr_sortedT rfl) (by rfl) T.m_sorted (by decide +kernel) (pa_cons (pe_callTy (cr_setOfT rfl hr.units) (by rfl) T.m_set (by decide +kernel) (pa_cons (pe_lst (pa_cons (pe_tup (pa_cons (pv 1) (pa_cons (pv 1) pa_nil))) (pa_cons (pe_tup (pa_cons (pv 1) (pa_cons (pv 2) pa_nil))) (pa_cons (pe_tup (pa_cons (pv 2) (pa_cons (pv 2) pa_nil))) pa_nil)))) pa_nil)) pa_nil)) pa_nil)))))), ?_⟩
    refine ⟨.ref wd, rfl, wd, _, rfl, SqT.of hw, rfl, _, _, rfl, _, _, rfl, _, _, rfl, rfl, ?_⟩
    refine ⟨.bl c, rfl, c, rfl, ?_⟩
    cases c with
    | true =>
      refine iteT ?_
      refine ⟨sl2, fun t1 n1 => ⟨sl2, fun t2 n2 => ⟨sl2, fun t3 n3 => ⟨sl2, fun t4 n4 => ⟨sl4, fun r nr => ?_⟩⟩⟩⟩⟩
      have e1 := same_upd (o := .tup [.int 0, .int 0]) n1
      have e2 := same_upd (o := .tup [.int 0, .int 1]) n2
      have e3 := same_upd (o := .tup [.int 1, .int 0]) n3
      have e4 := same_upd (o := .tup [.int 1, .int 1]) n4
      have e5 := same_upd (o := .tup [.ref t1, .ref t2, .ref t3, .ref t4]) nr
      refine q r _ ((((e1.trans e2).trans e3).trans e4).trans e5) ⟨[(t1, 0, 0), (t2, 0, 1), (t3, 1, 0), (t4, 1, 1)], upd_same, fun k hk => ?_, rfl⟩
      rcases List.mem_cons.mp hk with rfl | hk
      · exact e5 _ _ (e4 _ _ (e3 _ _ (e2 _ _ upd_same)))
      · rcases List.mem_cons.mp hk with rfl | hk
        · exact e5 _ _ (e4 _ _ (e3 _ _ upd_same))
        · rcases List.mem_cons.mp hk with rfl | hk
          · exact e5 _ _ (e4 _ _ upd_same)
          · rcases List.mem_cons.mp hk with rfl | hk
            · exact e5 _ _ upd_same
            · cases hk
    | false =>
      refine iteF ?_
      refine ⟨.int f, rfl, .int f, rfl, sl2, fun t1 n1 => ⟨.int f, rfl, .int l, rfl, sl2, fun t2 n2 => ⟨.int l, rfl, .int l, rfl, sl2, fun t3 n3 => ⟨sl3, fun li nli => ?_⟩⟩⟩⟩
      have e1 := same_upd (o := .tup [.int f, .int f]) n1
      have e2 := same_upd (o := .tup [.int f, .int l]) n2
      have e3 := same_upd (o := .tup [.int l, .int l]) n3
      have e4 := same_upd (o := .lst [.ref t1, .ref t2, .ref t3]) nli
      have eA := ((e1.trans e2).trans e3).trans e4
      have g1 := e4 _ _ (e3 _ _ (e2 _ _ (upd_same (H := H) (a := t1) (o := .tup [.int f, .int f]))))
      have g2 := e4 _ _ (e3 _ _ (upd_same (a := t2) (o := .tup [.int f, .int l])))
      have g3 := e4 _ _ (upd_same (a := t3) (o := .tup [.int l, .int l]))
      have g4 := upd_same (H := upd (upd (upd H t1 (.tup [.int f, .int f])) t2 (.tup [.int f, .int l])) t3 (.tup [.int l, .int l])) (a := li) (o := .lst [.ref t1, .ref t2, .ref t3])
      revert eA g1 g2 g3 g4
      generalize upd (upd (upd (upd H t1 (.tup [.int f, .int f])) t2 (.tup [.int f, .int l])) t3 (.tup [.int l, .int l])) li (.lst [.ref t1, .ref t2, .ref t3]) = H1
      intro eA g1 g2 g3 g4
      have gk : ∀ p ∈ ([(t1, [f, f]), (t2, [f, l]), (t3, [l, l])] : List (Addr × List Int)), H1 p.1 = some (.tup (p.2.map V.int)) ∧ p.2 ∈ [[f, f], [f, l], [l, l]] := fun p hp => by
        rcases List.mem_cons.mp hp with rfl | hp
        · exact ⟨g1, by simp⟩
        · rcases List.mem_cons.mp hp with rfl | hp
          · exact ⟨g2, by simp⟩
          · rcases List.mem_cons.mp hp with rfl | hp
            · exact ⟨g3, by simp⟩
            · cases hp
      refine ⟨li, [(t1, [f, f]), (t2, [f, l]), (t3, [l, l])], rfl, SqL.of g4, fun p hp => SqT.of (gk p hp).1, by show 3 < 64; decide, fun sa L nsa hL1 hL2 => ?_⟩
      have e5 := same_upd (o := SetTO P w sa L) nsa
      have b01 : ∀ x ∈ [[f, f], [f, l], [l, l]], x.length = 2 ∧ TS.Bd 64 x := by
        rcases hf with rfl | rfl <;> rcases hl with rfl | rfl <;> (unfold TS.Bd; decide)
      refine ⟨sa, L, 2, 64, rfl, upd_same, fun p hp => SqT.of (e5 _ _ (gk p (hL1 p hp)).1), by decide, fun p hp => b01 _ (gk p (hL1 p hp)).2, fun L' pl pm nd few so npl => ?_⟩
      have e6 := same_upd (o := .lst (L'.map fun q => V.ref q.1)) npl
      refine ⟨pl, _, rfl, .inl ⟨SqL.of upd_same, fun r nr => ?_⟩⟩
      have e7 := same_upd (o := .tup (L'.map fun q => V.ref q.1)) nr
      refine q r _ (eA.trans (e5.trans (e6.trans e7))) ⟨L'.map fun q => (q.1, q.2.getD 0 0, q.2.getD 1 0), ?_, fun k hk => ?_, ?_⟩
      · rw [upd_same, List.map_map]
        rfl
      · obtain ⟨p, hp, rfl⟩ := List.mem_map.mp hk
        have hp2 := gk p (hL1 p (pm.mem_iff.mp hp))
        have := e7 _ _ (e6 _ _ (e5 _ _ hp2.1))
        unfold PairAt
        rw [this]
        obtain ⟨pa, pb⟩ := p
        rcases List.mem_cons.mp hp2.2 with h | h
        · dsimp only at h ⊢; rw [h]; rfl
        · rcases List.mem_cons.mp h with h | h
          · dsimp only at h ⊢; rw [h]; rfl
          · rcases List.mem_cons.mp h with h | h
            · dsimp only at h ⊢; rw [h]; rfl
            · cases h
      · rw [List.map_map, ← pairs_sorted hf hl (M := L'.map (·.2)) nd (List.pairwise_map.mpr so) (fun x hx => ?_) (fun x hx => ?_), List.map_map]
        · rfl
        · obtain ⟨p, hp, rfl⟩ := List.mem_map.mp hx
          exact (gk p (hL1 p (pm.mem_iff.mp hp))).2
        · have : x ∈ L.map (·.2) := by
            rcases List.mem_cons.mp hx with rfl | hx
            · exact hL2 (t1, [f, f]) (by simp)
            · rcases List.mem_cons.mp hx with rfl | hx
              · exact hL2 (t2, [f, l]) (by simp)
              · rcases List.mem_cons.mp hx with rfl | hx
                · exact hL2 (t3, [l, l]) (by simp)
                · cases hx
          exact (pm.map (·.2)).mem_iff.mpr this

/-! ### all choices -/
def stepC {α : Type} (cs : List (List α)) (os : List α) : List (List α) := cs.flatMap fun c => os.map fun o => c ++ [o]
def chs {α : Type} (ls : List (List α)) : List (List α) := ls.foldl stepC [[]]
theorem chs_snoc {α : Type} (ls : List (List α)) (os : List α) : chs (ls ++ [os]) = stepC (chs ls) os := by
  unfold chs
  rw [List.foldl_append]
  rfl
theorem stepC_snoc {α : Type} (cs : List (List α)) (c : List α) (os : List α) : stepC (cs ++ [c]) os = stepC cs os ++ os.map fun o => c ++ [o] := by
  unfold stepC
  rw [List.flatMap_append]
  simp
theorem stepC_len {α : Type} (cs : List (List α)) (os : List α) : (stepC cs os).length = cs.length * os.length := by
  induction cs with
  | nil => simp [stepC]
  | cons c r ih =>
    have : stepC (c :: r) os = (os.map fun o => c ++ [o]) ++ stepC r os := by simp [stepC]
    rw [this, List.length_append, List.length_map, ih, List.length_cons, Nat.succ_mul]
    omega
theorem chs_len {α : Type} (m : Nat) (hm : 1 ≤ m) : ∀ (n : Nat) (ls : List (List α)), ls.length = n → (∀ l ∈ ls, l.length ≤ m) → (chs ls).length ≤ m ^ n := by
  intro n
  induction n with
  | zero =>
    intro ls h _
    cases List.eq_nil_of_length_eq_zero h
    exact Nat.le_refl _
  | succ n ih =>
    intro ls h hl
    have hne : ls ≠ [] := fun z => by rw [z] at h; cases h
    obtain ⟨r, x, rfl⟩ : ∃ r x, ls = r ++ [x] := ⟨ls.dropLast, ls.getLast hne, (List.dropLast_concat_getLast hne).symm⟩
    have hr := ih r (by rw [List.length_append] at h; simpa using h) fun l h' => hl l (List.mem_append_left _ h')
    rw [chs_snoc, stepC_len, Nat.pow_succ]
    exact Nat.mul_le_mul hr (hl x (by simp))
theorem chs_width {α : Type} : ∀ (ls : List (List α)) (c : List α), c ∈ chs ls → c.length = ls.length := by
  have key : ∀ (n : Nat) (ls : List (List α)), ls.length = n → ∀ c ∈ chs ls, c.length = n := by
    intro n
    induction n with
    | zero =>
      intro ls h c hc
      cases List.eq_nil_of_length_eq_zero h
      cases List.mem_singleton.mp hc
      rfl
    | succ n ih =>
      intro ls h c hc
      have hne : ls ≠ [] := fun z => by rw [z] at h; cases h
      obtain ⟨r, x, rfl⟩ : ∃ r x, ls = r ++ [x] := ⟨ls.dropLast, ls.getLast hne, (List.dropLast_concat_getLast hne).symm⟩
      rw [chs_snoc] at hc
      obtain ⟨c0, h0, hc⟩ := List.mem_flatMap.mp hc
      obtain ⟨o, _, rfl⟩ := List.mem_map.mp hc
      rw [List.length_append, ih r (by rw [List.length_append] at h; simpa using h) c0 h0]
      rfl
  exact fun ls c h => key _ ls rfl c h
theorem chs_map {α β : Type} (f : α → β) : ∀ (n : Nat) (ls : List (List α)), ls.length = n → chs (ls.map (List.map f)) = (chs ls).map (List.map f) := by
  intro n
  induction n with
  | zero =>
    intro ls h
    cases List.eq_nil_of_length_eq_zero h
    rfl
  | succ n ih =>
    intro ls h
    have hne : ls ≠ [] := fun z => by rw [z] at h; cases h
    obtain ⟨r, x, rfl⟩ : ∃ r x, ls = r ++ [x] := ⟨ls.dropLast, ls.getLast hne, (List.dropLast_concat_getLast hne).symm⟩
    rw [List.map_append, List.map_singleton, chs_snoc, chs_snoc, ih r (by rw [List.length_append] at h; simpa using h)]
    unfold stepC
    rw [List.flatMap_map, List.map_flatMap]
    congr 1
    funext c
    simp
def sp_choices_of (K : PySem.W.Frag) : Sp := fun vs H Q _ => ∃ (la : Addr) (xs : List V) (os : List (List PyData)), vs = [.ref la] ∧ H la = some (.lst xs) ∧ TkAll H xs (os.map PyData.tuple) ∧ (os.length ≤ 4 ∧ ∀ o ∈ os, o.length ≤ 4) ∧ (∀ o ∈ os, o.length ≤ 8) ∧ ∀ r H', Same H H' → Tk H' (.ref r) (.tuple ((chs os).map PyData.tuple)) → Q (.ref r) H'
theorem ok_choices_of (T : Tx w K mg) : FnOk P w K mg base CX0 1 T.f_choices_of T.fd_choices_of ["lists"] (sp_choices_of K) := by
  refine T.F_choices_of.ok sc_choices_of (fun vs H Q E h => ?_) (fun cdv A outer s H vs Q E hr h => ?_)
  · obtain ⟨la, xs, os, rfl, _⟩ := h
    rfl
  · obtain ⟨la, xs, os, rfl, hla, tk, o3, o8, q⟩ := h
    have big : ∀ i, i ≤ os.length → (chs (os.take i)).length ≤ 512 := fun i hi => by
      have h1 := chs_len 4 (by decide) i (os.take i) (by rw [List.length_take]; omega) fun l hl => o3.2 l (List.mem_of_mem_take hl)
      have h2 : 4 ^ i ≤ 4 ^ 4 := Nat.pow_le_pow_right (by decide) (Nat.le_trans hi o3.1)
      omega
    refine ⟨_, (pss_cons (ps_set (i := 1) sc_choices_of.nd rfl (by first | exact .inl rfl | exact .inr rfl) (pe_lst (pa_cons (pe_tup pa_nil) pa_nil))) (pss_cons (ps_for PassesOwn.never rfl (pi_list (pv 0)) (pg_name (i := 2) sc_choices_of.nd rfl (by first | exact .inl rfl | exact .inr rfl)) (pss_one (ps_setLc2 (i := 1) (own := [("choice", 3), ("option", 4)]) (vs1 := [4]) (by rfl) sc_choices_of.nd rfl rfl (sw_true rfl rfl rfl (by decide +kernel)) (pi_list (pv 1)) (blkOk_by (own := [("choice", 3), ("option", 4)]) (N := ["lists", "choices", "options", "choice", "option"]) (sc := defScope s_choices_of) (by decide +kernel)) (by decide) (fun _ _ _ _ _ => (pg_name (i := 3) sc_choices_of.nd rfl (by first | exact .inl rfl | exact .inr rfl))) (fun _ _ _ _ _ => pts_nil) (fun _ _ _ _ _ => (show PI _ _ _ (iTup K _) from pi_tup (pv 2))) (fun _ _ _ _ _ => (pg_name (i := 4) sc_choices_of.nd rfl (by first | exact .inl rfl | exact .inr rfl))) (fun _ _ _ _ _ => pts_nil) (fun _ _ _ _ _ => (pe_op (show OpR _ _ (rCatA K) from op_catA) (pv 3) (pe_tup (pa_cons (pv 4) pa_nil))))))) (pss_one (ps_ret (pe_callTy call_tuple_of (by rfl) T.m_tuple (by decide +kernel) (pa_cons (pv 1) pa_nil)))))), ?_⟩
    refine ⟨Nat.zero_le _, fun t0 n0 => ⟨sl1, fun c0 nc0 => ?_⟩⟩
    refine ⟨.ref la, rfl, la, rfl, ⟨_, SqL.of (same_upd nc0 _ _ (same_upd n0 _ _ hla))⟩, for_list (K := K) (a := la) (xs := xs) (fun i σ H' => ∃ ca y2, σ = [some (.ref la), some (.ref ca), y2, none, none] ∧ Same H H' ∧ Tk H' (.ref ca) (.list ((chs (os.take i)).map PyData.tuple)))
      ⟨c0, none, rfl, (same_upd n0).trans (same_upd nc0), .lst upd_same (.cons (.tup (same_upd nc0 _ _ upd_same) .nil) .nil)⟩ (fun i σ H' _ ⟨_, _, _, z, _⟩ => SqL.of (z _ _ hla)) ?_ ?_⟩
    · rintro i x σ H1 hx ⟨ca, y2, rfl, s1, tc⟩
      obtain ⟨dx, hdx, tx⟩ := tk.get hx
      obtain ⟨op, hop, rfl⟩ : ∃ op, os[i]? = some op ∧ dx = .tuple op := by
        rw [List.getElem?_map] at hdx
        cases hz : os[i]? with
        | none => rw [hz] at hdx; cases hdx
        | some op => rw [hz] at hdx; exact ⟨op, rfl, (Option.some.inj hdx).symm⟩
      obtain ⟨oa, ys, rfl, hoa, ty⟩ := tx.tup_inv
      obtain ⟨ca', cs, e, hca, tcs⟩ := tc.lst_inv
      cases e
      have hi : i < os.length := (List.getElem?_eq_some_iff.mp hop).1
      have o8' := o8 op (List.mem_of_getElem? hop)
      have ytake : chs (os.take (i + 1)) = stepC (chs (os.take i)) op := by
        rw [List.take_add_one, hop]
        exact chs_snoc _ _
      have bigN := big (i + 1) hi
      rw [ytake] at bigN
      refine ⟨.ref ca, rfl, ca, rfl, ⟨_, SqL.of hca⟩, fun D nD => ?_⟩
      have lcs : cs.length = (chs (os.take i)).length := by rw [tcs.length, List.length_map]
      -- both walks
      refine ⟨fun k m H' => m = cs.length - k ∧ k ≤ cs.length ∧ Same H1 (hd1 D H') ∧ ∃ acc, H' D = some (.lst acc) ∧ TkAll (hd1 D H') acc ((stepC ((chs (os.take i)).take k) op).map PyData.tuple), ⟨_, rfl, Nat.zero_le _, hd1_of (same_upd nD) nD, [], upd_same, .nil⟩, ?_⟩
      rintro k m H2 ⟨rfl, hk, s2, acc, hD, ta⟩
      have hca2 := hd1_le _ _ (s2 _ _ hca)
      by_cases hlt : k < cs.length
      · obtain ⟨c, hc⟩ : ∃ c, (chs (os.take i))[k]? = some c := ⟨_, List.getElem?_eq_getElem (by omega)⟩
        have htk : (chs (os.take i)).take (k + 1) = (chs (os.take i)).take k ++ [c] := by
          rw [List.take_add_one, hc]
          rfl
        refine .inr ⟨⟨cs, cs[k], SqL.of hca2, List.getElem?_eq_getElem hlt⟩, fun H' => Same H1 (hd1 D H') ∧ ∃ acc, H' D = some (.lst acc) ∧ TkAll (hd1 D H') acc ((stepC ((chs (os.take i)).take (k + 1)) op).map PyData.tuple), fun σ' ⟨z1, z2⟩ => ⟨cs.length - (k + 1), by omega, rfl, by omega, z1, z2⟩, fun x H' hy => ?_⟩
        obtain ⟨rfl, hy⟩ := hy
        have hx2 : cs[k]? = some x := hy cs (SqL.of hca2)
        obtain ⟨dc, hdc, tx2⟩ := tcs.get hx2
        obtain rfl : dc = .tuple c := by
          rw [List.getElem?_map, hc] at hdc
          exact (Option.some.inj hdc).symm
        obtain ⟨xa, zs, rfl, hxa, tz⟩ := tx2.tup_inv
        refine ⟨rfl, ?_⟩
        have hoa2 := hd1_le _ _ (s2 _ _ (s1 _ _ hoa))
        refine ⟨.ref oa, rfl, oa, rfl, ⟨_, SqT.of hoa2⟩, ?_⟩
        refine ⟨fun j n H' => n = ys.length - j ∧ j ≤ ys.length ∧ Same H1 (hd1 D H') ∧ ∃ acc, H' D = some (.lst acc) ∧ TkAll (hd1 D H') acc ((stepC ((chs (os.take i)).take k) op ++ (op.take j).map fun o => c ++ [o]).map PyData.tuple), ⟨_, rfl, Nat.zero_le _, s2, acc, hD, by rw [List.take_zero, List.map_nil, List.append_nil]; exact ta⟩, ?_⟩
        rintro j n H3 ⟨rfl, hj, s3, acc3, hD3, ta3⟩
        have hoa3 := hd1_le _ _ (s3 _ _ (s1 _ _ hoa))
        have lys : ys.length = op.length := ty.length
        by_cases hjl : j < ys.length
        · obtain ⟨ov, hov⟩ : ∃ ov, op[j]? = some ov := ⟨_, List.getElem?_eq_getElem (by omega)⟩
          refine .inr ⟨⟨ys, ys[j], SqT.of hoa3, List.getElem?_eq_getElem hjl⟩, fun H' => Same H1 (hd1 D H') ∧ ∃ acc, H' D = some (.lst acc) ∧ TkAll (hd1 D H') acc ((stepC ((chs (os.take i)).take k) op ++ (op.take (j + 1)).map fun o => c ++ [o]).map PyData.tuple), fun σ' ⟨z1, z2⟩ => ⟨ys.length - (j + 1), by omega, rfl, by omega, z1, z2⟩, fun y Hn hy => ?_⟩
          obtain ⟨rfl, hy⟩ := hy
          have hy2 : ys[j]? = some y := hy ys (SqT.of hoa3)
          obtain ⟨dy, hdy, ty2⟩ := ty.get hy2
          cases Option.some.inj (hdy.symm.trans hov)
          refine ⟨rfl, ?_⟩
          -- choice + (option,)
          have hxa3 := hd1_le _ _ (s3 _ _ hxa)
          refine ⟨.ref xa, rfl, y, rfl, sl1, fun t nt => ?_⟩
          have st := same_upd (o := .tup [y]) nt
          have ntD : t ≠ D := (ne_of_none hD3 nt).symm
          have sD := hd1_same (p := D) st
          have ty3 : Tk (hd1 D Hn) y ov := ty2.same (s1.trans s3)
          have tz3 : TkAll (hd1 D Hn) zs c := tz.same s3
          have lacc : acc3.length < sizeLine := by
            have h1 := ta3.length
            rw [List.length_map, List.length_append, stepC_len, List.length_map, List.length_take, List.length_take] at h1
            have h2 : min k (chs (os.take i)).length * op.length ≤ 512 * 8 := Nat.mul_le_mul (by have := big i (by omega); omega) o8'
            have : sizeLine = 16777216 := by decide
            omega
          have done : ∀ (H4 : Hp) (p : Addr), Same (hd1 D Hn) (hd1 D H4) → H4 D = some (.lst acc3) → p ≠ D → H4 p = some (.tup (zs ++ [y])) → TkAll (hd1 D H4) zs c → Tk (hd1 D H4) y ov → ∃ acc, H4 D = some (.lst acc) ∧ acc.length < sizeLine ∧ Same H1 (hd1 D (upd H4 D (.lst (acc ++ [.ref p])))) ∧ ∃ acc', (upd H4 D (.lst (acc ++ [.ref p]))) D = some (.lst acc') ∧ TkAll (hd1 D (upd H4 D (.lst (acc ++ [.ref p])))) acc' ((stepC ((chs (os.take i)).take k) op ++ (op.take (j + 1)).map fun o => c ++ [o]).map PyData.tuple) := fun H4 p s4 h4 np hp tzz tyy => by
            refine ⟨acc3, h4, lacc, (s3.trans s4).trans hd1_upd, acc3 ++ [.ref p], upd_same, ?_⟩
            rw [List.take_add_one, hov]
            show TkAll _ _ ((_ ++ (op.take j ++ [ov]).map _).map _)
            rw [List.map_append (l₁ := op.take j), ← List.append_assoc, List.map_append]
            refine ((ta3.same s4).same hd1_upd).append (.cons (.tup (xs := zs ++ [y]) ?_ ((tzz.same hd1_upd).append (.cons (tyy.same hd1_upd) .nil))) .nil)
            rw [hd1_at np, upd_ne np]
            exact hp
          have lz : zs.length + 1 ≤ sizeLine := by
            have h1 := (Tk.tup hxa tz)
            have h2 := tz.length
            have h3 : c.length ≤ 8 := by
              have := chs_width (os.take i) c (List.mem_of_getElem? hc)
              have h8 : os.length ≤ 8 := by have := o3.1; omega
              rw [this, List.length_take]
              omega
            have : sizeLine = 16777216 := by decide
            omega
          refine ⟨xa, t, zs, [y], rfl, rfl, SqT.of (st _ _ hxa3), SqT.of upd_same, lz, fun ez => ?_, (fun _ z => by cases z), fun nz _ p np => ?_⟩
          · subst ez
            exact done _ t sD (st _ _ hD3) ntD upd_same (tz3.same sD) (ty3.same sD)
          · have sp := same_upd (o := .tup (zs ++ [y])) np
            have sDp := hd1_same (p := D) sp
            have npD : p ≠ D := (ne_of_none (st _ _ hD3) np).symm
            exact done _ p (sD.trans sDp) (sp _ _ (st _ _ hD3)) npD upd_same ((tz3.same sD).same sDp) ((ty3.same sD).same sDp)
        · have ej : j = ys.length := by omega
          refine .inl ⟨⟨ys, SqT.of hoa3, by omega⟩, s3, acc3, hD3, ?_⟩
          rw [htk, stepC_snoc]
          rw [ej, lys, List.take_length] at ta3
          exact ta3
      · have ek : k = cs.length := by omega
        refine .inl ⟨⟨cs, SqL.of hca2, by omega⟩, ?_⟩
        refine ⟨D, _, rfl, fun b o e => hd1_le _ _ (s2 _ _ (s1 _ _ e)), ?_⟩
        rw [ytake]
        refine .lst hD ?_
        rw [ek, lcs, List.take_length] at ta
        exact ta.same hd1_le
    · rintro σ H1 ⟨ca, y2, rfl, s1, tc⟩
      have lx : xs.length = os.length := by rw [tk.length, List.length_map]
      rw [lx, List.take_length] at tc
      obtain ⟨ca', cs, e, hca, tcs⟩ := tc.lst_inv
      cases e
      refine ⟨.ref ca, rfl, ca, cs, rfl, .inl ⟨SqL.of hca, fun r nr => ?_⟩⟩
      exact q r _ (s1.trans (same_upd nr)) (.tup upd_same (tcs.same (same_upd nr)))

/-! ### pairs at two times -/
abbrev Wd := Int × Int × Bool
def wD (x : Wd) : PyData := .tuple [.int x.1, .int x.2.1, .bool x.2.2]
def Wok (x : Wd) : Prop := (x.1 = 0 ∨ x.1 = 1) ∧ (x.2.1 = 0 ∨ x.2.1 = 1)
def pw (x : Wd) : List (Int × Int) := pairsM x.1 x.2.1 x.2.2
def prI (p : Int × Int) : PyData := .tuple [.int p.1, .int p.2]
theorem wd_inv {H : Hp} {v : V} {x : Wd} (h : Tk H v (wD x)) : ∃ a, v = .ref a ∧ H a = some (.tup [.int x.1, .int x.2.1, .bl x.2.2]) := by
  obtain ⟨a, xs, rfl, ha, t⟩ := h.tup_inv
  cases t with
  | cons h1 t => cases t with
    | cons h2 t => cases t with
      | cons h3 t =>
        cases t
        cases h1
        cases h2
        cases h3
        exact ⟨a, rfl, ha⟩
theorem prI_inv {H : Hp} {v : V} {p : Int × Int} (h : Tk H v (prI p)) : ∃ a, v = .ref a ∧ H a = some (.tup [.int p.1, .int p.2]) := by
  obtain ⟨a, xs, rfl, ha, t⟩ := h.tup_inv
  cases t with
  | cons h1 t => cases t with
    | cons h2 t =>
      cases t
      cases h1
      cases h2
      exact ⟨a, rfl, ha⟩
theorem tkPairs {H : Hp} : ∀ ks : List (Addr × Int × Int), (∀ k ∈ ks, PairAt H k) → TkAll H (ks.map fun k => V.ref k.1) ((ks.map (·.2)).map prI)
  | [], _ => .nil
  | k :: r, h => .cons (.tup (h k (List.mem_cons_self ..)) (.cons (.int _) (.cons (.int _) .nil))) (tkPairs r fun x hx => h x (List.mem_cons_of_mem _ hx))
theorem PairsAt.tk {H : Hp} {r D : Addr} {ps : List (Int × Int)} {acc : List V} (h : PairsAt H r ps) (hD : H D = some (.lst acc)) : Tk (hd1 D H) (.ref r) (.tuple (ps.map prI)) := by
  obtain ⟨ks, h1, h2, h3⟩ := h
  have n : ∀ {a : Addr} {xs : List V}, H a = some (.tup xs) → hd1 D H a = some (.tup xs) := fun {a xs} e => by
    rw [hd1_at (ne_of e hD (by intro q; cases q))]
    exact e
  rw [← h3]
  exact .tup (n h1) (tkPairs ks fun k hk => n (h2 k hk))
theorem chs_mem {α : Type} : ∀ (ls : List (List α)) (c : List α), c ∈ chs ls → ∀ o ∈ c, ∃ l ∈ ls, o ∈ l := by
  have key : ∀ (n : Nat) (ls : List (List α)), ls.length = n → ∀ c ∈ chs ls, ∀ o ∈ c, ∃ l ∈ ls, o ∈ l := by
    intro n
    induction n with
    | zero =>
      intro ls h c hc o ho
      cases List.eq_nil_of_length_eq_zero h
      cases List.mem_singleton.mp hc
      cases ho
    | succ n ih =>
      intro ls h c hc o ho
      have hne : ls ≠ [] := fun z => by rw [z] at h; cases h
      obtain ⟨r, x, rfl⟩ : ∃ r x, ls = r ++ [x] := ⟨ls.dropLast, ls.getLast hne, (List.dropLast_concat_getLast hne).symm⟩
      rw [chs_snoc] at hc
      obtain ⟨c0, h0, hc⟩ := List.mem_flatMap.mp hc
      obtain ⟨o', ho', rfl⟩ := List.mem_map.mp hc
      rcases List.mem_append.mp ho with z | z
      · obtain ⟨l, hl, hol⟩ := ih r (by rw [List.length_append] at h; simpa using h) c0 h0 o z
        exact ⟨l, List.mem_append_left _ hl, hol⟩
      · rw [List.mem_singleton.mp z]
        exact ⟨x, by simp, ho'⟩
  exact fun ls c h => key _ ls rfl c h
theorem pairs01 {x : Wd} (h : Wok x) : ∀ p ∈ pw x, (p.1 = 0 ∨ p.1 = 1) ∧ (p.2 = 0 ∨ p.2 = 1) := by
  obtain ⟨f, l, c⟩ := x
  obtain ⟨hf, hl⟩ := h
  dsimp only at hf hl
  rcases hf with rfl | rfl <;> rcases hl with rfl | rfl <;> cases c <;> decide
theorem pairs4 (x : Wd) : (pw x).length ≤ 4 := by
  unfold pw pairsM
  split
  · exact Nat.le_refl _
  · split
    · show 1 ≤ 4; decide
    · split
      · show 3 ≤ 4; decide
      · show 3 ≤ 4; decide
theorem evI (x y : Int) : decide (V.int x = V.int y) = decide (x = y) := by
  by_cases z : x = y
  · rw [decide_eq_true z, decide_eq_true (by rw [z])]
  · rw [decide_eq_false z, decide_eq_false (fun k => z (V.int.inj k))]
def sp_pair_by (K : PySem.W.Frag) : Sp := fun vs H Q _ => ∃ (bs : List Bool) (pa : Addr) (c : List (Int × Int)), vs = [.str (tabOf bs), .ref pa] ∧ Tk H (.ref pa) (.tuple (c.map prI)) ∧ (∀ p ∈ c, (p.1 = 0 ∨ p.1 = 1) ∧ (p.2 = 0 ∨ p.2 = 1)) ∧ bs.length = 2 ^ c.length ∧ c.length ≤ 4 ∧ ∀ r H', Same H H' → H' r = some (.tup [.int (gateM bs (c.map (·.1))), .int (gateM bs (c.map (·.2)))]) → Q (.ref r) H'
theorem ok_pair_by (T : Tx w K mg) : FnOk P w K mg base CX0 2 T.f_pair_by T.fd_pair_by ["table", "pairs"] (sp_pair_by K) := by
  refine T.F_pair_by.ok sc_pair_by (fun vs H Q E h => ?_) (fun cdv A outer s H vs Q E hr h => ?_)
  · obtain ⟨bs, pa, c, rfl, _⟩ := h
    rfl
  · obtain ⟨bs, pa, c, rfl, tx, c01, hb, h3, q⟩ := h
    refine ⟨_, (pss_one (ps_ret (pe_tup (pa_cons (pe_call (ok_table_worth T) (hr.mono (by decide)) (by rfl) T.g_table_worth T.F_table_worth.kp T.b_table_worth .nil pass0 (pa_cons (pv 0) (pa_cons (pe_lc (own := [("p", 2), ("q", 3)]) (by rfl) sc_pair_by.nd (pi_tup (pv 1)) (blkOk_by (own := [("p", 2), ("q", 3)]) (N := ["table", "pairs", "p", "q"]) (sc := defScope s_pair_by) (by decide +kernel)) (fun _ _ _ _ _ => (show PG _ _ (gTup K 2 _) from pg_tup rfl (pgs_cons (pg_name (i := 2) sc_pair_by.nd rfl (by first | exact .inl rfl | exact .inr rfl)) (pgs_cons (pg_name (i := 3) sc_pair_by.nd rfl (by first | exact .inl rfl | exact .inr rfl)) pgs_nil)))) (fun _ _ _ _ _ => pts_nil) (fun _ _ _ _ _ => (pv 2))) pa_nil))) (pa_cons (pe_call (ok_table_worth T) (hr.mono (by decide)) (by rfl) T.g_table_worth T.F_table_worth.kp T.b_table_worth .nil pass0 (pa_cons (pv 0) (pa_cons (pe_lc (own := [("p", 2), ("q", 3)]) (by rfl) sc_pair_by.nd (pi_tup (pv 1)) (blkOk_by (own := [("p", 2), ("q", 3)]) (N := ["table", "pairs", "p", "q"]) (sc := defScope s_pair_by) (by decide +kernel)) (fun _ _ _ _ _ => (show PG _ _ (gTup K 2 _) from pg_tup rfl (pgs_cons (pg_name (i := 2) sc_pair_by.nd rfl (by first | exact .inl rfl | exact .inr rfl)) (pgs_cons (pg_name (i := 3) sc_pair_by.nd rfl (by first | exact .inl rfl | exact .inr rfl)) pgs_nil)))) (fun _ _ _ _ _ => pts_nil) (fun _ _ _ _ _ => (pv 3))) pa_nil))) pa_nil))))), ?_⟩
    obtain ⟨pa', zs, e, hpa, tz⟩ := tx.tup_inv
    cases e
    -- a list of one side of the pairs
    have comp : ∀ (H4 : Hp), Same H H4 → SqT K H4 pa zs := fun H4 s4 => SqT.of (s4 _ _ hpa)
    have side : ∀ (j : Nat) (u : V) (H4 : Hp), zs[j]? = some u → Same H H4 → ∃ (p : Int × Int) (b : Addr), c[j]? = some p ∧ u = .ref b ∧ H4 b = some (.tup [.int p.1, .int p.2]) := fun j u H4 hu s4 => by
      obtain ⟨dp, hdp, tp⟩ := tz.get hu
      rw [List.getElem?_map] at hdp
      cases hz : c[j]? with
      | none => rw [hz] at hdp; cases hdp
      | some p =>
        rw [hz] at hdp
        cases Option.some.inj hdp
        obtain ⟨b, rfl, hb'⟩ := prI_inv tp
        exact ⟨p, b, rfl, rfl, s4 _ _ hb'⟩
    have lz : zs.length = c.length := by rw [tz.length, List.length_map]
    -- early
    refine ⟨.str (tabOf bs), rfl, .ref pa, rfl, pa, rfl, ⟨_, comp _ (Same.refl _)⟩, fun E1 nE1 => ?_⟩
    refine lc_tup (K := K) (a := pa) (xs := zs) (fun j H' => Same H (hd1 E1 H') ∧ H' E1 = some (.lst (((c.map (·.1)).take j).map V.int))) ⟨hd1_of (same_upd nE1) nE1, upd_same⟩ (fun j H' _ hP => comp _ (fun b o e => hd1_le _ _ (hP.1 _ _ e))) ?_ ?_
    · rintro j u H4 hu ⟨s4, h4⟩
      obtain ⟨p, b, hp, rfl, hb'⟩ := side j u H4 hu (fun b o e => hd1_le _ _ (s4 _ _ e))
      refine ⟨b, _, rfl, SqT.of hb', rfl, _, _, rfl, _, _, rfl, rfl, rfl, ?_⟩
      refine ⟨.int p.1, rfl, _, h4, ?_, s4.trans hd1_upd, ?_⟩
      · rw [List.length_map, List.length_take]
        exact Nat.lt_of_lt_of_le (show min j (c.map (·.1)).length < 64 by rw [List.length_map]; omega) (by decide)
      · rw [upd_same, List.take_add_one, List.getElem?_map, hp, List.map_append]
        rfl
    rintro H4 ⟨s4, h4⟩
    have s34 : Same H H4 := fun b o e => hd1_le _ _ (s4 _ _ e)
    rw [lz, List.take_of_length_le (by rw [List.length_map]; exact Nat.le_refl _)] at h4
    refine ⟨bs, E1, c.map (·.1), rfl, SqL.of h4, fun w hw => ?_, by rw [List.length_map]; exact hb, by rw [List.length_map]; exact h3, ?_⟩
    · obtain ⟨p, hp, rfl⟩ := List.mem_map.mp hw
      exact (c01 p hp).1
    -- late
    refine ⟨.str (tabOf bs), rfl, .ref pa, rfl, pa, rfl, ⟨_, comp _ s34⟩, fun E2 nE2 => ?_⟩
    refine lc_tup (K := K) (a := pa) (xs := zs) (fun j H' => Same H4 (hd1 E2 H') ∧ H' E2 = some (.lst (((c.map (·.2)).take j).map V.int))) ⟨hd1_of (same_upd nE2) nE2, upd_same⟩ (fun j H' _ hP => comp _ (s34.trans fun b o e => hd1_le _ _ (hP.1 _ _ e))) ?_ ?_
    · rintro j u H5 hu ⟨s5, h5⟩
      obtain ⟨p, b, hp, rfl, hb'⟩ := side j u H5 hu (s34.trans fun b o e => hd1_le _ _ (s5 _ _ e))
      refine ⟨b, _, rfl, SqT.of hb', rfl, _, _, rfl, _, _, rfl, rfl, rfl, ?_⟩
      refine ⟨.int p.2, rfl, _, h5, ?_, s5.trans hd1_upd, ?_⟩
      · rw [List.length_map, List.length_take]
        exact Nat.lt_of_lt_of_le (show min j (c.map (·.2)).length < 64 by rw [List.length_map]; omega) (by decide)
      · rw [upd_same, List.take_add_one, List.getElem?_map, hp, List.map_append]
        rfl
    rintro H5 ⟨s5, h5⟩
    have s45 : Same H4 H5 := fun b o e => hd1_le _ _ (s5 _ _ e)
    rw [lz, List.take_of_length_le (by rw [List.length_map]; exact Nat.le_refl _)] at h5
    refine ⟨bs, E2, c.map (·.2), rfl, SqL.of h5, fun w hw => ?_, by rw [List.length_map]; exact hb, by rw [List.length_map]; exact h3, ?_⟩
    · obtain ⟨p, hp, rfl⟩ := List.mem_map.mp hw
      exact (c01 p hp).2
    refine ⟨sl2, fun r nr => ?_⟩
    exact q r _ ((s34.trans s45).trans (same_upd nr)) upd_same

/-! ### the first pairs that give what is wanted -/
theorem eqv_pr (p q : Int × Int) : PyData.eqv (prI p) (prI q) = decide (p = q) := by
  show ((p.1 == q.1) && ((p.2 == q.2) && true)) = _
  rw [Bool.and_true, Bool.eq_iff_iff, Bool.and_eq_true, decide_eq_true_iff, beq_iff_eq, beq_iff_eq]
  exact ⟨fun h => Prod.ext h.1 h.2, fun h => by rw [h]; exact ⟨rfl, rfl⟩⟩
theorem sh_pr (p : Int × Int) : SeqAt.shaped (prI p) = true := by
  unfold SeqAt.shaped prI
  rw [Bool.and_eq_true]
  refine ⟨?_, decide_eq_true ?_⟩
  · simp only [PyData.canLay0, PyData.canLayAll0, Bool.and_true]
  · simp only [PyData.depth, PyData.depthAll]
    decide
def prM (bs : List Bool) (c : List (Int × Int)) : Int × Int := (gateM bs (c.map (·.1)), gateM bs (c.map (·.2)))
def findM (bs : List Bool) (ws : List Wd) (p : Int × Int) : Option (List (Int × Int)) := (chs (ws.map pw)).find? fun c => decide (prM bs c = p)
def OptAt (H : Hp) (la : Addr) (ws : List Wd) : Prop := ∃ xs, H la = some (.lst xs) ∧ TkAll H xs (ws.map fun x => PyData.tuple ((pw x).map prI))
theorem OptAt.same {H H' : Hp} {la : Addr} {ws : List Wd} (h : OptAt H la ws) (s : Same H H') : OptAt H' la ws := by
  obtain ⟨xs, h1, h2⟩ := h
  exact ⟨xs, s _ _ h1, h2.same s⟩
theorem find_at {α : Type} {l : List α} {f : α → Bool} {c : α} {i : Nat} {x : α} (h : l.find? f = some c) (no : ∀ j y, j < i → l[j]? = some y → f y = false) (hx : l[i]? = some x) (e : f x = true) : x = c := by
  obtain ⟨h1, as, bs, h2, h3⟩ := List.find?_eq_some_iff_append.mp h
  subst h2
  rcases Nat.lt_trichotomy i as.length with z | z | z
  · rw [List.getElem?_append_left z] at hx
    have := h3 x (List.mem_of_getElem? hx)
    rw [e] at this
    cases this
  · subst z
    rw [List.getElem?_append_right (Nat.le_refl _), Nat.sub_self] at hx
    exact (Option.some.inj hx).symm
  · have := no as.length c z (by rw [List.getElem?_append_right (Nat.le_refl _), Nat.sub_self]; rfl)
    rw [this] at h1
    cases h1
def sp_pairs_for (K : PySem.W.Frag) : Sp := fun vs H Q _ => ∃ (bs : List Bool) (la wa : Addr) (ws : List Wd) (p : Int × Int) (c : List (Int × Int)), vs = [.str (tabOf bs), .ref la, .ref wa] ∧ OptAt H la ws ∧ H wa = some (.tup [.int p.1, .int p.2]) ∧ (∀ x ∈ ws, Wok x) ∧ bs.length = 2 ^ ws.length ∧ ws.length ≤ 4 ∧ findM bs ws p = some c ∧ ∀ r H', Same H H' → Tk H' (.ref r) (.tuple (c.map prI)) → Q (.ref r) H'
theorem ok_pairs_for (T : Tx w K mg) : FnOk P w K mg base CX0 3 T.f_pairs_for T.fd_pairs_for ["table", "options", "wanted"] (sp_pairs_for K) := by
  refine T.F_pairs_for.ok sc_pairs_for (fun vs H Q E h => ?_) (fun cdv A outer s H vs Q E hr h => ?_)
  · obtain ⟨bs, la, wa, ws, p, c, rfl, _⟩ := h
    rfl
  · obtain ⟨bs, la, wa, ws, p, c0, rfl, ⟨acc, hla, ta⟩, hwa, ok, hb, h3, hf, q⟩ := h
    refine ⟨_, (pss_cons (ps_for PassesOwn.never rfl (pi_tup (pe_call (ok_choices_of T) (hr.mono (by decide)) (by rfl) T.g_choices_of T.F_choices_of.kp T.b_choices_of .nil pass0 (pa_cons (pv 1) pa_nil))) (pg_name (i := 3) sc_pairs_for.nd rfl (by first | exact .inl rfl | exact .inr rfl)) (pss_one (ps_if (pt_cmpR (op_eqD hr.units) (pe_call (ok_pair_by T) (hr.mono (by decide)) (by rfl) T.g_pair_by T.F_pair_by.kp T.b_pair_by .nil pass0 (pa_cons (pv 0) (pa_cons (pv 3) pa_nil))) (pv 2) (nomark _)) (pss_one (ps_ret (pv 3))) pss_nil))) (pss_one (ps_ret pe_non))), ?_⟩
    have ta' : TkAll H acc ((ws.map fun x => (pw x).map prI).map PyData.tuple) := by
      rw [List.map_map]
      exact ta
    refine ⟨.ref la, rfl, la, acc, _, rfl, hla, ta', ⟨by rw [List.length_map]; exact h3, fun o ho => by
      obtain ⟨x, _, rfl⟩ := List.mem_map.mp ho
      rw [List.length_map]
      exact pairs4 x⟩, fun o ho => ?_, fun r H2 s2 tr => ?_⟩
    · obtain ⟨x, _, rfl⟩ := List.mem_map.mp ho
      rw [List.length_map]
      have := pairs4 x
      omega
    have eC : chs (ws.map fun x => (pw x).map prI) = (chs (ws.map pw)).map (List.map prI) := by
      rw [← chs_map prI _ _ rfl, List.map_map]
      rfl
    rw [eC] at tr
    obtain ⟨r', cs, e, hr2, tcs⟩ := tr.tup_inv
    cases e
    have lcs : cs.length = (chs (ws.map pw)).length := by rw [tcs.length, List.length_map, List.length_map]
    refine ⟨r, rfl, ⟨_, SqT.of hr2⟩, for_tup (K := K) (a := r) (xs := cs) (fun i σ H' => ∃ y3, σ = [some (.str (tabOf bs)), some (.ref la), some (.ref wa), y3] ∧ Same H2 H' ∧ ∀ j c, j < i → (chs (ws.map pw))[j]? = some c → decide (prM bs c = p) = false) ⟨_, rfl, Same.refl _, fun j c hj => absurd hj (Nat.not_lt_zero _)⟩ (fun i σ H' _ ⟨_, _, z, _⟩ => SqT.of (z _ _ hr2)) ?_ ?_⟩
    · rintro i v σ H3 hv ⟨y3, rfl, s3, none_⟩
      obtain ⟨dx, hdx, tx⟩ := tcs.get hv
      obtain ⟨c, hc, rfl⟩ : ∃ c, (chs (ws.map pw))[i]? = some c ∧ dx = .tuple (c.map prI) := by
        rw [List.getElem?_map, List.getElem?_map] at hdx
        cases hz : (chs (ws.map pw))[i]? with
        | none => rw [hz] at hdx; cases hdx
        | some c => rw [hz] at hdx; exact ⟨c, rfl, (Option.some.inj hdx).symm⟩
      have hcm := List.mem_of_getElem? hc
      have c01 : ∀ p ∈ c, (p.1 = 0 ∨ p.1 = 1) ∧ (p.2 = 0 ∨ p.2 = 1) := fun p hp => by
        obtain ⟨l, hl, hpl⟩ := chs_mem _ c hcm p hp
        obtain ⟨x, hx, rfl⟩ := List.mem_map.mp hl
        exact pairs01 (ok x hx) p hpl
      have lc : c.length = ws.length := by rw [chs_width _ c hcm, List.length_map]
      obtain ⟨pa, zs, rfl, _⟩ := tx.tup_inv
      refine ⟨.str (tabOf bs), rfl, .ref pa, rfl, bs, pa, c, rfl, tx.same s3, c01, by rw [lc]; exact hb, by rw [lc]; exact h3, fun r5 H5 s35 h5 => ?_⟩
      have s25 := s3.trans s35
      refine ⟨.ref wa, rfl, prI (prM bs c), prI p, .tup (SqT.of h5) (.cons (.int _) (.cons (.int _) .nil)), .tup (SqT.of (s25 _ _ (s2 _ _ hwa))) (.cons (.int _) (.cons (.int _) .nil)), sh_pr _, sh_pr _, _, rfl, ?_⟩
      rw [eqv_pr]
      refine ite2 (fun e => ?_) (fun e => ?_)
      · have := find_at hf (fun j y hj hy => none_ j y hj hy) hc e
        subst this
        exact ⟨.ref pa, rfl, q pa H5 (s2.trans s25) (tx.same s25)⟩
      · refine ⟨_, rfl, s25, fun j c' hj hc' => ?_⟩
        by_cases hji : j < i
        · exact none_ j c' hji hc'
        · have : j = i := by omega
          subst this
          cases Option.some.inj (hc.symm.trans hc')
          exact Bool.eq_false_iff.mpr e
    · rintro σ H3 ⟨y3, rfl, s3, none_⟩
      exfalso
      obtain ⟨j, hj⟩ := List.getElem?_of_mem (List.mem_of_find?_eq_some hf)
      have hjl : j < cs.length := by rw [lcs]; exact (List.getElem?_eq_some_iff.mp hj).1
      have := none_ j c0 hjl hj
      rw [List.find?_some hf] at this
      cases this

end
end Gk

set_option Elab.async false
set_option linter.all false
set_option maxRecDepth 100000
set_option maxHeartbeats 1000000
set_option pp.maxSteps 1500
set_option pp.deepTerms false
namespace Gk
open PySem PySem.Spec PyProof.Rows L2
/-! ### what is wanted can be had -/
def InsL {α : Type} (c : List α) (ls : List (List α)) : Prop := c.length = ls.length ∧ ∀ (i : Nat) (x : α) (l : List α), c[i]? = some x → ls[i]? = some l → x ∈ l
theorem ins_chs {α : Type} : ∀ (n : Nat) (ls : List (List α)) (c : List α), ls.length = n → InsL c ls → c ∈ chs ls := by
  intro n
  induction n with
  | zero =>
    intro ls c h hc
    cases List.eq_nil_of_length_eq_zero h
    have : c = [] := List.eq_nil_of_length_eq_zero (by rw [hc.1]; rfl)
    subst this
    exact List.mem_singleton.mpr rfl
  | succ n ih =>
    intro ls c h hc
    have hne : ls ≠ [] := fun z => by rw [z] at h; cases h
    obtain ⟨r, x, rfl⟩ : ∃ r x, ls = r ++ [x] := ⟨ls.dropLast, ls.getLast hne, (List.dropLast_concat_getLast hne).symm⟩
    have lr : r.length = n := by rw [List.length_append] at h; simpa using h
    have lc : c.length = n + 1 := by rw [hc.1]; exact h
    have cne : c ≠ [] := fun z => by rw [z] at lc; cases lc
    obtain ⟨c0, o, rfl⟩ : ∃ c0 o, c = c0 ++ [o] := ⟨c.dropLast, c.getLast cne, (List.dropLast_concat_getLast cne).symm⟩
    have l0 : c0.length = n := by rw [List.length_append] at lc; simpa using lc
    have h0 : c0 ∈ chs r := ih r c0 lr ⟨by rw [l0, lr], fun i y l e1 e2 => hc.2 i y l (by rw [List.getElem?_append_left (List.getElem?_eq_some_iff.mp e1).1]; exact e1) (by rw [List.getElem?_append_left (List.getElem?_eq_some_iff.mp e2).1]; exact e2)⟩
    have ho : o ∈ x := hc.2 n o x (by rw [← l0, List.getElem?_append_right (Nat.le_refl _), Nat.sub_self]; rfl) (by rw [← lr, List.getElem?_append_right (Nat.le_refl _), Nat.sub_self]; rfl)
    rw [chs_snoc]
    exact List.mem_flatMap.mpr ⟨c0, h0, List.mem_map.mpr ⟨o, ho, rfl⟩⟩
theorem chs_ins {α : Type} : ∀ (n : Nat) (ls : List (List α)) (c : List α), ls.length = n → c ∈ chs ls → InsL c ls := by
  intro n
  induction n with
  | zero =>
    intro ls c h hc
    cases List.eq_nil_of_length_eq_zero h
    cases List.mem_singleton.mp hc
    exact ⟨rfl, fun i x l e => by simp at e⟩
  | succ n ih =>
    intro ls c h hc
    have hne : ls ≠ [] := fun z => by rw [z] at h; cases h
    obtain ⟨r, x, rfl⟩ : ∃ r x, ls = r ++ [x] := ⟨ls.dropLast, ls.getLast hne, (List.dropLast_concat_getLast hne).symm⟩
    have lr : r.length = n := by rw [List.length_append] at h; simpa using h
    rw [chs_snoc] at hc
    obtain ⟨c0, h0, hc⟩ := List.mem_flatMap.mp hc
    obtain ⟨o, ho, rfl⟩ := List.mem_map.mp hc
    have i0 := ih r c0 lr h0
    refine ⟨by rw [List.length_append, List.length_append, i0.1]; rfl, fun i y l e1 e2 => ?_⟩
    by_cases z : i < c0.length
    · rw [List.getElem?_append_left z] at e1
      rw [List.getElem?_append_left (by rw [← i0.1]; exact z)] at e2
      exact i0.2 i y l e1 e2
    · rw [List.getElem?_append_right (by omega)] at e1
      rw [List.getElem?_append_right (by rw [← i0.1]; omega), ← i0.1] at e2
      obtain ⟨j, hj⟩ : ∃ j, i - c0.length = j := ⟨_, rfl⟩
      rw [hj] at e1 e2
      cases j with
      | zero =>
        cases Option.some.inj e1
        cases Option.some.inj e2
        exact ho
      | succ j => cases e1
theorem find_of {bs : List Bool} {ws : List Wd} {c : List (Int × Int)} {p : Int × Int} (hc : InsL c (ws.map pw)) (e : prM bs c = p) : ∃ c', findM bs ws p = some c' := by
  unfold findM
  cases h : (chs (ws.map pw)).find? fun c => decide (prM bs c = p) with
  | some c' => exact ⟨c', rfl⟩
  | none =>
    have := List.find?_eq_none.mp h c (ins_chs _ _ _ rfl hc)
    exact absurd (decide_eq_true e) this

section
variable {P : Program} {w : World} {K : PySem.W.Frag} {mg : Str → Option Value} {base : Heap}
/-! ### an input's delay -/
def inDel (w : Wd) (p : Int × Int) : Int := (if p.1 ≠ w.2.1 then 1 else 0) + (if p.2 ≠ w.2.1 then 1 else 0)
def sp_input_delay (T : Tx w K mg) : Sp := fun vs H Q _ => ∃ (wa pa : Addr) (x : Wd) (p : Int × Int), vs = [.ref wa, .ref pa] ∧ H wa = some (.tup [.int x.1, .int x.2.1, .bl x.2.2]) ∧ H pa = some (.tup [.int p.1, .int p.2]) ∧ GxR.TabG H T.P_input_delay ∧ ∀ H', Gr H H' → Q (.int (inDel x p)) H'
theorem ok_input_delay (T : Tx w K mg) (B : Tb base T) : FnOk P w K mg base CX0 2 T.f_input_delay T.fd_input_delay ["word", "pair"] (sp_input_delay T) := by
  refine okC T.F_input_delay sc_input_delay (fun vs H Q E h => ?_) (fun A outer s H vs Q E hr h => ?_)
  · obtain ⟨wa, pa, x, p, rfl, _⟩ := h
    rfl
  · obtain ⟨wa, pa, x, p, rfl, hwa, hpa, tab, q⟩ := h
    refine ⟨_, (pss_one (ps_ret (GxS.pe_sumX (own := [("worth", 2)]) (k := 0) (hr.mono (by decide)) rfl sc_input_delay.nd (by rfl) T.m_sum (by decide +kernel) B.TB_input_delay T.cd_input_delay rfl rfl (by decide +kernel) (blkOk_by (own := [("worth", 2)]) (N := ["word", "pair", "worth"]) (sc := defScope s_input_delay) (by decide +kernel)) (pi_tup (pv 1)) (fun _ _ _ _ _ _ _ hr gd => (pg_name (i := 2) sc_input_delay.nd rfl (by first | exact .inl rfl | exact .inr rfl))) (fun _ _ _ _ _ _ _ hr gd => (pts_one (pt_cmpR op_ne (pv 2) (pe_ix (show IxR _ (rIxT K) from ix_tup) (pv 0) pe_int (fun _ _ => rfl)) (nomark _)))) (fun _ _ _ _ _ _ _ hr gd => pe_int) (fun _ => rfl)))), ?_⟩
    refine ⟨.ref pa, rfl, pa, rfl, ⟨_, SqT.of hpa⟩, tab, fun H2 tb2 => ?_⟩
    have g2 := Gr.tab tab tb2
    refine gx_tup (K := K) (a := pa) (xs := [p.1, p.2].map V.int) (fun i acc H' => Gr H H' ∧ acc = ((([p.1, p.2].take i).filter fun y => decide (y ≠ x.2.1)).length : Nat)) ⟨g2, rfl⟩ (fun i _ H' _ z => SqT.of (z.1.tup hpa)) ?_ ?_
    · rintro i v acc H3 hv ⟨g3, rfl⟩
      rw [List.getElem?_map] at hv
      obtain ⟨y, hy, rfl⟩ := Option.map_eq_some_iff.mp hv
      have hi : i < 2 := (List.getElem?_eq_some_iff.mp hy).1
      have lf : (([p.1, p.2].take i).filter fun y => decide (y ≠ x.2.1)).length ≤ i := Nat.le_trans (List.length_filter_le ..) (by rw [List.length_take]; omega)
      have ef : ([p.1, p.2].take (i + 1)).filter (fun y => decide (y ≠ x.2.1)) = ([p.1, p.2].take i).filter (fun y => decide (y ≠ x.2.1)) ++ (if decide (y ≠ x.2.1) = true then [y] else []) := by
        rw [List.take_add_one, hy, List.filter_append]
        congr 1
        show List.filter _ [y] = _
        rw [List.filter_cons, List.filter_nil]
      refine ⟨rfl, .int y, rfl, .ref wa, rfl, wa, _, 1, .int x.2.1, rfl, rfl, SqT.of (g3.tup hwa), rfl, rfl, _, rfl, ite2 (fun e => ?_) (fun e => ⟨g3, ?_⟩)⟩
      · rw [evI] at e
        have e' : y ≠ x.2.1 := by simpa using e
        refine ⟨1, rfl, ⟨by decide, by decide⟩, ⟨by omega, by omega⟩, g3, ?_⟩
        rw [ef, if_pos (decide_eq_true e'), List.length_append]
        push_cast
        rfl
      · rw [evI] at e
        have e' : ¬ y ≠ x.2.1 := by simpa using e
        rw [ef, if_neg (fun z => e' (of_decide_eq_true z)), List.append_nil]
    · rintro acc H3 ⟨g3, rfl⟩
      have z := q H3 g3
      have : inDel x p = ((([p.1, p.2].take ([p.1, p.2].map V.int).length).filter fun y => decide (y ≠ x.2.1)).length : Nat) := by
        unfold inDel
        by_cases h1 : p.1 = x.2.1 <;> by_cases h2 : p.2 = x.2.1 <;> simp [h1, h2]
      rw [this] at z
      exact z

/-! ### delays by which a form has a pair at the times 0 and 1 -/
def Tri.wt (t : Tri) : Wd := (((t.f : Nat) : Int), ((t.l : Nat) : Int), decide (1 < t.num))
theorem Tri.wt_ok {t : Tri} (h : t.Ok) : Wok t.wt := by
  obtain ⟨a, b, _, _⟩ := h
  constructor
  · show ((t.f : Nat) : Int) = 0 ∨ ((t.f : Nat) : Int) = 1
    omega
  · show ((t.l : Nat) : Int) = 0 ∨ ((t.l : Nat) : Int) = 1
    omega
theorem Tri.wt_bi {t : Tri} (h : t.Ok) : t.wt = (bi t.fb, bi t.lb, t.mb) := by
  obtain ⟨a, b, _, _⟩ := h
  have e1 : ((t.f : Nat) : Int) = bi t.fb := by
    unfold Tri.fb
    rcases (show t.f = 0 ∨ t.f = 1 by omega) with z | z <;> rw [z] <;> rfl
  have e2 : ((t.l : Nat) : Int) = bi t.lb := by
    unfold Tri.lb
    rcases (show t.l = 0 ∨ t.l = 1 by omega) with z | z <;> rw [z] <;> rfl
  unfold Tri.wt
  rw [e1, e2]
  rfl
theorem pw_bits : ∀ f l m x y : Bool, (bi x, bi y) ∈ pw (bi f, bi l, m) ↔ inB f l m x y = true := by
  unfold pw
  decide +kernel
theorem Tri.pw_sees {t : Tri} (h : t.Ok) (x y : Bool) : (bi x, bi y) ∈ pw t.wt ↔ t.sees (x, y) = true := by
  rw [Tri.wt_bi h]
  exact pw_bits ..
theorem bit_of {x : Int} (h : x = 0 ∨ x = 1) : ∃ y : Bool, x = bi y := by
  rcases h with z | z
  · exact ⟨false, z⟩
  · exact ⟨true, z⟩
theorem Tri.pw_bit {t : Tri} (h : t.Ok) {p : Int × Int} (hp : p ∈ pw t.wt) : ∃ x y : Bool, p = (bi x, bi y) := by
  obtain ⟨a, b⟩ := pairs01 (Tri.wt_ok h) p hp
  obtain ⟨x, ex⟩ := bit_of a
  obtain ⟨y, ey⟩ := bit_of b
  exact ⟨x, y, Prod.ext ex ey⟩
def opB (c : Bool) (l : List Bool) : Bool := if c = true then l.all id else l.any id
theorem opW_bi (c : Bool) : ∀ l : List Bool, opW c (l.map bi) = bi (opB c l)
  | [] => by cases c <;> rfl
  | x :: r => by
    have ih := opW_bi c r
    revert ih
    cases c
    · cases x
      · intro ih
        show (if (1 : Int) ∈ bi false :: r.map bi then (1 : Int) else 0) = bi (r.any id)
        have ih : (if (1 : Int) ∈ r.map bi then (1 : Int) else 0) = bi (r.any id) := ih
        rw [← ih]
        by_cases z : (1 : Int) ∈ r.map bi
        · rw [if_pos z, if_pos (List.mem_cons_of_mem _ z)]
        · rw [if_neg z, if_neg (fun k => (List.mem_cons.mp k).elim (fun e => absurd e (by decide)) z)]
      · intro _
        show (if (1 : Int) ∈ bi true :: r.map bi then (1 : Int) else 0) = bi true
        rw [if_pos (show (1 : Int) ∈ bi true :: r.map bi from List.mem_cons_self)]
        rfl
    · cases x
      · intro _
        show (if (0 : Int) ∈ bi false :: r.map bi then (0 : Int) else 1) = bi false
        rw [if_pos (show (0 : Int) ∈ bi false :: r.map bi from List.mem_cons_self)]
        rfl
      · intro ih
        show (if (0 : Int) ∈ bi true :: r.map bi then (0 : Int) else 1) = bi (r.all id)
        have ih : (if (0 : Int) ∈ r.map bi then (0 : Int) else 1) = bi (r.all id) := ih
        rw [← ih]
        by_cases z : (0 : Int) ∈ r.map bi
        · rw [if_pos z, if_pos (List.mem_cons_of_mem _ z)]
        · rw [if_neg z, if_neg (fun k => (List.mem_cons.mp k).elim (fun e => absurd e (by decide)) z)]
theorem Tri.op_cons {c : Bool} {t : Tri} {r : List Tri} (h : ∀ s ∈ r, s.Ok) : Tri.op c (t :: r) = if c = true then t.and (Tri.op c r) else t.or (Tri.op c r) := by
  cases c
  · rw [if_neg (by decide)]
    show (t.neg.and (Tri.all (r.map Tri.neg))).neg = (t.neg.and (Tri.all (r.map Tri.neg)).neg.neg).neg
    rw [Tri.neg_neg (Tri.all_ok (Tri.map_ok h))]
  · rw [if_pos rfl]
    rfl
theorem Tri.sees_op {c : Bool} : ∀ {ts : List Tri}, (∀ t ∈ ts, t.Ok) → ∀ x y : Bool, (Tri.op c ts).sees (x, y) = true → ∃ qs : List (Bool × Bool), qs.length = ts.length ∧ (∀ (i : Nat) (q : Bool × Bool) (t : Tri), qs[i]? = some q → ts[i]? = some t → t.sees q = true) ∧ x = opB c (qs.map (·.1)) ∧ y = opB c (qs.map (·.2))
  | [], _, x, y, h => by
    have key : ∀ c x y : Bool, (Tri.op c []).sees (x, y) = true → x = opB c [] ∧ y = opB c [] := by decide +kernel
    obtain ⟨e1, e2⟩ := key c x y h
    exact ⟨[], rfl, fun i q t hq => (by cases hq), e1, e2⟩
  | t :: r, ok, x, y, h => by
    have ot := ok t List.mem_cons_self
    have okr : ∀ s ∈ r, s.Ok := fun s hs => ok s (List.mem_cons_of_mem _ hs)
    have oo : (Tri.op c r).Ok := Tri.op_ok okr
    have more : ∀ a b a' b' : Bool, t.sees (a, b) = true → (Tri.op c r).sees (a', b') = true → x = opB c [a, a'] → y = opB c [b, b'] → ∃ qs : List (Bool × Bool), qs.length = (t :: r).length ∧ (∀ (i : Nat) (q : Bool × Bool) (s : Tri), qs[i]? = some q → (t :: r)[i]? = some s → s.sees q = true) ∧ x = opB c (qs.map (·.1)) ∧ y = opB c (qs.map (·.2)) := by
      intro a b a' b' h1 h2 e1 e2
      obtain ⟨qs, lq, hq, f1, f2⟩ := Tri.sees_op okr a' b' h2
      refine ⟨(a, b) :: qs, congrArg Nat.succ lq, fun i q s i1 i2 => ?_, ?_, ?_⟩
      · cases i with
        | zero =>
          cases Option.some.inj i1
          cases Option.some.inj i2
          exact h1
        | succ i => exact hq i q s i1 i2
      · rw [e1, f1]
        cases c
        · show (a || (_ || false)) = (a || _)
          rw [Bool.or_false]
          rfl
        · show (a && (_ && true)) = (a && _)
          rw [Bool.and_true]
          rfl
      · rw [e2, f2]
        cases c
        · show (b || (_ || false)) = (b || _)
          rw [Bool.or_false]
          rfl
        · show (b && (_ && true)) = (b && _)
          rw [Bool.and_true]
          rfl
    rw [Tri.op_cons okr] at h
    cases c
    · rw [if_neg (by decide)] at h
      obtain ⟨a, b, a', b', h1, h2, e1, e2⟩ := (Tri.sees_or ot oo x y).mp h
      exact more a b a' b' h1 h2 (by rw [e1]; cases a <;> cases a' <;> rfl) (by rw [e2]; cases b <;> cases b' <;> rfl)
    · rw [if_pos rfl] at h
      obtain ⟨a, b, a', b', h1, h2, e1, e2⟩ := (Tri.sees_and ot oo x y).mp h
      exact more a b a' b' h1 h2 (by rw [e1]; cases a <;> cases a' <;> rfl) (by rw [e2]; cases b <;> cases b' <;> rfl)
def Fm.wd (a b : List Int) (f : Fm) : Wd := (f.tri a b).wt
theorem Fm.achieve {a b : List Int} {m : Nat} {f : Fm} {p : Int × Int} (ha : Row01 a) (hb : Row01 b) (ok : f.ok m = true) (ne : f.inner ≠ []) (hp : p ∈ pw (f.wd a b)) : ∃ c, findM f.tb (f.inner.map (Fm.wd a b)) p = some c := by
  obtain ⟨x, y, rfl⟩ := Tri.pw_bit (Fm.tri_ok ha hb f) hp
  have hs := (Tri.pw_sees (Fm.tri_ok ha hb f) x y).mp hp
  cases f with
  | st _ => exact absurd rfl ne
  | inp _ => exact absurd rfl ne
  | no f =>
    have ot := Fm.tri_ok ha hb f
    have hs : (f.tri a b).neg.sees (x, y) = true := hs
    rw [Tri.sees_neg ot] at hs
    refine find_of (c := [(bi !x, bi !y)]) ⟨rfl, fun i q l h1 h2 => ?_⟩ ?_
    · cases i with
      | zero =>
        cases Option.some.inj h1
        cases Option.some.inj h2
        exact (Tri.pw_sees ot _ _).mpr hs
      | succ i => cases h1
    · show (gateM [true, false] [bi !x], gateM [true, false] [bi !y]) = (bi x, bi y)
      cases x <;> cases y <;> rfl
  | op c fs =>
    have okT : ∀ t ∈ fs.map (Fm.tri a b), t.Ok := Fm.map_ok ha hb fs
    rw [Fm.tri_app] at hs
    obtain ⟨qs, lq, hq, e1, e2⟩ := Tri.sees_op okT x y hs
    have ok : ((decide (2 ≤ fs.length) && decide (fs.length ≤ 4)) && Fm.oks m fs) = true := ok
    rw [Bool.and_eq_true, Bool.and_eq_true, decide_eq_true_eq, decide_eq_true_eq] at ok
    rw [List.length_map] at lq
    refine find_of (c := qs.map fun q => (bi q.1, bi q.2)) ⟨by rw [List.length_map, List.length_map, List.length_map]; exact lq, fun i q l h1 h2 => ?_⟩ ?_
    · rw [List.getElem?_map] at h1
      obtain ⟨q', hq', rfl⟩ := Option.map_eq_some_iff.mp h1
      rw [List.getElem?_map] at h2
      obtain ⟨w', hw', rfl⟩ := Option.map_eq_some_iff.mp h2
      have hw' : (fs.map (Fm.wd a b))[i]? = some w' := hw'
      rw [List.getElem?_map] at hw'
      obtain ⟨g, hg, rfl⟩ := Option.map_eq_some_iff.mp hw'
      exact (Tri.pw_sees (Fm.tri_ok ha hb g) q'.1 q'.2).mpr (hq i q' (g.tri a b) hq' (by rw [List.getElem?_map, hg]; rfl))
    · have side : ∀ l : List Bool, l.length = fs.length → gateM (opT c fs.length) (l.map bi) = bi (opB c l) := fun l hl => by
        have := gate_op (c := c) (ws := l.map bi) (by rw [List.length_map]; omega) (by rw [List.length_map]; omega) fun x hx => by
          obtain ⟨u, _, rfl⟩ := List.mem_map.mp hx
          cases u
          · exact .inl rfl
          · exact .inr rfl
        rw [List.length_map, hl] at this
        rw [this, opW_bi]
      show (gateM (opT c fs.length) ((qs.map fun q => (bi q.1, bi q.2)).map (·.1)), gateM (opT c fs.length) ((qs.map fun q => (bi q.1, bi q.2)).map (·.2))) = _
      rw [e1, e2, ← side (qs.map (·.1)) (by rw [List.length_map]; exact lq), ← side (qs.map (·.2)) (by rw [List.length_map]; exact lq), List.map_map, List.map_map, List.map_map, List.map_map]
      rfl
mutual
def Fm.late (a b : List Int) : Fm → (Int × Int) → List Int
  | .st _, _ => []
  | .inp i, p => [inDel ((Fm.inp i).wd a b) p]
  | .no f, p => f.late a b (((findM [true, false] [f.wd a b] p).getD []).headD (0, 0))
  | .op c fs, p => Fm.lates a b fs ((findM (opT c fs.length) (fs.map (Fm.wd a b)) p).getD [])
def Fm.lates (a b : List Int) : List Fm → List (Int × Int) → List Int
  | [], _ => []
  | f :: r, ps => f.late a b (ps.headD (0, 0)) ++ Fm.lates a b r ps.tail
end
theorem Fm.late_eq {a b : List Int} {f : Fm} (ne : f.inner ≠ []) (p : Int × Int) : f.late a b p = Fm.lates a b f.inner ((findM f.tb (f.inner.map (Fm.wd a b)) p).getD []) := by
  cases f with
  | st _ => exact absurd rfl ne
  | inp _ => exact absurd rfl ne
  | no f => exact (List.append_nil _).symm
  | op c fs => rfl
theorem Fm.lates_snoc (a b : List Int) (g : Fm) (q : Int × Int) : ∀ (fs : List Fm) (ps : List (Int × Int)), ps.length = fs.length → Fm.lates a b (fs ++ [g]) (ps ++ [q]) = Fm.lates a b fs ps ++ g.late a b q
  | [], [], _ => (List.append_nil _).trans (List.nil_append _).symm
  | [], _ :: _, h => by cases h
  | _ :: _, [], h => by cases h
  | f :: r, p :: ps, h => by
    show f.late a b p ++ Fm.lates a b (r ++ [g]) (ps ++ [q]) = (f.late a b p ++ Fm.lates a b r ps) ++ g.late a b q
    rw [Fm.lates_snoc a b g q r ps (by simpa using h), List.append_assoc]
theorem inp_pulse : ∀ x y u v : Bool, (bi u, bi v) ∈ pw (bi x, bi y, false) → (0 ≤ inDel (bi x, bi y, false) (bi u, bi v) ∧ inDel (bi x, bi y, false) (bi u, bi v) ≤ 2) ∧ (if inDel (bi x, bi y, false) (bi u, bi v) ≤ -1 then bi y else bi x) = bi x ∧ (if inDel (bi x, bi y, false) (bi u, bi v) ≤ 0 then bi y else bi x) = bi u ∧ (if inDel (bi x, bi y, false) (bi u, bi v) ≤ 1 then bi y else bi x) = bi v := by
  unfold pw
  decide +kernel
structure LateOk (a b : List Int) (f : Fm) (p : Int × Int) (D : List Int) : Prop where
  len : D.length = f.ins
  bd : ∀ d ∈ D, 0 ≤ d ∧ d ≤ 2
  m1 : f.vt a b (-1) D = f.wo a
  z : f.vt a b 0 D = p.1
  o : f.vt a b 1 D = p.2
structure LatesOk (a b : List Int) (fs : List Fm) (c : List (Int × Int)) (D : List Int) : Prop where
  len : D.length = Fm.inss fs
  bd : ∀ d ∈ D, 0 ≤ d ∧ d ≤ 2
  m1 : Fm.vts a b (-1) fs D = Fm.wos a fs
  z : Fm.vts a b 0 fs D = c.map (·.1)
  o : Fm.vts a b 1 fs D = c.map (·.2)
theorem find_ins {bs : List Bool} {ws : List Wd} {p : Int × Int} {c : List (Int × Int)} (h : findM bs ws p = some c) : InsL c (ws.map pw) ∧ prM bs c = p :=
  ⟨chs_ins _ _ _ rfl (List.mem_of_find?_eq_some h), by have z := List.find?_some h; exact of_decide_eq_true z⟩
section
variable {a b : List Int} {m : Nat}
mutual
theorem Fm.late_ok (ha : Row01 a) (hb : Row01 b) : ∀ (f : Fm) (p : Int × Int), f.ok m = true → p ∈ pw (f.wd a b) → LateOk a b f p (f.late a b p)
  | .st c, p, _, hp => by
    have key : ∀ c u v : Bool, (bi u, bi v) ∈ pw ((if c = true then Tri.one else Tri.nought).wt) → bi u = (if c = true then 1 else 0) ∧ bi v = (if c = true then 1 else 0) := by
      unfold pw
      decide +kernel
    obtain ⟨u, v, rfl⟩ := Tri.pw_bit (Fm.tri_ok ha hb (.st c)) hp
    obtain ⟨e1, e2⟩ := key c u v hp
    exact ⟨rfl, fun d hd => (by cases hd), rfl, e1.symm, e2.symm⟩
  | .inp i, p, _, hp => by
    obtain ⟨u, v, rfl⟩ := Tri.pw_bit (Fm.tri_ok ha hb (.inp i)) hp
    obtain ⟨x, ex⟩ := bit_of (row_get ha i)
    obtain ⟨y, ey⟩ := bit_of (row_get hb i)
    have ew : (Fm.inp i).wd a b = (bi x, bi y, false) := by
      show Tri.wt ⟨(a.getD i 0).toNat, (b.getD i 0).toNat, max (a.getD i 0).toNat (b.getD i 0).toNat⟩ = _
      rw [ex, ey]
      cases x <;> cases y <;> rfl
    have hp' := hp
    rw [ew] at hp'
    obtain ⟨bd, z1, z2, z3⟩ := inp_pulse x y u v hp'
    show LateOk a b (.inp i) (bi u, bi v) [inDel ((Fm.inp i).wd a b) (bi u, bi v)]
    rw [ew]
    refine ⟨rfl, fun d hd => by rw [List.mem_singleton.mp hd]; exact bd, ?_, ?_, ?_⟩
    · show (if inDel (bi x, bi y, false) (bi u, bi v) ≤ -1 then b.getD i 0 else a.getD i 0) = a.getD i 0
      rw [ex, ey]
      exact z1
    · show (if inDel (bi x, bi y, false) (bi u, bi v) ≤ 0 then b.getD i 0 else a.getD i 0) = bi u
      rw [ex, ey]
      exact z2
    · show (if inDel (bi x, bi y, false) (bi u, bi v) ≤ 1 then b.getD i 0 else a.getD i 0) = bi v
      rw [ex, ey]
      exact z3
  | .no f, p, ok, hp => by
    obtain ⟨c, hc⟩ := Fm.achieve (f := .no f) ha hb ok (List.cons_ne_nil _ _) hp
    have hc : findM [true, false] [f.wd a b] p = some c := hc
    obtain ⟨ins, pr⟩ := find_ins hc
    have lc : c.length = 1 := ins.1
    match c, lc with
    | [q], _ =>
      have hq : q ∈ pw (f.wd a b) := ins.2 0 q _ rfl rfl
      have ih := Fm.late_ok ha hb f q ok hq
      have q01 := pairs01 (Tri.wt_ok (Fm.tri_ok ha hb f)) q hq
      have e : (Fm.no f).late a b p = f.late a b q := by
        show f.late a b (((findM [true, false] [f.wd a b] p).getD []).headD (0, 0)) = _
        rw [hc]
        rfl
      rw [e]
      have p1 : 1 - q.1 = p.1 := by rw [← pr]; exact (gate_not q01.1).symm
      have p2 : 1 - q.2 = p.2 := by rw [← pr]; exact (gate_not q01.2).symm
      refine ⟨ih.len, ih.bd, ?_, ?_, ?_⟩
      · show 1 - f.vt a b (-1) _ = 1 - f.wo a
        rw [ih.m1]
      · show 1 - f.vt a b 0 _ = p.1
        rw [ih.z, p1]
      · show 1 - f.vt a b 1 _ = p.2
        rw [ih.o, p2]
  | .op c fs, p, ok, hp => by
    obtain ⟨ch, hc⟩ := Fm.achieve (f := .op c fs) ha hb ok (fun z => by have z : fs = [] := z; subst z; cases ok) hp
    have hc : findM (opT c fs.length) (fs.map (Fm.wd a b)) p = some ch := hc
    obtain ⟨ins, pr⟩ := find_ins hc
    have ok : ((decide (2 ≤ fs.length) && decide (fs.length ≤ 4)) && Fm.oks m fs) = true := ok
    rw [Bool.and_eq_true, Bool.and_eq_true, decide_eq_true_eq, decide_eq_true_eq] at ok
    have lc : ch.length = fs.length := by rw [ins.1, List.length_map, List.length_map]
    have ih := Fm.lates_ok ha hb fs ch ok.2 (by rw [List.map_map] at ins; exact ins)
    have e : (Fm.op c fs).late a b p = Fm.lates a b fs ch := by
      show Fm.lates a b fs ((findM (opT c fs.length) (fs.map (Fm.wd a b)) p).getD []) = _
      rw [hc]
      rfl
    rw [e]
    have c01 : ∀ q ∈ ch, (q.1 = 0 ∨ q.1 = 1) ∧ (q.2 = 0 ∨ q.2 = 1) := fun q hq => by
      obtain ⟨i, hi⟩ := List.getElem?_of_mem hq
      have il := (List.getElem?_eq_some_iff.mp hi).1
      obtain ⟨g, hg⟩ : ∃ g, fs[i]? = some g := ⟨_, List.getElem?_eq_getElem (by omega)⟩
      exact pairs01 (Tri.wt_ok (Fm.tri_ok ha hb g)) q (ins.2 i q _ hi (by rw [List.getElem?_map, List.getElem?_map, hg]; rfl))
    have side : ∀ l : List Int, l.length = fs.length → (∀ x ∈ l, x = 0 ∨ x = 1) → opW c l = gateM (opT c fs.length) l := fun l hl h => by
      have := gate_op (c := c) (ws := l) (by omega) (by omega) h
      rw [hl] at this
      exact this.symm
    have p1 : gateM (opT c fs.length) (ch.map (·.1)) = p.1 := by rw [← pr]; rfl
    have p2 : gateM (opT c fs.length) (ch.map (·.2)) = p.2 := by rw [← pr]; rfl
    refine ⟨ih.len, ih.bd, ?_, ?_, ?_⟩
    · show opW c (Fm.vts a b (-1) fs _) = _
      rw [ih.m1]
      rfl
    · show opW c (Fm.vts a b 0 fs _) = p.1
      rw [ih.z, ← p1]
      exact side _ (by rw [List.length_map]; exact lc) fun x hx => by
        obtain ⟨q, hq, rfl⟩ := List.mem_map.mp hx
        exact (c01 q hq).1
    · show opW c (Fm.vts a b 1 fs _) = p.2
      rw [ih.o, ← p2]
      exact side _ (by rw [List.length_map]; exact lc) fun x hx => by
        obtain ⟨q, hq, rfl⟩ := List.mem_map.mp hx
        exact (c01 q hq).2
theorem Fm.lates_ok (ha : Row01 a) (hb : Row01 b) : ∀ (fs : List Fm) (c : List (Int × Int)), Fm.oks m fs = true → InsL c (fs.map (pw ∘ Fm.wd a b)) → LatesOk a b fs c (Fm.lates a b fs c)
  | [], c, _, h => by
    have : c = [] := List.eq_nil_of_length_eq_zero (by rw [h.1]; rfl)
    subst this
    exact ⟨rfl, fun d hd => (by cases hd), rfl, rfl, rfl⟩
  | f :: r, [], _, h => by cases h.1
  | f :: r, q :: c, ok, h => by
    have ok : (f.ok m && Fm.oks m r) = true := ok
    rw [Bool.and_eq_true] at ok
    have i1 := Fm.late_ok ha hb f q ok.1 (h.2 0 q _ rfl rfl)
    have i2 := Fm.lates_ok ha hb r c ok.2 ⟨by simpa using h.1, fun i x l h1 h2 => h.2 (i + 1) x l h1 h2⟩
    show LatesOk a b (f :: r) (q :: c) (f.late a b q ++ Fm.lates a b r c)
    have cut : ∀ t, Fm.vts a b t (f :: r) (f.late a b q ++ Fm.lates a b r c) = f.vt a b t (f.late a b q) :: Fm.vts a b t r (Fm.lates a b r c) := fun t => by
      show f.vt a b t (f.late a b q ++ Fm.lates a b r c) :: Fm.vts a b t r ((f.late a b q ++ Fm.lates a b r c).drop f.ins) = _
      rw [Fm.vt_take t f _ _ (by rw [i1.len]; exact Nat.le_refl _), List.drop_left' i1.len]
    refine ⟨by rw [List.length_append, i1.len, i2.len]; rfl, fun d hd => (List.mem_append.mp hd).elim (i1.bd d) (i2.bd d), ?_, ?_, ?_⟩
    · rw [cut, i1.m1, i2.m1]
      rfl
    · rw [cut, i1.z, i2.z]
      rfl
    · rw [cut, i1.o, i2.o]
      rfl
end
end
theorem two_in {l : List Int} (h0 : (0 : Int) ∈ l) (h1 : (1 : Int) ∈ l) : 1 < l.length := by
  match l, h0, h1 with
  | [], h, _ => cases h
  | [x], h, k =>
    rw [List.mem_singleton] at h k
    omega
  | x :: y :: r, _, _ => show 1 < r.length + 2; omega
theorem Wv.twice {x : Int × List Int} {f : Int → Int} (W : Wv x f) (h0 : f 0 ≠ f (-1)) (h1 : f 1 ≠ f 0) : 1 < x.2.length :=
  two_in ((W.mem 0).mpr h0) ((W.mem 1).mpr h1)

end
end Gk

set_option Elab.async false
set_option linter.all false
set_option maxRecDepth 100000
set_option maxHeartbeats 1000000
set_option pp.maxSteps 1500
set_option pp.deepTerms false
namespace Gk
open PySem PySem.Spec PyProof.Rows L2
section
variable {P : Program} {w : World} {K : PySem.W.Frag} {mg : Str → Option Value} {base : Heap}
/-! ### delays that show a form -/
theorem Fm.inner_cases {H : Hp} {v : V} {f : Fm} {m : Nat} (tk : Tk H v f.d) (ok : f.ok m = true) : (∃ b, f = .st b) ∨ (∃ i, f = .inp i) ∨ f.inner ≠ [] ∧ ∃ a z rest, v = .ref a ∧ H a = some (.tup (.str z :: rest)) ∧ z ≠ wIn ∧ z ≠ wOne ∧ z ≠ wNou := by
  cases f with
  | st b => exact .inl ⟨b, rfl⟩
  | inp i => exact .inr (.inl ⟨i, rfl⟩)
  | no f =>
    obtain ⟨a, w', rfl, ha, _⟩ := Fm.tk_no tk
    exact .inr (.inr ⟨List.cons_ne_nil _ _, a, _, _, rfl, ha, by decide +kernel, by decide +kernel, by decide +kernel⟩)
  | op c fs =>
    obtain ⟨a, b, ys, rfl, ha, _⟩ := Fm.tk_op tk
    refine .inr (.inr ⟨fun z => ?_, a, _, _, rfl, ha, by cases c <;> decide +kernel, by cases c <;> decide +kernel, by cases c <;> decide +kernel⟩)
    have z : fs = [] := z
    subst z
    cases ok
mutual
theorem Fm.late_le (a b : List Int) : ∀ (f : Fm) (p : Int × Int), (f.late a b p).length ≤ f.ins
  | .st _, _ => Nat.le_refl _
  | .inp _, _ => Nat.le_refl _
  | .no f, p => Fm.late_le a b f _
  | .op c fs, p => Fm.lates_le a b fs _
theorem Fm.lates_le (a b : List Int) : ∀ (fs : List Fm) (ps : List (Int × Int)), (Fm.lates a b fs ps).length ≤ Fm.inss fs
  | [], _ => Nat.le_refl _
  | f :: r, ps => by
    have h1 := Fm.late_le a b f (ps.headD (0, 0))
    have h2 := Fm.lates_le a b r ps.tail
    show (f.late a b (ps.headD (0, 0)) ++ Fm.lates a b r ps.tail).length ≤ f.ins + Fm.inss r
    rw [List.length_append]
    omega
end
theorem noL_prI (p : Int × Int) : noL (prI p) = true := rfl
theorem tkPairsG {H : Hp} : ∀ ks : List (Addr × Int × Int), (∀ k ∈ ks, PairAt H k) → TkAll H (ks.map fun k => V.ref k.1) ((ks.map (·.2)).map prI)
  | [], _ => .nil
  | k :: r, h => .cons (.tup (h k (List.mem_cons_self ..)) (.cons (.int _) (.cons (.int _) .nil))) (tkPairsG r fun x hx => h x (List.mem_cons_of_mem _ hx))
theorem PairsAt.tkG {H : Hp} {r : Addr} {ps : List (Int × Int)} (h : PairsAt H r ps) : Tk H (.ref r) (.tuple (ps.map prI)) := by
  obtain ⟨ks, h1, h2, h3⟩ := h
  rw [← h3]
  exact .tup h1 (tkPairsG ks h2)
def sp_lates_by (T : Tx w K mg) (e : Nat) : Sp := fun vs H Q _ => ∃ (v c : V) (wa : Addr) (f : Fm) (m : Nat) (a b : List Int) (p : Int × Int), vs = [v, c, .ref wa] ∧ Tk H v f.d ∧ f.ok m = true ∧ f.dep ≤ e ∧ e ≤ 22 ∧ f.cnt ≤ 1000 ∧ Tk H c (chD a b) ∧ a.length = m ∧ b.length = m ∧ Row01 a ∧ Row01 b ∧ H wa = some (.tup [.int p.1, .int p.2]) ∧ p ∈ pw (f.wd a b) ∧ GxR.TabG H T.P_most_of_and ∧ GxR.TabG H T.P_input_delay ∧
  ∀ r H', Gr H H' → H' r = some (.tup ((f.late a b p).map V.int)) → Q (.ref r) H'
theorem ok_lates_byE (T : Tx w K mg) (B : Tb base T) : ∀ e : Nat, FnOk P w K mg base CX0 (e + 33) T.f_lates_by T.fd_lates_by ["form", "change", "pair"] (sp_lates_by T e)
  | 0 => ⟨fun _ _ _ _ h => by obtain ⟨_, _, _, f, _, _, _, _, _, _, _, h, _⟩ := h; exact absurd h (by have := Fm.dep_pos f; omega), fun _ _ _ _ _ _ _ _ _ _ _ _ _ h => by obtain ⟨_, _, _, f, _, _, _, _, _, _, _, h, _⟩ := h; exact absurd h (by have := Fm.dep_pos f; omega)⟩
  | e + 1 => by
    have ih := ok_lates_byE T B e
    refine T.F_lates_by.ok sc_lates_by (fun vs H Q E h => ?_) (fun cdv A outer s H vs Q E hr h => ?_)
    · obtain ⟨v, c, wa, f, m, a, b, p, rfl, _⟩ := h
      rfl
    · obtain ⟨v, c, wa, f, m, a, b, p, rfl, tk, ok, de, e22, cf, tc, la, lb, a01, b01, hwa, hp, tm, ti, q⟩ := h
      refine ⟨_, (pss_cons (ps_if (pt_cmpR op_eq (pe_ix ix_tup (pv 0) pe_int (fun _ _ => rfl)) pe_str (nomark _)) (pss_one (ps_ret (pe_tup (pa_cons (pe_call (ok_input_delay T B) (hr.mono (by omega)) (by rfl) T.g_input_delay T.F_input_delay.kp T.b_input_delay .nil pass0 (pa_cons (pe_call (ok_form_word T B) (hr.mono (by omega)) (by rfl) T.g_form_word T.F_form_word.kp T.b_form_word .nil pass0 (pa_cons (pv 0) (pa_cons (pv 1) pa_nil))) (pa_cons (pv 2) pa_nil))) pa_nil)))) pss_nil) (pss_cons (ps_set (i := 3) sc_lates_by.nd rfl (by first | exact .inl rfl | exact .inr rfl) (pe_call (ok_inner_of T) (hr.mono (by omega)) (by rfl) T.g_inner_of T.F_inner_of.kp T.b_inner_of .nil pass0 (pa_cons (pv 0) pa_nil))) (pss_cons (ps_if (pt_not (pt_truth (pv 3) (by intro _; rfl))) (pss_one (ps_ret (pe_tup pa_nil))) pss_nil) (pss_cons (ps_setLc (i := 4) (own := [("part", 6)]) (by rfl) sc_lates_by.nd rfl rfl (sw_true rfl rfl rfl (by decide +kernel)) (pi_tup (pv 3)) (blkOk_by (own := [("part", 6)]) (N := ["form", "change", "pair", "inner", "options", "lates", "part", "wanted"]) (sc := defScope s_lates_by) (by decide +kernel)) (fun _ _ _ _ _ => (pg_name (i := 6) sc_lates_by.nd rfl (by first | exact .inl rfl | exact .inr rfl))) (fun _ _ _ _ _ => pts_nil) (fun _ _ _ _ _ => (pe_call (ok_pairs_of T) (hr.mono (by omega)) (by rfl) T.g_pairs_of T.F_pairs_of.kp T.b_pairs_of .nil pass0 (pa_cons (pe_call (ok_form_word T B) (hr.mono (by omega)) (by rfl) T.g_form_word T.F_form_word.kp T.b_form_word .nil pass0 (pa_cons (pv 6) (pa_cons (pv 1) pa_nil))) pa_nil)))) (pss_cons (ps_set (i := 5) sc_lates_by.nd rfl (by first | exact .inl rfl | exact .inr rfl) (pe_tup pa_nil)) (pss_cons (ps_for PassesOwn.never rfl (ZpG.pi_zip2 (by rfl) T.m_zip (pa_cons (pv 3) (pa_cons (pe_call (ok_pairs_for T) (hr.mono (by omega)) (by rfl) T.g_pairs_for T.F_pairs_for.kp T.b_pairs_for .nil pass0 (pa_cons (pe_call (ok_form_table T) (hr.mono (by omega)) (by rfl) T.g_form_table T.F_form_table.kp T.b_form_table .nil pass0 (pa_cons (pv 0) pa_nil)) (pa_cons (pv 4) (pa_cons (pv 2) pa_nil)))) pa_nil))) (pg_tup rfl (pgs_cons (pg_name (i := 6) sc_lates_by.nd rfl (by first | exact .inl rfl | exact .inr rfl)) (pgs_cons (pg_name (i := 7) sc_lates_by.nd rfl (by first | exact .inl rfl | exact .inr rfl)) pgs_nil))) (pss_one (ps_set (i := 5) sc_lates_by.nd rfl (by first | exact .inl rfl | exact .inr rfl) (pe_op op_catA (pv 5) (pe_call (ih) (hr.mono (by omega)) (by rfl) T.g_lates_by T.F_lates_by.kp T.b_lates_by .nil pass0 (pa_cons (pv 6) (pa_cons (pv 1) (pa_cons (pv 7) pa_nil)))))))) (pss_one (ps_ret (pv 5))))))))), ?_⟩
      rcases Fm.inner_cases tk ok with ⟨b', rfl⟩ | ⟨i, rfl⟩ | ⟨ne, ad, z, rest, rfl, ha, n1, n2, n3⟩
      · obtain ⟨ad, rfl, ha⟩ := Fm.tk_st tk
        refine ⟨.ref ad, rfl, ad, _, 0, .str (wSt b'), rfl, rfl, SqT.of ha, rfl, rfl, _, rfl, ite2 (fun e => absurd (V.str.inj (of_decide_eq_true e)) (by cases b' <;> decide +kernel)) (fun _ => ?_)⟩
        refine ⟨.ref ad, rfl, .ref ad, .st b', rfl, tk, fun H1 b0 xs s1 hb0 txs => ?_⟩
        cases txs
        exact ⟨.ref b0, rfl, false, .inr (.inl ⟨_, SqT.of hb0, rfl⟩), iteT ⟨Nat.zero_le _, fun r nr => q r _ ((Gr.of s1).trans (Gr.none nr)) upd_same⟩⟩
      · obtain ⟨ad, rfl, ha⟩ := Fm.tk_inp tk
        refine ⟨.ref ad, rfl, ad, _, 0, .str wIn, rfl, rfl, SqT.of ha, rfl, rfl, _, rfl, ite2 (fun _ => ?_) (fun k => absurd (decide_eq_true rfl) k)⟩
        refine ⟨.ref ad, rfl, c, rfl, .ref ad, c, .inp i, m, a, b, rfl, tk, ok, by show 1 ≤ 22; decide, cf, tc, la, lb, a01, b01, tm, fun r1 H1 g1 h1 => ?_⟩
        refine ⟨.ref wa, rfl, r1, wa, (Fm.inp i).wd a b, p, rfl, h1, g1.tup hwa, g1.2 _ ti, fun H2 g2 => ?_⟩
        exact ⟨sl1, fun r nr => q r _ ((g1.trans g2).trans (Gr.none nr)) upd_same⟩
      · refine ⟨.ref ad, rfl, ad, _, ((0 : Nat) : Int), .str z, rfl, rfl, SqT.of ha, atI_nat rfl, rfl, _, rfl, ite2 (fun e => absurd (V.str.inj (of_decide_eq_true e)) n1) (fun _ => ?_)⟩
        refine ⟨.ref ad, rfl, .ref ad, f, rfl, tk, fun H1 b0 xs s1 hb0 txs => ?_⟩
        have lxs : xs.length = f.inner.length := by rw [txs.length, List.length_map]
        obtain ⟨ltb, few⟩ := Fm.tb_len ok ne
        have cst := Fm.cnt_eq f
        have tc1 := tc.same s1
        have tm1 := (Gr.of s1).2 _ tm
        have ti1 := (Gr.of s1).2 _ ti
        obtain ⟨ch, hc⟩ := Fm.achieve a01 b01 ok ne hp
        obtain ⟨ins, pr⟩ := find_ins hc
        have el : f.late a b p = Fm.lates a b f.inner ch := by rw [Fm.late_eq ne, hc]; rfl
        rw [el] at q
        have lch : ch.length = f.inner.length := by rw [ins.1, List.length_map, List.length_map]
        have okI : ∀ g ∈ f.inner, g.ok m = true ∧ g.dep ≤ e ∧ g.cnt ≤ 1000 := fun g hg => ⟨Fm.inner_ok ok hg, by have := Fm.inner_dep hg; omega, by have := Fm.cnts_mem hg; omega⟩
        have xne : (!xs.isEmpty) = true := by
          cases xs with
          | nil =>
            have : f.inner.length = 0 := lxs.symm
            exact absurd (List.eq_nil_of_length_eq_zero this) ne
          | cons _ _ => rfl
        refine ⟨.ref b0, rfl, true, .inr (.inl ⟨_, SqT.of hb0, xne.symm⟩), iteF ?_⟩
        refine ⟨.ref b0, rfl, b0, rfl, ⟨_, SqT.of hb0⟩, fun D nD => ?_⟩
        refine lc_tup (K := K) (a := b0) (xs := xs) (fun i H' => GrD D H1 H' ∧ ∃ acc, H' D = some (.lst acc) ∧ TkAll H' acc ((f.inner.take i).map fun g => PyData.tuple ((pw (g.wd a b)).map prI))) ⟨GrD.new nD, [], upd_same, .nil⟩ (fun i H' _ hP => SqT.of (hP.1.gr.tup hb0)) ?_ ?_
        · rintro i u H2 hu ⟨g2, acc, hD, tacc⟩
          obtain ⟨g, hg, tg⟩ := txs.at hu
          have gm := List.mem_of_getElem? hg
          obtain ⟨k1, k2, k3⟩ := okI g gm
          have okt := Fm.tri_ok a01 b01 g
          refine ⟨rfl, u, rfl, c, rfl, u, c, g, m, a, b, rfl, tg.gr g2.gr, k1, by omega, k3, tc1.gr g2.gr, la, lb, a01, b01, g2.gr.2 _ tm1, fun r3 H3 g3 h3 => ?_⟩
          refine ⟨r3, _, _, _, rfl, h3, (Tri.wt_ok okt).1, (Tri.wt_ok okt).2, fun r4 H4 s4 h4 => ?_⟩
          have g24 := g3.trans (Gr.of s4)
          have hD4 := g24.lst hD
          refine ⟨acc, hD4, ?_, (g2.then hD g24).set, acc ++ [.ref r4], upd_same, ?_⟩
          · rw [tacc.length, List.length_map, List.length_take]
            exact Nat.lt_of_le_of_lt (show min i f.inner.length ≤ 4 by omega) (by decide)
          · rw [List.take_add_one, hg, List.map_append]
            exact ((tacc.gr g24).ts (Ts.set hD4) (noLs_map (fun g => show noL (PyData.tuple ((pw (Fm.wd a b g)).map prI)) = true from noLs_map noL_prI _) _)).append (.cons ((PairsAt.tkG h4).ts (Ts.set hD4) (noLs_map noL_prI _)) .nil)
        rintro H2 ⟨g2, acc, hD, tacc⟩
        rw [lxs, List.take_length] at tacc
        have g02 := (Gr.of s1).trans g2.gr
        refine ⟨Nat.zero_le _, fun l0 nl0 => ?_⟩
        have s3 := same_upd (o := (HO.tup [])) nl0
        have hl0 : upd H2 l0 (HO.tup []) l0 = some (HO.tup []) := upd_same
        generalize upd H2 l0 (HO.tup []) = H3 at s3 hl0 ⊢
        have g03 := g02.trans (Gr.of s3)
        refine ⟨.ref b0, rfl, .ref ad, rfl, .ref ad, f, m, rfl, tk.gr g03, ok, ne, ?_⟩
        refine ⟨.ref D, rfl, .ref wa, rfl, f.tb, D, wa, f.inner.map (Fm.wd a b), p, ch, rfl, ⟨acc, s3 _ _ hD, by rw [List.map_map]; exact tacc.same s3⟩, g03.tup hwa, fun x hx => ?_, by rw [List.length_map]; exact ltb, by rw [List.length_map]; exact few, hc, fun r4 H4 s4 t4 => ?_⟩
        · obtain ⟨g, hg, rfl⟩ := List.mem_map.mp hx
          exact Tri.wt_ok (Fm.tri_ok a01 b01 g)
        obtain ⟨r4', cs, e4, hr4, tcs⟩ := t4.tup_inv
        cases e4
        have g04 := g03.trans (Gr.of s4)
        have g14 := (g2.gr.trans (Gr.of s3)).trans (Gr.of s4)
        have hb4 := g14.tup hb0
        refine ⟨.tu b0, .tu r4, xs, cs, rfl, SqT.of hb4, SqT.of hr4, ?_⟩
        refine ZpG.for_zip2 (K := K) (z1 := .tu b0) (z2 := .tu r4) (xs1 := xs) (xs2 := cs) (n := f.inner.length) lxs (by rw [tcs.length, List.length_map, lch]) (fun i σ H' => ∃ lp y6 y7, σ = [some (.ref ad), some c, some (.ref wa), some (.ref b0), some (.ref D), some (.ref lp), y6, y7] ∧ Gr H4 H' ∧ H' lp = some (.tup ((Fm.lates a b (f.inner.take i) (ch.take i)).map V.int)))
          ⟨l0, _, _, rfl, Gr.refl, s4 _ _ hl0⟩ (fun i σ H' _ ⟨_, _, _, _, g, _⟩ => ⟨SqT.of (g.tup hb4), SqT.of (g.tup hr4)⟩) ?_ ?_
        · rintro i u x2 T0 σ H5 hu hx2 nT ⟨lp, y6, y7, rfl, g5, hlp⟩
          obtain ⟨g, hg, tg⟩ := txs.at hu
          have gm := List.mem_of_getElem? hg
          obtain ⟨k1, k2, k3⟩ := okI g gm
          obtain ⟨qp, hqp, tqp⟩ := tcs.at hx2
          obtain ⟨pa, rfl, hpa⟩ := prI_inv tqp
          have hi := (List.getElem?_eq_some_iff.mp hg).1
          have hq : qp ∈ pw (g.wd a b) := ins.2 i qp _ hqp (by rw [List.getElem?_map, List.getElem?_map, hg]; rfl)
          have s6 := same_upd (o := (HO.tup [u, V.ref pa])) nT
          have hT : upd H5 T0 (HO.tup [u, V.ref pa]) T0 = some (HO.tup [u, V.ref pa]) := upd_same
          generalize upd H5 T0 (HO.tup [u, V.ref pa]) = H6 at s6 hT ⊢
          have g46 := g5.trans (Gr.of s6)
          have g06 := g04.trans g46
          have g16 := g14.trans g46
          refine ⟨T0, _, rfl, SqT.of hT, rfl, _, _, rfl, _, _, rfl, rfl, ?_⟩
          refine ⟨.ref lp, rfl, u, rfl, c, rfl, .ref pa, rfl, u, c, pa, g, m, a, b, qp, rfl, tg.gr g16, k1, by omega, by omega, k3, tc.gr g06, la, lb, a01, b01, g46.tup hpa, hq, g06.2 _ tm, g06.2 _ ti, fun r7 H7 g7 h7 => ?_⟩
          have etk : f.inner.take (i + 1) = f.inner.take i ++ [g] := by rw [List.take_add_one, hg]; rfl
          have etc : ch.take (i + 1) = ch.take i ++ [qp] := by rw [List.take_add_one, hqp]; rfl
          have l1 := Fm.lates_le a b (f.inner.take i) (ch.take i)
          have l2 := Fm.late_le a b g qp
          have l3 : Fm.inss (f.inner.take i) + g.ins ≤ f.ins := by
            rw [← Fm.inner_ins f ne]
            have := Fm.inss_app (f.inner.take (i + 1)) (f.inner.drop (i + 1))
            rw [List.take_append_drop, etk, Fm.inss_app] at this
            have : Fm.inss [g] = g.ins := Nat.add_zero _
            omega
          have l4 := Fm.ins_cnt f
          refine catA (g7.tup (s6 _ _ hlp)) h7 (by rw [List.length_map, List.length_map]; exact Nat.le_trans (show _ ≤ 1000 by omega) (by decide)) fun p8 H8 s8 h8 => ?_
          refine ⟨p8, _, _, rfl, (g46.trans g7).trans (Gr.of s8), ?_⟩
          rw [h8, etk, etc, Fm.lates_snoc a b g qp _ _ (by rw [List.length_take, List.length_take, lch]), List.map_append]
        · rintro σ H5 ⟨lp, y6, y7, rfl, g5, hlp⟩
          rw [List.take_length, ← lch, List.take_length] at hlp
          exact ⟨.ref lp, rfl, q lp H5 (g04.trans g5) hlp⟩
theorem ok_lates_by (T : Tx w K mg) (B : Tb base T) : FnOk P w K mg base CX0 55 T.f_lates_by T.fd_lates_by ["form", "change", "pair"] (sp_lates_by T 22) := ok_lates_byE T B 22
def sp_form_shown (T : Tx w K mg) : Sp := fun vs H Q _ => ∃ (v c : V) (f : Fm) (m : Nat) (a b : List Int), vs = [v, c] ∧ Tk H v f.d ∧ f.ok m = true ∧ f.dep ≤ 22 ∧ f.cnt ≤ 1000 ∧ Tk H c (chD a b) ∧ a.length = m ∧ b.length = m ∧ Row01 a ∧ Row01 b ∧ GxR.TabG H T.P_most_of_and ∧ GxR.TabG H T.P_input_delay ∧
  (¬ 1 < (f.tri a b).num → ∀ H', Gr H H' → Q .non H') ∧ (1 < (f.tri a b).num → ∀ r H', Gr H H' → H' r = some (.tup ((f.late a b (1 - f.wo a, f.wo a)).map V.int)) → Q (.ref r) H')
theorem ok_form_shown (T : Tx w K mg) (B : Tb base T) : FnOk P w K mg base CX0 56 T.f_form_shown T.fd_form_shown ["form", "change"] (sp_form_shown T) := by
  refine T.F_form_shown.ok sc_form_shown (fun vs H Q E h => ?_) (fun cdv A outer s H vs Q E hr h => ?_)
  · obtain ⟨v, c, f, m, a, b, rfl, _⟩ := h
    rfl
  · obtain ⟨v, c, f, m, a, b, rfl, tk, ok, de, cf, tc, la, lb, a01, b01, tm, ti, q1, q2⟩ := h
    refine ⟨_, (pss_cons (ps_asg (pe_call (ok_form_word T B) (hr.mono (by decide)) (by rfl) T.g_form_word T.F_form_word.kp T.b_form_word .nil pass0 (pa_cons (pv 0) (pa_cons (pv 1) pa_nil))) (pg_tup rfl (pgs_cons (pg_name (i := 2) sc_form_shown.nd rfl (by first | exact .inl rfl | exact .inr rfl)) (pgs_cons (pg_name (i := 3) sc_form_shown.nd rfl (by first | exact .inl rfl | exact .inr rfl)) (pgs_cons (pg_name (i := 4) sc_form_shown.nd rfl (by first | exact .inl rfl | exact .inr rfl)) pgs_nil))))) (pss_one (ps_ret (pe_ifExp (pt_val (pv 4)) (pe_call (ok_lates_by T B) (hr.mono (by decide)) (by rfl) T.g_lates_by T.F_lates_by.kp T.b_lates_by .nil pass0 (pa_cons (pv 0) (pa_cons (pv 1) (pa_cons (pe_tup (pa_cons (pe_op op_sub pe_int (pv 2)) (pa_cons (pv 2) pa_nil))) pa_nil)))) pe_non)))), ?_⟩
    refine ⟨v, rfl, c, rfl, v, c, f, m, a, b, rfl, tk, ok, de, cf, tc, la, lb, a01, b01, tm, fun r1 H1 g1 h1 => ?_⟩
    refine ⟨r1, _, rfl, SqT.of h1, rfl, _, _, rfl, _, _, rfl, _, _, rfl, rfl, ?_⟩
    have okt := Fm.tri_ok a01 b01 f
    have ef : (((f.tri a b).f : Nat) : Int) = f.wo a := Fm.tri_f a01 b01 f
    refine ⟨.bl (decide (1 < (f.tri a b).num)), rfl, decide (1 < (f.tri a b).num), rfl, ite2 (fun k => ?_) (fun k => ?_)⟩
    · have k := of_decide_eq_true k
      rw [ef]
      refine ⟨v, rfl, c, rfl, .int (f.wo a), rfl, _, _, rfl, rfl, .int (f.wo a), rfl, sl2, fun wa nwa => ?_⟩
      have s2 := same_upd (o := (HO.tup [V.int (1 - f.wo a), V.int (f.wo a)])) nwa
      have h2 : upd H1 wa (HO.tup [V.int (1 - f.wo a), V.int (f.wo a)]) wa = some (HO.tup [V.int (1 - f.wo a), V.int (f.wo a)]) := upd_same
      generalize upd H1 wa (HO.tup [V.int (1 - f.wo a), V.int (f.wo a)]) = H2 at s2 h2 ⊢
      have g2 := g1.trans (Gr.of s2)
      have hp : (1 - f.wo a, f.wo a) ∈ pw (f.wd a b) := by
        show _ ∈ pw (f.tri a b).wt
        rw [Tri.wt_bi okt]
        have m1 : (f.tri a b).mb = true := decide_eq_true k
        rw [m1]
        rcases Fm.wo01 a01 la ok with z | z <;> rw [z] <;> (show _ ∈ [((0 : Int), (0 : Int)), (0, 1), (1, 0), (1, 1)]) <;> decide
      exact ⟨v, c, wa, f, m, a, b, _, rfl, tk.gr g2, ok, de, Nat.le_refl _, cf, tc.gr g2, la, lb, a01, b01, h2, hp, g2.2 _ tm, g2.2 _ ti, fun r3 H3 g3 h3 => q2 k r3 H3 (g2.trans g3) h3⟩
    · exact q1 (fun z => k (decide_eq_true z)) H1 g1

end
end Gk

set_option Elab.async false
set_option linter.all false
set_option maxRecDepth 100000
set_option maxHeartbeats 1000000
set_option pp.maxSteps 1500
set_option pp.deepTerms false
namespace Gk
open PySem PySem.Spec PyProof.Rows L2
section
variable {P : Program} {w : World} {K : PySem.W.Frag} {mg : Str → Option Value} {base : Heap}
/-! ### the law's own reading of a form at a time -/
theorem Fm.inss_sum : ∀ fs : List Fm, (fs.map fun g => ((g.ins : Nat) : Int)).sum = (Fm.inss fs : Nat)
  | [] => rfl
  | f :: r => by
    rw [List.map_cons, List.sum_cons, Fm.inss_sum r]
    show ((f.ins : Nat) : Int) + (Fm.inss r : Nat) = ((f.ins + Fm.inss r : Nat) : Int)
    push_cast
    rfl
def sp_leaves (K : PySem.W.Frag) (e : Nat) : Sp := fun vs H Q _ => ∃ (v : V) (f : Fm) (m : Nat), vs = [v] ∧ Tk H v f.d ∧ f.ok m = true ∧ f.dep ≤ e ∧ ∀ H', Same H H' → Q (.int (f.ins : Nat)) H'
theorem ok_leavesE (T : Tx w K mg) : ∀ e : Nat, FnOk P w K mg base CX0 (e + 2) T.f_leaves T.fd_leaves ["_law_form_here"] (sp_leaves K e)
  | 0 => ⟨fun _ _ _ _ h => by obtain ⟨_, f, _, _, _, _, h, _⟩ := h; exact absurd h (by have := Fm.dep_pos f; omega), fun _ _ _ _ _ _ _ _ _ _ _ _ _ h => by obtain ⟨_, f, _, _, _, _, h, _⟩ := h; exact absurd h (by have := Fm.dep_pos f; omega)⟩
  | e + 1 => by
    have ih := ok_leavesE T e
    refine T.F_leaves.ok sc_leaves (fun vs H Q E h => ?_) (fun cdv A outer s H vs Q E hr h => ?_)
    · obtain ⟨v, f, m, rfl, _⟩ := h
      rfl
    · obtain ⟨v, f, m, rfl, tk, ok, de, q⟩ := h
      refine ⟨_, (pss_cons (ps_if (pt_cmpR op_eq (pe_ix ix_tup (pv 0) pe_int (fun _ _ => rfl)) pe_str (nomark _)) (pss_one (ps_ret pe_int)) pss_nil) (pss_one (ps_ret (pe_callB (cr_sum rfl) (by rfl) T.m_sum (by decide +kernel) (pa_cons (pe_lc (own := [("_law_part", 1)]) (by rfl) sc_leaves.nd (pi_tup (pe_call (ok_inner T) (hr.mono (by omega)) (by rfl) T.g_inner T.F_inner.kp T.b_inner .nil pass0 (pa_cons (pv 0) pa_nil))) (blkOk_by (own := [("_law_part", 1)]) (N := ["_law_form_here", "_law_part"]) (sc := defScope s_leaves) (by decide +kernel)) (fun _ _ _ _ _ => (pg_name (i := 1) sc_leaves.nd rfl (by first | exact .inl rfl | exact .inr rfl))) (fun _ _ _ _ _ => pts_nil) (fun _ _ _ _ _ => (pe_call (ih) (hr.mono (by omega)) (by rfl) T.g_leaves T.F_leaves.kp T.b_leaves .nil pass0 (pa_cons (pv 1) pa_nil)))) pa_nil))))), ?_⟩
      have go : ∀ (ad : Addr) (z : Str) (rest : List V), v = .ref ad → H ad = some (.tup (.str z :: rest)) → z ≠ wIn → Fm.inss f.inner = f.ins → ∃ a, v = .ref a ∧ ∃ z rest, H a = some (.tup (.str z :: rest)) ∧ z ≠ wIn ∧ Fm.inss f.inner = f.ins := fun ad z rest e h n i => ⟨ad, e, z, rest, h, n, i⟩
      have key : (∃ i, f = .inp i) ∨ ∃ a, v = .ref a ∧ ∃ z rest, H a = some (.tup (.str z :: rest)) ∧ z ≠ wIn ∧ Fm.inss f.inner = f.ins := by
        rcases Fm.inner_cases tk ok with ⟨b', rfl⟩ | ⟨i, rfl⟩ | ⟨ne, ad, z, rest, ev, ha, n1, n2, n3⟩
        · obtain ⟨ad, rfl, ha⟩ := Fm.tk_st tk
          exact .inr (go ad _ _ rfl ha (by cases b' <;> decide +kernel) rfl)
        · exact .inl ⟨i, rfl⟩
        · exact .inr (go ad z rest ev ha n1 (Fm.inner_ins f ne))
      rcases key with ⟨i, rfl⟩ | ⟨ad, rfl, z, rest, ha, n1, ei⟩
      · obtain ⟨ad, rfl, ha⟩ := Fm.tk_inp tk
        exact ⟨.ref ad, rfl, ad, _, 0, .str wIn, rfl, rfl, SqT.of ha, rfl, rfl, _, rfl, ite2 (fun _ => q H (Same.refl _)) (fun k => absurd (decide_eq_true rfl) k)⟩
      refine ⟨.ref ad, rfl, ad, _, ((0 : Nat) : Int), .str z, rfl, rfl, SqT.of ha, atI_nat rfl, rfl, _, rfl, ite2 (fun e => absurd (V.str.inj (of_decide_eq_true e)) n1) (fun _ => ?_)⟩
      refine ⟨.ref ad, rfl, .ref ad, f, rfl, tk, fun H1 a xs s1 ha txs => ⟨a, rfl, ⟨_, SqT.of ha⟩, fun D nD => ?_⟩⟩
      have lxs : xs.length = f.inner.length := by rw [txs.length, List.length_map]
      have few : f.inner.length ≤ 4 := Fm.inner_few ok
      refine lc_tup (K := K) (a := a) (xs := xs) (fun i H' => Same H1 (hd1 D H') ∧ H' D = some (.lst (((f.inner.take i).map fun g => ((g.ins : Nat) : Int)).map V.int))) ⟨hd1_of (same_upd nD) nD, upd_same⟩ (fun i H' _ z => SqT.of (hd1_le _ _ (z.1 _ _ ha))) ?_ ?_
      · rintro i u H2 hu ⟨s2, hD⟩
        obtain ⟨g, hg, tg⟩ := txs.at hu
        have gm := List.mem_of_getElem? hg
        have k2 : Same H1 H2 := fun b o z => hd1_le _ _ (s2 b o z)
        refine ⟨rfl, u, rfl, u, g, m, rfl, tg.same k2, Fm.inner_ok ok gm, by have := Fm.inner_dep gm; omega, fun H3 s3 => ⟨_, s3 _ _ hD, ?_, (s2.trans (hd1_same s3)).trans hd1_upd, ?_⟩⟩
        · rw [List.length_map, List.length_map, List.length_take]
          exact Nat.lt_of_le_of_lt (show min i f.inner.length ≤ 4 by omega) (by decide)
        · rw [upd_same, List.take_add_one, hg, List.map_append, List.map_append]
          rfl
      · rintro H2 ⟨s2, hD⟩
        rw [lxs, List.take_length] at hD
        have k2 : Same H1 H2 := fun b o z => hd1_le _ _ (s2 b o z)
        refine ⟨D, _, rfl, SqL.of hD, ?_⟩
        have q := q H2 (s1.trans k2)
        rw [← ei, ← Fm.inss_sum] at q
        exact q
theorem ok_leaves (T : Tx w K mg) : FnOk P w K mg base CX0 26 T.f_leaves T.fd_leaves ["_law_form_here"] (sp_leaves K 24) := ok_leavesE T 24
def sp_read (K : PySem.W.Frag) (e : Nat) : Sp := fun vs H Q _ => ∃ (v c : V) (dp : Addr) (f : Fm) (m : Nat) (a b ds : List Int) (t : Int), vs = [v, c, .ref dp, .int t] ∧ Tk H v f.d ∧ f.ok m = true ∧ f.dep ≤ e ∧ Tk H c (chD a b) ∧ a.length = m ∧ b.length = m ∧ H dp = some (.tup (ds.map V.int)) ∧ f.ins ≤ ds.length ∧
  ∀ r dq H', Same H H' → H' r = some (.tup [.int (f.vt a b t ds), .ref dq]) → H' dq = some (.tup ((ds.drop f.ins).map V.int)) → Q (.ref r) H'
theorem ok_readE (T : Tx w K mg) : ∀ e : Nat, FnOk P w K mg base CX0 (e + 3) T.f_read_at T.fd_read_at ["_law_form_here", "_law_change_here", "_law_delays_here", "_law_time"] (sp_read K e)
  | 0 => ⟨fun _ _ _ _ h => by obtain ⟨_, _, _, f, _, _, _, _, _, _, _, _, h, _⟩ := h; exact absurd h (by have := Fm.dep_pos f; omega), fun _ _ _ _ _ _ _ _ _ _ _ _ _ h => by obtain ⟨_, _, _, f, _, _, _, _, _, _, _, _, h, _⟩ := h; exact absurd h (by have := Fm.dep_pos f; omega)⟩
  | e + 1 => by
    have ih := ok_readE T e
    refine T.F_read_at.ok sc_read_at (fun vs H Q E h => ?_) (fun cdv A outer s H vs Q E hr h => ?_)
    · obtain ⟨v, c, dp, f, m, a, b, ds, t, rfl, _⟩ := h
      rfl
    · obtain ⟨v, c, dp, f, m, a, b, ds, t, rfl, tk, ok, de, tc, la, lb, hdp, il, q⟩ := h
      refine ⟨_, (pss_cons (ps_set (i := 4) sc_read_at.nd rfl (by first | exact .inl rfl | exact .inr rfl) (pe_ix ix_tup (pv 0) pe_int (fun _ _ => rfl))) (pss_cons (ps_if (pt_cmpR op_eq (pv 4) pe_str (nomark _)) (pss_one (ps_ret (pe_tup (pa_cons (pe_ix ix_tup (pe_ix ix_tup (pv 1) (pe_callTy call_int1 (by rfl) T.m_int (by decide +kernel) (pa_cons (pe_cmpR op_ge (pv 3) (pe_ix ix_tup (pv 2) pe_int (fun _ _ => rfl)) (nomark _)) pa_nil)) (fun _ _ => rfl)) (pe_ix ix_tup (pv 0) pe_int (fun _ _ => rfl)) (fun _ _ => rfl)) (pa_cons (pe_slice sl_tupA (pv 2) (po_some pe_int) po_none) pa_nil))))) pss_nil) (pss_cons (ps_if (pt_cmpR op_in_seq (pv 4) (pe_tup (pa_cons pe_str (pa_cons pe_str pa_nil))) rfl) (pss_one (ps_ret (pe_tup (pa_cons (pe_callTy call_int1 (by rfl) T.m_int (by decide +kernel) (pa_cons (pe_cmpR op_eq (pv 4) pe_str (nomark _)) pa_nil)) (pa_cons (pv 2) pa_nil))))) pss_nil) (pss_cons (ps_set (i := 5) sc_read_at.nd rfl (by first | exact .inl rfl | exact .inr rfl) (pe_lst pa_nil)) (pss_cons (ps_for PassesOwn.never rfl (pi_tup (pe_call (ok_inner T) (hr.mono (by omega)) (by rfl) T.g_inner T.F_inner.kp T.b_inner .nil pass0 (pa_cons (pv 0) pa_nil))) (pg_name (i := 6) sc_read_at.nd rfl (by first | exact .inl rfl | exact .inr rfl)) (pss_cons (ps_asg (pe_call (ih) (hr.mono (by omega)) (by rfl) T.g_read_at T.F_read_at.kp T.b_read_at .nil pass0 (pa_cons (pv 6) (pa_cons (pv 1) (pa_cons (pv 2) (pa_cons (pv 3) pa_nil))))) (pg_tup rfl (pgs_cons (pg_name (i := 7) sc_read_at.nd rfl (by first | exact .inl rfl | exact .inr rfl)) (pgs_cons (pg_name (i := 2) sc_read_at.nd rfl (by first | exact .inl rfl | exact .inr rfl)) pgs_nil)))) (pss_one (ps_expr (pe_bm PySem.F.plainAttrs_list PySem.F.slot_list_append PySem.F.type_list_append mt_append (pv 5) (pa_cons (pv 7) pa_nil)))))) (pss_cons (ps_if (pt_cmpR op_eq (pv 4) pe_str (nomark _)) (pss_one (ps_ret (pe_tup (pa_cons (pe_op op_sub pe_int (pe_ix ix_list (pv 5) pe_int (fun _ _ => rfl))) (pa_cons (pv 2) pa_nil))))) pss_nil) (pss_cons (ps_if (pt_cmpR op_eq (pv 4) pe_str (nomark _)) (pss_one (ps_ret (pe_tup (pa_cons (pe_callTy call_int1 (by rfl) T.m_int (by decide +kernel) (pa_cons (pe_cmpR op_notIn_seq pe_int (pv 5) rfl) pa_nil)) (pa_cons (pv 2) pa_nil))))) pss_nil) (pss_one (ps_ret (pe_tup (pa_cons (pe_callTy call_int1 (by rfl) T.m_int (by decide +kernel) (pa_cons (pe_cmpR op_in_seq pe_int (pv 5) rfl) pa_nil)) (pa_cons (pv 2) pa_nil)))))))))))), ?_⟩
      have key : (∃ b, f = .st b) ∨ (∃ i, f = .inp i) ∨ ∃ a z rest, v = .ref a ∧ H a = some (.tup (.str z :: rest)) ∧ z ≠ wIn ∧ z ≠ wOne ∧ z ≠ wNou ∧ f.inner ≠ [] ∧ ((z = wNot ∧ ∃ g, f = .no g) ∨ ∃ c fs, f = .op c fs ∧ z = wOp c) := by
        cases f with
        | st b => exact .inl ⟨b, rfl⟩
        | inp i => exact .inr (.inl ⟨i, rfl⟩)
        | no f =>
          obtain ⟨a, w', rfl, ha, _⟩ := Fm.tk_no tk
          exact .inr (.inr ⟨a, _, _, rfl, ha, by decide +kernel, by decide +kernel, by decide +kernel, List.cons_ne_nil _ _, .inl ⟨rfl, f, rfl⟩⟩)
        | op c fs =>
          obtain ⟨a, b, ys, rfl, ha, _⟩ := Fm.tk_op tk
          refine .inr (.inr ⟨a, _, _, rfl, ha, by cases c <;> decide +kernel, by cases c <;> decide +kernel, by cases c <;> decide +kernel, fun z => ?_, .inr ⟨c, fs, rfl, rfl⟩⟩)
          have z : fs = [] := z
          subst z
          cases ok
      have two : ∀ z : Str, (if false = true then !inV (.str z) [V.str wOne, V.str wNou] else inV (.str z) [V.str wOne, V.str wNou]) = (decide (z = wOne) || decide (z = wNou)) := fun z => by
        rw [if_neg (by decide)]
        show (decide (wOne = z) || (decide (wNou = z) || false)) = _
        rw [Bool.or_false, decide_eq_decide.mpr (eq_comm (a := wOne)), decide_eq_decide.mpr (eq_comm (a := wNou))]
      obtain ⟨c, ra, rb, rfl, hc, hra, hrb⟩ := tc.ch_inv
      rcases key with ⟨b', rfl⟩ | ⟨i, rfl⟩ | ⟨ad, z, rest, rfl, ha, n1, n2, n3, ne, sorts⟩
      · obtain ⟨ad, rfl, ha⟩ := Fm.tk_st tk
        refine ⟨.ref ad, rfl, ad, _, 0, .str (wSt b'), rfl, rfl, SqT.of ha, rfl, ?_⟩
        refine ⟨.str (wSt b'), rfl, rfl, _, rfl, ite2 (fun e => absurd (V.str.inj (of_decide_eq_true e)) (by cases b' <;> decide +kernel)) (fun _ => ?_)⟩
        refine ⟨.str (wSt b'), rfl, sl2, fun p np => ?_⟩
        have s1 := same_upd (o := (HO.tup [V.str (Str.ofString "one"), V.str (Str.ofString "nought")])) np
        have h1 : upd H p (HO.tup [V.str (Str.ofString "one"), V.str (Str.ofString "nought")]) p = some (HO.tup [V.str (Str.ofString "one"), V.str (Str.ofString "nought")]) := upd_same
        generalize upd H p (HO.tup [V.str (Str.ofString "one"), V.str (Str.ofString "nought")]) = H1 at s1 h1 ⊢
        refine ⟨p, _, rfl, .inr (SqT.of h1), rfl, rfl, _, rfl, ite2 (fun _ => ?_) (fun k => absurd ((two (wSt b')).trans (by cases b' <;> decide +kernel)) k)⟩
        have e1 : (if decide (V.str (wSt b') = V.str (Str.ofString "one")) = true then (1 : Int) else 0) = if b' = true then 1 else 0 := by
          cases b'
          · rw [decide_eq_false (show ¬ V.str (wSt false) = V.str (Str.ofString "one") from fun z => absurd (V.str.inj z) (by decide +kernel))]; try rfl
          · exact if_pos (decide_eq_true rfl)
        refine ⟨.str (wSt b'), rfl, rfl, .inr ⟨_, rfl, .ref dp, rfl, sl2, fun r nr => ?_⟩⟩
        rw [e1]
        exact q r dp _ (s1.trans (same_upd nr)) upd_same (same_upd nr _ _ (s1 _ _ hdp))
      · obtain ⟨ad, rfl, ha⟩ := Fm.tk_inp tk
        refine ⟨.ref ad, rfl, ad, _, 0, .str wIn, rfl, rfl, SqT.of ha, rfl, ?_⟩
        refine ⟨.str wIn, rfl, rfl, _, rfl, ite2 (fun _ => ?_) (fun k => absurd (decide_eq_true rfl) k)⟩
        have hi : i < m := of_decide_eq_true ok
        have ata : atI (a.map V.int) (i : Int) = some (.int (a.getD i 0)) := atI_nat (by rw [List.getElem?_map, List.getD_eq_getElem?_getD, List.getElem?_eq_getElem (by omega)]; rfl)
        have atb : atI (b.map V.int) (i : Int) = some (.int (b.getD i 0)) := atI_nat (by rw [List.getElem?_map, List.getD_eq_getElem?_getD, List.getElem?_eq_getElem (by omega)]; rfl)
        obtain ⟨d, dr, rfl⟩ : ∃ d dr, ds = d :: dr := by
          cases ds with
          | nil => exact absurd il (by show ¬ 1 ≤ 0; decide)
          | cons d dr => exact ⟨d, dr, rfl⟩
        have fin : ∀ (x : Int), x = (if d ≤ t then b.getD i 0 else a.getD i 0) → ∀ q1 H1, Same H H1 → H1 q1 = some (.tup (dr.map V.int)) → ∀ r, H1 r = none → Q (.ref r) (upd H1 r (.tup [.int x, .ref q1])) := fun x hx q1 H1 s1 h1 r nr => q r q1 _ (s1.trans (same_upd nr)) (by rw [upd_same, hx]; rfl) (same_upd nr _ _ h1)
        refine ⟨.ref c, rfl, .int t, rfl, .ref dp, rfl, dp, _, 0, .int d, rfl, rfl, SqT.of hdp, at_0 _ _, _, _, rfl, rfl, .inr ⟨_, rfl, ?_⟩⟩
        by_cases z : d ≤ t
        · have e1 : (if decide (t ≥ d) = true then (1 : Int) else 0) = 1 := if_pos (decide_eq_true z)
          rw [e1]
          refine ⟨c, _, 1, .ref rb, rfl, rfl, SqT.of hc, rfl, .ref ad, rfl, ad, _, 1, .int i, rfl, rfl, SqT.of ha, rfl, rb, _, i, _, rfl, rfl, SqT.of hrb, atb, .ref dp, rfl, 1, rfl, slAn hdp fun q1 H1 s1 h1 => ?_⟩
          exact ⟨sl2, fun r nr => fin _ (if_pos z).symm q1 H1 s1 (by rw [h1]; exact congrArg (fun l => some (HO.tup l)) (cut_from (xs := (d :: dr).map V.int) (k := 1))) r nr⟩
        · have e1 : (if decide (t ≥ d) = true then (1 : Int) else 0) = 0 := if_neg (fun k => z (of_decide_eq_true k))
          rw [e1]
          refine ⟨c, _, 0, .ref ra, rfl, rfl, SqT.of hc, rfl, .ref ad, rfl, ad, _, 1, .int i, rfl, rfl, SqT.of ha, rfl, ra, _, i, _, rfl, rfl, SqT.of hra, ata, .ref dp, rfl, 1, rfl, slAn hdp fun q1 H1 s1 h1 => ?_⟩
          exact ⟨sl2, fun r nr => fin _ (if_neg z).symm q1 H1 s1 (by rw [h1]; exact congrArg (fun l => some (HO.tup l)) (cut_from (xs := (d :: dr).map V.int) (k := 1))) r nr⟩
      refine ⟨.ref ad, rfl, ad, _, ((0 : Nat) : Int), .str z, rfl, rfl, SqT.of ha, atI_nat rfl, ?_⟩
      refine ⟨.str z, rfl, rfl, _, rfl, ite2 (fun e => absurd (V.str.inj (of_decide_eq_true e)) n1) (fun _ => ?_)⟩
      refine ⟨.str z, rfl, sl2, fun p np => ?_⟩
      have s0 := same_upd (o := (HO.tup [V.str (Str.ofString "one"), V.str (Str.ofString "nought")])) np
      have h0 : upd H p (HO.tup [V.str (Str.ofString "one"), V.str (Str.ofString "nought")]) p = some (HO.tup [V.str (Str.ofString "one"), V.str (Str.ofString "nought")]) := upd_same
      generalize upd H p (HO.tup [V.str (Str.ofString "one"), V.str (Str.ofString "nought")]) = H0 at s0 h0 ⊢
      refine ⟨p, _, rfl, .inr (SqT.of h0), rfl, rfl, _, rfl, ite2 (fun k => ?_) (fun _ => ?_)⟩
      · have k := (two z).symm.trans k
        rw [decide_eq_false n2, decide_eq_false n3] at k
        cases k
      refine ⟨Nat.zero_le _, fun W nW => ?_⟩
      have s1 := same_upd (o := (HO.lst [])) nW
      have hW : upd H0 W (HO.lst []) W = some (HO.lst []) := upd_same
      generalize upd H0 W (HO.lst []) = H1 at s1 hW ⊢
      have s01 := s0.trans s1
      have nW0 : H W = none := none_of_same s0 nW
      refine ⟨.ref ad, rfl, .ref ad, f, rfl, tk.same s01, fun H2 b0 xs s2 hb0 txs => ⟨b0, rfl, ⟨_, SqT.of hb0⟩, ?_⟩⟩
      have lxs : xs.length = f.inner.length := by rw [txs.length, List.length_map]
      have few : f.inner.length ≤ 4 := Fm.inner_few ok
      have s02 := s01.trans s2
      have ins := Fm.inner_ins f ne
      have hb0W : b0 ≠ W := ne_of hb0 (s2 _ _ hW) (by intro z; cases z)
      refine for_tup (K := K) (a := b0) (xs := xs) (fun i σ H' => ∃ dq y6 y7, σ = [some (.ref ad), some (.ref c), some (.ref dq), some (.int t), some (.str z), some (.ref W), y6, y7] ∧ Same (hd1 W H2) (hd1 W H') ∧ H' W = some (.lst ((Fm.vts a b t (f.inner.take i) ds).map V.int)) ∧ H' dq = some (.tup ((ds.drop (Fm.inss (f.inner.take i))).map V.int)))
        ⟨dp, _, _, rfl, Same.refl _, s2 _ _ hW, s02 _ _ hdp⟩ (fun i σ H' _ ⟨_, _, _, _, z, _⟩ => SqT.of (hd1_le _ _ (z _ _ (by rw [hd1_at hb0W]; exact hb0)))) ?_ ?_
      · rintro i u σ H3 hu ⟨dq, y6, y7, rfl, s3, hW3, hdq⟩
        obtain ⟨g, hg, tg⟩ := txs.at hu
        have gm := List.mem_of_getElem? hg
        have ts3 : Ts H2 H3 := fun b xs e => hd1_le _ _ (s3 _ _ (by rw [hd1_at (ne_of e (s2 _ _ hW) (by intro z; cases z))]; exact e))
        have etk : f.inner.take (i + 1) = f.inner.take i ++ [g] := by rw [List.take_add_one, hg]; rfl
        have esum : Fm.inss (f.inner.take (i + 1)) = Fm.inss (f.inner.take i) + g.ins := by rw [etk, Fm.inss_app]; rfl
        have esum2 : Fm.inss (f.inner.take (i + 1)) ≤ f.ins := by
          rw [← ins]
          have := Fm.inss_app (f.inner.take (i + 1)) (f.inner.drop (i + 1))
          rw [List.take_append_drop] at this
          omega
        refine ⟨u, rfl, .ref c, rfl, .ref dq, rfl, .int t, rfl, u, .ref c, dq, g, m, a, b, _, t, rfl, tg.ts ts3 (Fm.noL g), Fm.inner_ok ok gm, by have := Fm.inner_dep gm; omega, (tc.same s02).ts ts3 (noL_ch a b), la, lb, hdq, by rw [List.length_drop]; omega, fun r4 dr H4 s4 h4 hdr => ?_⟩
        have hW4 := s4 _ _ hW3
        refine ⟨r4, _, rfl, SqT.of h4, rfl, _, _, rfl, _, _, rfl, rfl, ?_⟩
        refine ⟨.ref W, rfl, .inl ⟨rfl, _, SqL.of hW4⟩, _, rfl, W, _, _, rfl, rfl, hW4, ?_, dr, _, _, rfl, (s3.trans (hd1_same s4)).trans hd1_upd, ?_, ?_⟩
        · rw [List.length_map, Fm.vts_len, List.length_take]
          exact Nat.lt_of_le_of_lt (show min i f.inner.length ≤ 4 by omega) (by decide)
        · rw [upd_same, etk, Fm.vts_snoc, List.map_append]
          rfl
        · rw [upd_ne (ne_of hdr hW4 (by intro z; cases z)), hdr, esum, List.drop_drop]
      · rintro σ H3 ⟨dq, y6, y7, rfl, s3, hW3, hdq⟩
        rw [lxs, List.take_length] at hW3 hdq
        rw [ins] at hdq
        have k3 : Same H H3 := fun x o e => by
          have xW : x ≠ W := ne_of_none e nW0
          exact hd1_le _ _ (s3 _ _ (by rw [hd1_at xW]; exact s02 _ _ e))
        have fin : ∀ x : Int, x = f.vt a b t ds → ∀ r, H3 r = none → Q (.ref r) (upd H3 r (.tup [.int x, .ref dq])) := fun x hx r nr => q r dq _ (k3.trans (same_upd nr)) (by rw [upd_same, hx]) (same_upd nr _ _ hdq)
        rcases sorts with ⟨rfl, g, rfl⟩ | ⟨cc, fs, rfl, rfl⟩
        · refine ⟨.str wNot, rfl, rfl, _, rfl, ite2 (fun _ => ?_) (fun k => absurd (decide_eq_true rfl) k)⟩
          exact ⟨.ref W, rfl, W, _, 0, .int (g.vt a b t ds), rfl, rfl, SqL.of hW3, rfl, _, _, rfl, rfl, .ref dq, rfl, sl2, fun r nr => fin _ rfl r nr⟩
        · refine ⟨.str (wOp cc), rfl, rfl, _, rfl, ite2 (fun e => absurd (V.str.inj (of_decide_eq_true e)) (by cases cc <;> decide +kernel)) (fun _ => ?_)⟩
          have isin : ∀ (k : Int) (ns : List Int), inV (.int k) (ns.map V.int) = decide (k ∈ ns) := fun k ns => by
            induction ns with
            | nil => rfl
            | cons y s ih =>
              show (eqV (.int y) (.int k) || inV (.int k) (s.map V.int)) = _
              rw [ih]
              have e : eqV (.int y) (.int k) = decide (y = k) := by
                first
                  | rfl
                  | simp [eqV]
              rw [e, Bool.eq_iff_iff, Bool.or_eq_true, decide_eq_true_eq, decide_eq_true_eq, decide_eq_true_eq, List.mem_cons]
              exact ⟨fun h => h.imp Eq.symm id, fun h => h.imp Eq.symm id⟩
          have scal : ∀ ns : List Int, (ns.map V.int).all flatV = true := fun ns => List.all_eq_true.mpr fun x hx => by
            obtain ⟨y, _, rfl⟩ := List.mem_map.mp hx
            rfl
          have hW3 : H3 W = some (.lst ((Fm.vts a b t fs ds).map V.int)) := hW3
          cases cc with
          | true =>
            refine ⟨.str wAnd, rfl, rfl, _, rfl, ite2 (fun _ => ?_) (fun k => absurd (decide_eq_true rfl) k)⟩
            refine ⟨.ref W, rfl, W, _, rfl, .inl (SqL.of hW3), rfl, scal _, .inr ⟨_, rfl, .ref dq, rfl, sl2, fun r nr => ?_⟩⟩
            refine fin _ ?_ r nr
            rw [if_pos rfl, isin]
            show (if (!decide (0 ∈ Fm.vts a b t fs ds)) = true then (1 : Int) else 0) = opW true (Fm.vts a b t fs ds)
            unfold opW
            by_cases z : 0 ∈ Fm.vts a b t fs ds
            · rw [decide_eq_true z, if_pos rfl, if_pos z]; rfl
            · rw [decide_eq_false z, if_pos rfl, if_neg z]; rfl
          | false =>
            refine ⟨.str wOr, rfl, rfl, _, rfl, ite2 (fun k => absurd (V.str.inj (of_decide_eq_true k)) (by decide +kernel)) (fun _ => ?_)⟩
            refine ⟨.ref W, rfl, W, _, rfl, .inl (SqL.of hW3), rfl, scal _, .inr ⟨_, rfl, .ref dq, rfl, sl2, fun r nr => ?_⟩⟩
            refine fin _ ?_ r nr
            rw [if_neg Bool.false_ne_true, isin]
            show (if decide (1 ∈ Fm.vts a b t fs ds) = true then (1 : Int) else 0) = opW false (Fm.vts a b t fs ds)
            unfold opW
            rw [if_neg (show ¬ false = true by decide)]
            by_cases z : 1 ∈ Fm.vts a b t fs ds
            · rw [decide_eq_true z, if_pos z]; rfl
            · rw [decide_eq_false z, if_neg z]; rfl
theorem ok_read_at (T : Tx w K mg) : FnOk P w K mg base CX0 25 T.f_read_at T.fd_read_at ["_law_form_here", "_law_change_here", "_law_delays_here", "_law_time"] (sp_read K 22) := ok_readE T 22

end
end Gk

set_option Elab.async false
set_option linter.all false
set_option maxRecDepth 100000
set_option maxHeartbeats 1000000
set_option pp.maxSteps 1500
set_option pp.deepTerms false
namespace Gk
open PySem PySem.Spec PyProof.Rows L2
/-! ### set(xs) of ints (a list or a tuple of them), sorted(set(..)), any number of them -/
namespace SiX
open PySem PySem.Spec PyProof.Rows L2
section
variable {P : Program} {w : World} {A : Around} {E : Value → Shared → Prop} {s : Shared} {a : Addr}
def TSet (w : World) (h : Heap) (a : Addr) (xs : List Int) (n : Nat) : Prop := ∃ c, c ≤ n ∧ SetR w h a (fun j => decide (j ∈ xs)) c
theorem TSet.stays {h h' : Heap} {xs : List Int} {n : Nat} (R : TSet w h a xs n) (k : ∀ o, h.get? a = some o → h'.get? a = some o) : TSet w h' a xs n := by
  obtain ⟨c, cn, r⟩ := R
  exact ⟨c, cn, r.at k⟩
abbrev bare (w : World) : Obj := { cls := .type "set", dict := none, data := .set #[] 0 (.fresh 0 0 (!w.params.followText "set-order")) }
def Held (h : Heap) (l : Addr) (its : Array Value) : Prop := h.IsList l its ∨ h.IsTuple l its
theorem ints_at {its : Array Value} {xs : List Int} (ht : IntsAre its.toList xs) : its.size = xs.length ∧ ∀ (i : Nat) (v : Value), its[i]? = some v → ∃ x t, xs[i]? = some x ∧ v = Value.int x t := by
  have len := IntsAre.length ht
  rw [Array.length_toList] at len
  refine ⟨len, fun i v hv => ?_⟩
  have hi := (Array.getElem?_eq_some_iff.mp hv).1
  obtain ⟨t, e⟩ := PyProof.Rows.IntsAre.int_at ht i v (by rw [Array.getElem?_toList]; exact hv)
  exact ⟨xs[i]'(by omega), t, List.getElem?_eq_getElem _, by rw [e, List.getD_eq_getElem?_getD, List.getElem?_eq_getElem (by omega)]; rfl⟩
abbrev Made (P : Program) (w : World) (s : Shared) (xs : List Int) (r : Value) (z : Shared) : Prop :=
  r = .none ∧ ∃ h' tk, z = { s with heap := h', toks := tk } ∧ TSet w h' s.heap.objs.size xs xs.length ∧ ∀ b o, s.heap.get? b = some o → h'.get? b = some o
/-- set.__init__'s walk, over a list or a tuple -/
theorem walked {I : Addr} {its : Array Value} {xs : List Int} {it : Obj} {fp wr : List Addr} {St : Nat → Shared → Prop} {Pv : Nat → Value → Prop} (ht : IntsAre its.toList xs) (room : xs.length + 1 < scanBound)
    (eI : I = (s.heap.push (bare w)).objs.size) (W : WalksS P w A.in1 I fp wr (fun g g' => g' = g) its.size Pv St) (far : s.heap.objs.size ∉ fp) (own : ∀ b ∈ wr, b = I) (pv : ∀ i v, Pv i v → its[i]? = some v)
    (st : St 0 { s with heap := (s.heap.push (bare w)).push it }) :
    codeAny (model P w) A (.builtin "set.update.loop" ⟨[.ref s.heap.objs.size, .ref I], []⟩) (fun r z => wants (Made P w s xs) E r z) { s with heap := (s.heap.push (bare w)).push it } := by
  obtain ⟨len, at_⟩ := ints_at ht
  have old : ((s.heap.push (bare w)).push it).get? s.heap.objs.size = some (bare w) := Heap.get?_push_of_some _ (Heap.get?_push_size _ rfl)
  refine set_update_ints W s.heap.objs.size far xs len room (fun i v h => at_ i v (pv i v h)) (its.size - 0) 0 _ (by omega) (Nat.zero_le _) st ⟨0, Nat.le_refl 0, setR_new_at old⟩ fun z c mv cn T0 => ?_
  have T : TSet w z.heap s.heap.objs.size xs its.size := ⟨c, cn, T0⟩
  obtain ⟨h', g, d, tk, os⟩ := z
  obtain rfl : g = s.gens := mv.gens
  obtain rfl : d = s.drawn := mv.drawn
  obtain rfl : os = s.os := mv.os
  refine ⟨rfl, h', tk, rfl, by rw [← len]; exact T, fun b o e => ?_⟩
  have lt := Heap.lt_size e
  refine mv.heap b o (fun z => ?_) (Heap.get?_push_of_some _ (Heap.get?_push_of_some _ e))
  rcases List.mem_cons.mp z with z | z
  · exact absurd z (Nat.ne_of_lt lt)
  · have := own b z
    rw [eI, Heap.size_push] at this
    exact absurd this (Nat.ne_of_lt (Nat.lt_succ_of_lt lt))
theorem made_init {A0 : Around} {l : Addr} {its : Array Value} {xs : List Int} (hh : A.handled = none) (hl : Held s.heap l its) (ht : IntsAre its.toList xs) (room : xs.length + 1 < scanBound) :
    wpAny (model P w) A (Builtin.«set.__init__» ⟨[.ref s.heap.objs.size, .ref l], []⟩) (fun fin z => match fin with | .done f => wants (Made P w s xs) E (.ok f) z | .again c => c.quiet = true ∧ codeAny (model P w) A0 c (wants (Made P w s xs) E) z) (fun e z => wants (Made P w s xs) E (.error e) z) { s with heap := s.heap.push (bare w) } := by
  have calm : A.in1.handled = none := by simp [hh]
  rcases hl with hl | hl
  · have lt : l < s.heap.objs.size := by
      obtain ⟨o, h, _⟩ := hl
      exact Heap.lt_size h
    have hl1 : (s.heap.push (bare w)).IsList l its := hl.push _
    have ne : l ≠ (s.heap.push (bare w)).objs.size := by
      rw [Heap.size_push]
      exact Nat.ne_of_lt (Nat.lt_succ_of_lt lt)
    have far : s.heap.objs.size ∉ [(s.heap.push (bare w)).objs.size, l] := by
      intro z
      rw [Heap.size_push] at z
      rcases List.mem_cons.mp z with z | z
      · exact absurd z (Nat.ne_of_lt (Nat.lt_succ_self _))
      · exact absurd (List.mem_singleton.mp z) (Nat.ne_of_gt lt)
    obtain ⟨⟨cl, od, da, sl⟩, e1, e2, nn, e3⟩ := id hl1
    dsimp only at e2 e3
    subst e2
    subst e3
    have k1 := F.sub_list_set
    have k2 := F.sub_list_frozenset
    have k3 : (Value.type "list" == Value.type "dict") = false := by decide
    unfold Builtin.«set.__init__» noKeywords Builtin.Frozenset.updateFrom
    generalize ep : pyIter = PI
    wp_walk
    subst ep
    refine wpAny_pyIter_list hl1 (wpAny_bind (wpAny_runValue ?_))
    refine codeAny_mono (walked (s := s) (E := E) (I := (s.heap.push (bare w)).objs.size) ht room rfl (Walks.list (by simp [hh]) _ l ne its).toS far (fun b z => List.mem_singleton.mp z) (fun i v z => z) ⟨⟨_, Heap.get?_push_size _ rfl, rfl, rfl⟩, hl1.push _⟩) fun r z q => ?_
    match r, q with
    | .error e, q => exact q
    | .ok .next, q => exact q.elim
    | .ok .brk, q => exact q.elim
    | .ok .cont, q => exact q.elim
    | .ok (.ret v), q => exact wpAny_pure (wpAny_pure ⟨rfl, q.2⟩)
  · have lt : l < s.heap.objs.size := by
      obtain ⟨o, h, _⟩ := hl
      exact Heap.lt_size h
    have hl1 : (s.heap.push (bare w)).IsTuple l its := hl.push _
    have ne : l ≠ (s.heap.push (bare w)).objs.size := by
      rw [Heap.size_push]
      exact Nat.ne_of_lt (Nat.lt_succ_of_lt lt)
    have far : s.heap.objs.size ∉ [(s.heap.push (bare w)).objs.size, l] := by
      intro z
      rw [Heap.size_push] at z
      rcases List.mem_cons.mp z with z | z
      · exact absurd z (Nat.ne_of_lt (Nat.lt_succ_self _))
      · exact absurd (List.mem_singleton.mp z) (Nat.ne_of_gt lt)
    obtain ⟨⟨cl, od, da, sl⟩, e1, e2, nn, e3⟩ := id hl1
    dsimp only at e2 e3
    subst e2
    subst e3
    have k1 := F.sub_tuple_set
    have k2 := F.sub_tuple_frozenset
    have k3 : (Value.type "tuple" == Value.type "dict") = false := by decide
    unfold Builtin.«set.__init__» noKeywords Builtin.Frozenset.updateFrom
    generalize ep : pyIter = PI
    wp_walk
    subst ep
    refine wpAny_pyIter_tuple hl1 (wpAny_bind (wpAny_runValue ?_))
    refine codeAny_mono (walked (s := s) (E := E) (I := (s.heap.push (bare w)).objs.size) ht room rfl (Walks.tuple (by simp [hh]) _ l ne its).toS far (fun b z => List.mem_singleton.mp z) (fun i v z => z) ⟨⟨_, Heap.get?_push_size _ rfl, rfl, rfl⟩, hl1.push _⟩) fun r z q => ?_
    match r, q with
    | .error e, q => exact q
    | .ok .next, q => exact q.elim
    | .ok .brk, q => exact q.elim
    | .ok .cont, q => exact q.elim
    | .ok (.ret v), q => exact wpAny_pure (wpAny_pure ⟨rfl, q.2⟩)
theorem set_of {l : Addr} {its : Array Value} {xs : List Int} {Q : Value → Shared → Prop} (hh : A.handled = none) (hl : Held s.heap l its) (ht : IntsAre its.toList xs) (room : xs.length + 1 < scanBound)
    (q : ∀ h' tk, TSet w h' s.heap.objs.size xs xs.length → (∀ b o, s.heap.get? b = some o → h'.get? b = some o) → Q (.ref s.heap.objs.size) { s with heap := h', toks := tk }) : wpAny (model P w) A (call (.type "set") [.ref l]) Q E s := by
  obtain ⟨cc, tail, a1⟩ := F.called_set.mro
  have a2 := F.called_set.made
  have a3 := F.called_set.sub
  have a4 := F.called_set.notType
  have a5 := F.called_set.canCreate
  have a6 := F.typeCall_set_1 (.ref l)
  refine wpAny_call (codeAny_of_tree ?_)
  show wpAny _ _ (callAny (.type "set") _) _ _ _
  refine wpAny_pure ⟨Code.quiet_builtin _ (by decide +kernel), (codeAny_builtin F.entry_type_call) ?_⟩
  rw [Around.under_plain (weight_type_call_type "set" [.ref l] []) (rfl)]
  repeat (any_goals (first | (assumption) | (wp_step)))
  refine codeAny_mono (code_set_led1 (.ref l) (E := E) (Q₁ := fun obj z => obj = .ref s.heap.objs.size ∧ z = { s with heap := s.heap.push (bare w) }) ⟨rfl, rfl⟩) fun r z made => ?_
  match r, made with
  | .error e, made => exact made
  | .ok .next, made => exact made.elim
  | .ok .brk, made => exact made.elim
  | .ok .cont, made => exact made.elim
  | .ok (.ret obj), made =>
    obtain ⟨rfl, rfl⟩ := made
    have new : (s.heap.push (bare w)).get? s.heap.objs.size = some (bare w) := Heap.get?_push_size _ rfl
    have b1 : Shared.TypeIs { s with heap := s.heap.push (bare w) } (.ref s.heap.objs.size) "set" := ⟨_, new, rfl⟩
    have b2 := F.called_set.init.lookup
    have b3 := F.called_set.init.bind (.ref s.heap.objs.size)
    repeat (any_goals (first | (assumption) | (wp_step)))
    refine codeAny_mono (codeAny_call_builtin (R := wants (Made P w s xs) E) F.called_set.init.plain F.entry_set_init (check_set_init_1 b1 ?_)) fun r2 z2 q2 => ?_
    · exact made_init (by simp [hh]) hl ht room
    · match r2, q2 with
      | .error e, q2 => exact q2
      | .ok .next, q2 => exact q2.elim
      | .ok .brk, q2 => exact q2.elim
      | .ok .cont, q2 => exact q2.elim
      | .ok (.ret r3), q2 =>
        obtain ⟨rfl, h', tk, rfl, T, old⟩ := q2
        repeat (any_goals (first | (assumption) | (wp_step)))
        exact q h' tk T old
theorem lt_of_le_nodup' {l : List Int} (h : l.Pairwise (· ≤ ·)) (d : l.Nodup) : l.Pairwise (· < ·) := by
  refine (h.and d).imp ?_
  rintro x y ⟨h1, h2⟩
  omega
theorem ints_of' {vs : List Value} {ns : List Int} (h : ∀ v ∈ vs, ∃ i t, v = Value.int i t) : IntsAre vs (vs.map SrtO.iv) := SrtO.ints_iv h
/-- sorted(a set of ints) -/
theorem in_order {xs : List Int} {n : Nat} {Q : Value → Shared → Prop} (T : TSet w s.heap a xs n) (hh : A.handled = none) (room : n < scanBound)
    (q : ∀ z p (out : Array Value) (c : Nat) (ys : List Int), (∀ b o, s.heap.get? b = some o → z.heap.get? b = some o) → z.gens = s.gens → z.os = s.os → s.heap.objs.size ≤ p →
      z.heap.get? p = some (seqObj "list" out c) → IntsAre out.toList ys → ys.Pairwise (· < ·) → (∀ x, x ∈ ys ↔ x ∈ xs) → ys.length ≤ n → Q (.ref p) z) : wpAny (model P w) A (call (.builtin "sorted") [.ref a]) Q E s := by
  obtain ⟨n1, few, o, es, ep, t, ho, hex, hd, g, nd, hm, hb, hf, hn, hr, hl⟩ := T
  refine Calls.call_function_entry kind_sorted plain_sorted entry_sorted (args_sorted1 _) ?_
  unfold Builtin.«sorted»
  refine wpAny_bind (m := checkCount "sorted" 1 1 _) (wpAny_pure ?_)
  refine wpAny_bind (collect_set (A := A.in1) hh ⟨o, ho, hex.1, hd⟩ hf hb hr hl fun z vs k1 hz g1 o1 pm => ?_)
  have hvl : vs.length = n1 := by rw [pm.length_eq, List.length_map, Array.length_toList]; exact hn
  have sl : vs.length ≤ sizeLine := fits_of_scanBound (by omega)
  have hI : IntsAre vs (vs.map SrtO.iv) := SrtO.ints_iv fun v hv => by
    obtain ⟨e, he, q⟩ := List.mem_map.mp (pm.mem_iff.mp hv)
    obtain ⟨k, tk, h1, _⟩ := g e he
    exact ⟨k, tk, by rw [← q]; exact h1⟩
  have same : ∀ e ∈ es.toList, SrtO.iv e.2 = keyOf e := fun e he => by
    obtain ⟨k, tk, h1, _⟩ := g e he
    unfold keyOf
    rw [h1]
    rfl
  have pk : (vs.map SrtO.iv).Perm (es.toList.map keyOf) := by
    have q := pm.map SrtO.iv
    rw [List.map_map, List.map_congr_left (f := SrtO.iv ∘ fun e : Int × Value => e.2) (g := keyOf) same] at q
    exact q
  refine wpAny_bind (wpAny_newList ?_ sl)
  have hL : (z.heap.push (seqObj "list" vs.toArray 0)).get? z.heap.objs.size = some (seqObj "list" vs.toArray 0) := Heap.get?_push_size _ rfl
  refine wpAny_bind (wpAny_holding (wpAny_call_entry (slot_list_sort) ⟨_, hL, rfl⟩ (entry_list_sort) (SrtO.list_sort_ord SrtO.swo_int hL sl (fun two => SrtO.ints_sortable hI two) fun out k2 k3 => ⟨_, rfl, ?_⟩) (args_list_sort _)))
  obtain ⟨c, hc⟩ := sortedHeap_at (vs := vs) (out := out.toArray) hL
  obtain ⟨a1, a2, a3⟩ := SrtO.ints_out hI k2 k3
  have po := a2.trans pk
  refine wpAny_pure ⟨_, rfl, q _ z.heap.objs.size out.toArray c (out.map SrtO.iv) (fun b u e => ?_) g1 o1 hz hc a1 (lt_of_le_nodup' a3 (po.nodup_iff.mpr nd)) (fun x => by rw [po.mem_iff, ← hm x]; exact decide_eq_true_iff) (by rw [po.length_eq, List.length_map, Array.length_toList, hn]; exact few)⟩
  have e1 := k1 b u e
  have lt := Heap.lt_size e1
  show (sortedHeap (z.heap.push (seqObj "list" vs.toArray 0)) z.heap.objs.size vs out.toArray).get? b = some u
  rw [sortedHeap_old (Nat.ne_of_lt lt) (by rw [size_push']; exact Nat.lt_succ_of_lt lt)]
  exact Heap.get?_push_of_some _ e1
end
section
variable {X : Cx}
def SetIx (w : World) (a : Addr) (xs : List Int) (n : Nat) : HO := .ext fun h => TSet w h a xs n
def rSetIx (K : PySem.W.Frag) (w : World) : List V → Hp → VK → Prop := fun vs H Q => ∃ l xs, vs = [.ref l] ∧ (SqL K H l (xs.map V.int) ∨ SqT K H l (xs.map V.int)) ∧ xs.length + 1 < scanBound ∧ ∀ p, H p = none → Q (.ref p) (upd H p (SetIx w p xs xs.length))
theorem call_setIx (hc : X.calm = true) : CallR X (.type "set") (rSetIx X.K X.w) := by
  intro pins s σ H vs us Q I r h
  obtain ⟨l, xs, rfl, hs, room, q⟩ := h
  rw [Vals.ref1 r]
  have go : ∀ its : List Value, Held s.heap l its.toArray → IntsAre its xs → wpAny (model X.prog X.w) X.A (call (.type "set") [.ref l]) (EP X pins σ Q) X.xe s := fun its hl ht =>
    set_of (I.ok.hd hc) hl (by simpa using ht) room fun h' tk T old => ⟨.ref s.heap.objs.size, upd H s.heap.objs.size (SetIx X.w s.heap.objs.size xs xs.length), I.laid (t' := tk) (fun b o e => old b o e) (Nat.le_refl _) ⟨T, by
      obtain ⟨_, _, o, _, _, _, z, _⟩ := T
      exact ⟨o, z⟩, fun _ _ p k => TSet.stays p k⟩, rfl, q _ (I.hok.fresh (Nat.le_refl _))⟩
  rcases hs with hs | hs
  · obtain ⟨its, rv, hl, hz⟩ := I.list hs
    exact go its (.inl hl.isList) (ints_of_vals rv)
  · obtain ⟨its, rv, hl, hz⟩ := I.tuple hs
    exact go its (.inr hl) (ints_of_vals rv)
def rSortIx (w : World) : List V → Hp → VK → Prop := fun vs H Q => ∃ (a : Addr) (xs : List Int) (n : Nat), vs = [.ref a] ∧ H a = some (SetIx w a xs n) ∧ n < scanBound ∧
  ∀ (ys : List Int) (p : Addr), ys.Pairwise (· < ·) → (∀ x, x ∈ ys ↔ x ∈ xs) → ys.length ≤ n → H p = none → Q (.ref p) (upd H p (.lst (ys.map V.int)))
theorem cr_sortIx (hc : X.calm = true) : CallR X (.builtin "sorted") (rSortIx X.w) := by
  intro pins s σ H vs us Q I r h
  obtain ⟨a, xs, n, rfl, ha, room, q⟩ := h
  rw [Vals.ref1 r]
  refine in_order (I.hok a _ ha).1 (I.ok.hd hc) room fun z p out c ys keep g o hp hg hi k1 k3 k4 => ?_
  have fresh : H p = none := I.hok.fresh hp
  have few : (ys.map V.int).length ≤ sizeLine := by
    rw [List.length_map]
    exact Nat.le_trans k4 (fits_of_scanBound room)
  have J : Inv X pins σ (upd H p (.lst (ys.map V.int))) { s with heap := z.heap, gens := z.gens, drawn := z.drawn, toks := z.toks } :=
    I.call (ch := []) (Un.laid keep hp fresh) (I.hok.laid keep hp ⟨few, out.toList, c, vals_of_ints hi, hg⟩) (by rw [g]; exact I.bare) (fun _ z => nomatch z)
  obtain ⟨zh, zg, zd, zt, zo⟩ := z
  obtain rfl : zo = s.os := o
  exact ⟨.ref p, _, J, rfl, q ys p k1 k3 k4 fresh⟩
end
end SiX

end Gk

set_option Elab.async false
set_option linter.all false
set_option maxRecDepth 100000
set_option maxHeartbeats 1000000
set_option pp.maxSteps 1500
set_option pp.deepTerms false
namespace Gk
open PySem PySem.Spec PyProof.Rows L2
section
variable {P : Program} {w : World} {K : PySem.W.Frag} {mg : Str → Option Value} {base : Heap}
/-! ### the law's own wave of a form -/
theorem tinv_end {f : Int → Int} {ms : List Int} {acc : List Int × Int} (f01 : f (-1) = 0 ∨ f (-1) = 1) (rise : ms.Pairwise (· < ·)) (lo : ∀ x ∈ ms, 0 ≤ x) (I : TInv f ms ms.length acc) : Wv (f (-1), acc.1) f := by
  refine ⟨fun t => ?_, fun t ht => lo t (List.mem_of_mem_take (I.sub.subset ht)), ?_, f01⟩
  · exact I.c t fun x hx => by rw [List.drop_length] at hx; cases hx
  · have := I.sub
    rw [List.take_length] at this
    exact rise.sublist this
def sp_l_wave (K : PySem.W.Frag) : Sp := fun vs H Q _ => ∃ (v c : V) (dp : Addr) (f : Fm) (m : Nat) (a b ds : List Int), vs = [v, c, .ref dp] ∧ Tk H v f.d ∧ f.ok m = true ∧ f.dep ≤ 22 ∧ Tk H c (chD a b) ∧ a.length = m ∧ b.length = m ∧ Row01 a ∧ Row01 b ∧ H dp = some (.tup (ds.map V.int)) ∧ f.ins ≤ ds.length ∧ ds.length ≤ 1000 ∧ (∀ d ∈ ds, 0 ≤ d) ∧
  ∀ r H' x, Same H H' → Tk H' (.ref r) (wvD x) → Wv x (fun t => f.vt a b t ds) → Q (.ref r) H'
theorem ok_wave (T : Tx w K mg) : FnOk P w K mg base CX0 26 T.f_wave T.fd_wave ["_law_form_here", "_law_change_here", "_law_delays_here"] (sp_l_wave K) := by
  refine T.F_wave.ok sc_wave (fun vs H Q E h => ?_) (fun cdv A outer s H vs Q E hr h => ?_)
  · obtain ⟨v, c, dp, f, m, a, b, ds, rfl, _⟩ := h
    rfl
  · obtain ⟨v, c, dp, f, m, a, b, ds, rfl, tk, ok, de, tc, la, lb, a01, b01, hdp, il, ll, d0, q⟩ := h
    refine ⟨_, (pss_cons (ps_set (i := 3) sc_wave.nd rfl (by first | exact .inl rfl | exact .inr rfl) (pe_ix ix_tup (pe_call (ok_read_at T) (hr.mono (by decide)) (by rfl) T.g_read_at T.F_read_at.kp T.b_read_at .nil pass0 (pa_cons (pv 0) (pa_cons (pv 1) (pa_cons (pv 2) (pa_cons (pe_un un_neg pe_int) pa_nil))))) pe_int (fun _ _ => rfl))) (pss_cons (ps_set (i := 4) sc_wave.nd rfl (by first | exact .inl rfl | exact .inr rfl) (pv 3)) (pss_cons (ps_set (i := 5) sc_wave.nd rfl (by first | exact .inl rfl | exact .inr rfl) (pe_lst pa_nil)) (pss_cons (ps_for PassesOwn.never rfl (pi_list (pe_callB (SiX.cr_sortIx rfl : CallR _ _ (SiX.rSortIx w)) (by rfl) T.m_sorted (by decide +kernel) (pa_cons (pe_callTy (SiX.call_setIx rfl : CallR _ _ (SiX.rSetIx K w)) (by rfl) T.m_set (by decide +kernel) (pa_cons (pv 2) pa_nil)) pa_nil))) (pg_name (i := 6) sc_wave.nd rfl (by first | exact .inl rfl | exact .inr rfl)) (pss_cons (ps_set (i := 7) sc_wave.nd rfl (by first | exact .inl rfl | exact .inr rfl) (pe_ix ix_tup (pe_call (ok_read_at T) (hr.mono (by decide)) (by rfl) T.g_read_at T.F_read_at.kp T.b_read_at .nil pass0 (pa_cons (pv 0) (pa_cons (pv 1) (pa_cons (pv 2) (pa_cons (pv 6) pa_nil))))) pe_int (fun _ _ => rfl))) (C8.pss_cut (ps_if (pt_cmpR op_ne (pv 7) (pv 4) (nomark _)) (pss_one (ps_expr (pe_bm PySem.F.plainAttrs_list PySem.F.slot_list_append PySem.F.type_list_append mt_append (pv 5) (pa_cons (pv 6) pa_nil)))) pss_nil) (pss_one (ps_set (i := 4) sc_wave.nd rfl (by first | exact .inl rfl | exact .inr rfl) (pv 7)))))) (pss_one (ps_ret (pe_tup (pa_cons (pv 3) (pa_cons (pe_callTy call_tuple_of (by rfl) T.m_tuple (by decide +kernel) (pa_cons (pv 5) pa_nil)) pa_nil))))))))), ?_⟩
    have f01 : ∀ t, f.vt a b t ds = 0 ∨ f.vt a b t ds = 1 := fun t => Fm.vt01 a01 b01 t f ds
    refine ⟨v, rfl, c, rfl, .ref dp, rfl, 1, rfl, ?_⟩
    refine ⟨v, c, dp, f, m, a, b, ds, -1, rfl, tk, ok, de, tc, la, lb, hdp, il, fun r1 q1 H1 s1 h1 hq1 => ?_⟩
    refine ⟨r1, _, 0, .int (f.vt a b (-1) ds), rfl, rfl, SqT.of h1, at_0 _ _, ?_⟩
    refine ⟨.int (f.vt a b (-1) ds), rfl, Nat.zero_le _, fun W nW => ?_⟩
    have s2 := same_upd (o := (HO.lst [])) nW
    have hW : upd H1 W (HO.lst []) W = some (HO.lst []) := upd_same
    generalize upd H1 W (HO.lst []) = H2 at s2 hW ⊢
    have s02 := s1.trans s2
    have nW0 := none_of_same s1 nW
    refine ⟨.ref dp, rfl, dp, ds, rfl, .inr (SqT.of (s02 _ _ hdp)), Nat.lt_of_le_of_lt (show ds.length + 1 ≤ 1001 by omega) (by decide), fun S nS => ?_⟩
    have s3 := same_upd (o := (SiX.SetIx w S ds ds.length)) nS
    have hS : upd H2 S (SiX.SetIx w S ds ds.length) S = some (SiX.SetIx w S ds ds.length) := upd_same
    generalize upd H2 S (SiX.SetIx w S ds ds.length) = H3 at s3 hS ⊢
    refine ⟨S, ds, _, rfl, hS, Nat.lt_of_le_of_lt ll (by decide), fun ms M rise mem few nM => ?_⟩
    have s4 := same_upd (o := (HO.lst (ms.map V.int))) nM
    have hM : upd H3 M (HO.lst (ms.map V.int)) M = some (HO.lst (ms.map V.int)) := upd_same
    generalize upd H3 M (HO.lst (ms.map V.int)) = H4 at s4 hM ⊢
    have s04 := s02.trans (s3.trans s4)
    have hW4 := s4 _ _ (s3 _ _ hW)
    have nMW : M ≠ W := ne_of_none (s3 _ _ hW) nM |>.symm
    have lo : ∀ x ∈ ms, 0 ≤ x := fun x hx => d0 x ((mem x).mp hx)
    have con : ∀ s t, s ≤ t → (∀ x ∈ ms, ¬ (s < x ∧ x ≤ t)) → f.vt a b s ds = f.vt a b t ds := fun s t le h => Fm.vt_con le f ds il fun d hd => h d ((mem d).mpr (List.mem_of_mem_take hd))
    refine ⟨M, rfl, ⟨_, SqL.of hM⟩, for_list (K := K) (a := M) (xs := ms.map V.int) (fun i σ H' => ∃ acc y6 y7, σ = [some v, some c, some (.ref dp), some (.int (f.vt a b (-1) ds)), some (.int acc.2), some (.ref W), y6, y7] ∧ Same (hd1 W H4) (hd1 W H') ∧ H' W = some (.lst (acc.1.map V.int)) ∧ TInv (fun t => f.vt a b t ds) ms i acc)
      ⟨([], f.vt a b (-1) ds), _, _, rfl, Same.refl _, hW4, tinv0 f01 lo con⟩ (fun i σ H' _ ⟨_, _, _, _, z, _⟩ => SqL.of (hd1_le _ _ (z _ _ (by rw [hd1_at nMW]; exact hM)))) ?_ ?_⟩
    · rintro i u σ H5 hu ⟨acc, y6, y7, rfl, s5, hW5, I⟩
      obtain ⟨t, ht, rfl⟩ := vints_at hu
      have ts5 : Ts H4 H5 := fun b xs e => hd1_le _ _ (s5 _ _ (by rw [hd1_at (ne_of e hW4 (by intro z; cases z))]; exact e))
      have st := tinv_step f01 rise con I ht
      have la' : acc.1.length ≤ 1000 := by
        have := I.sub.length_le
        rw [List.length_take] at this
        omega
      refine ⟨v, rfl, c, rfl, .ref dp, rfl, .int t, rfl, ?_⟩
      refine ⟨v, c, dp, f, m, a, b, ds, t, rfl, (tk.same s04).ts ts5 (Fm.noL f), ok, de, (tc.same s04).ts ts5 (noL_ch a b), la, lb, ts5 _ _ (s04 _ _ hdp), il, fun r6 q6 H6 s6 h6 hq6 => ?_⟩
      have hW6 := s6 _ _ hW5
      refine ⟨r6, _, 0, .int (f.vt a b t ds), rfl, rfl, SqT.of h6, at_0 _ _, ?_⟩
      have s57 : Same (hd1 W H4) (hd1 W H6) := s5.trans (hd1_same s6)
      have e2 : (stepT (fun t => f.vt a b t ds) acc t).2 = f.vt a b t ds := by unfold stepT; split <;> rfl
      refine ⟨fun σ' H' => σ' = [some v, some c, some (.ref dp), some (.int (f.vt a b (-1) ds)), some (.int acc.2), some (.ref W), some (.int t), some (.int (f.vt a b t ds))] ∧ Same (hd1 W H4) (hd1 W H') ∧ H' W = some (.lst ((stepT (fun t => f.vt a b t ds) acc t).1.map V.int)), ?_, ?_⟩
      · refine ⟨.int (f.vt a b t ds), rfl, .int acc.2, rfl, rfl, _, rfl, ite2 (fun e => ?_) (fun e => ?_)⟩
        · have ne : f.vt a b t ds ≠ acc.2 := fun z => by
            have : (!decide (V.int (f.vt a b t ds) = V.int acc.2)) = true := e
            rw [z, decide_eq_true rfl] at this
            cases this
          have es : (stepT (fun t => f.vt a b t ds) acc t).1 = acc.1 ++ [t] := by
            unfold stepT
            rw [if_pos ne]
          refine ⟨.ref W, rfl, .inl ⟨rfl, _, SqL.of hW6⟩, .int t, rfl, W, _, _, rfl, rfl, hW6, ?_, rfl, s57.trans hd1_upd, ?_⟩
          · rw [List.length_map]
            exact Nat.lt_of_le_of_lt la' (by decide)
          · rw [upd_same, es, List.map_append]
            rfl
        · have eq : f.vt a b t ds = acc.2 := by
            apply Classical.byContradiction
            intro ne
            apply e
            show (!decide (V.int (f.vt a b t ds) = V.int acc.2)) = true
            rw [decide_eq_false (fun z => ne (V.int.inj z))]
            rfl
          have es : (stepT (fun t => f.vt a b t ds) acc t).1 = acc.1 := by
            unfold stepT
            rw [if_neg (fun z => z eq)]
          exact ⟨rfl, s57, by rw [es]; exact hW6⟩
      · rintro σ' H7 ⟨rfl, s7, hW7⟩
        refine ⟨.int (f.vt a b t ds), rfl, stepT (fun t => f.vt a b t ds) acc t, some (.int t), some (.int (f.vt a b t ds)), ?_, s7, hW7, st⟩
        rw [e2]
        rfl
    · rintro σ H5 ⟨acc, y6, y7, rfl, s5, hW5, I⟩
      rw [List.length_map] at I
      have W5 := tinv_end (f01 (-1)) rise lo I
      have k5 : Same H H5 := fun x o e => by
        have xW : x ≠ W := ne_of_none e nW0
        exact hd1_le _ _ (s5 _ _ (by rw [hd1_at xW]; exact s04 _ _ e))
      refine ⟨.int (f.vt a b (-1) ds), rfl, .ref W, rfl, W, _, rfl, .inl ⟨SqL.of hW5, fun tp ntp => ?_⟩⟩
      have s6 := same_upd (o := (HO.tup (acc.1.map V.int))) ntp
      have h6 : upd H5 tp (HO.tup (acc.1.map V.int)) tp = some (HO.tup (acc.1.map V.int)) := upd_same
      generalize upd H5 tp (HO.tup (acc.1.map V.int)) = H6 at s6 h6 ⊢
      refine ⟨sl2, fun r nr => ?_⟩
      have s7 := same_upd (o := HO.tup [V.int (f.vt a b (-1) ds), .ref tp]) nr
      exact q r _ (f.vt a b (-1) ds, acc.1) ((k5.trans s6).trans s7) (.tup upd_same (.cons (.int _) (.cons (.tup (s7 _ _ h6) (TkAll.ints _)) .nil))) W5

end
end Gk

set_option Elab.async false
set_option linter.all false
set_option maxRecDepth 100000
set_option maxHeartbeats 1000000
set_option pp.maxSteps 1500
set_option pp.deepTerms false
namespace Gk
open PySem PySem.Spec PyProof.Rows L2
section
variable {P : Program} {w : World} {K : PySem.W.Frag} {mg : Str → Option Value} {base : Heap}
/-- tuple * int, the int from 1 on: by 1 it is the tuple itself -/
theorem tuple_mul1 (l : Addr) (items : Array Value) (n : Nat) (dd : Option Addr) (sl : Array (Option Value)) (u : Tok) :
    Meets (Builtin.«tuple.__mul__» ⟨[.ref l, .int 1 u], []⟩) (fun _ R s => s.heap.get? l = some { cls := .type "tuple", dict := dd, data := .seq items n, slots := sl } ∧ R (.ok (.ret (Value.ref l))) s) :=
  .of_wp fun prog w A R s h => by
    obtain ⟨hp, g, d, tk, os⟩ := s
    obtain ⟨hl, h⟩ := h
    have f1 := AutoSeq1.idx_int
    have c1 : (items.isEmpty || (1 : Int) == 1) = true := by simp
    wp_walk using wpAny_loadPart' hl
    repeat (first
      | (refine wpAny_ite_false (decide_eq_false (by decide)) ?_; wp_walk using wpAny_loadPart' hl)
      | (refine wpAny_ite_true (decide_eq_true c1) ?_; wp_walk using wpAny_loadPart' hl))
    exact ⟨_, rfl, h⟩
def rRepT1 (K : PySem.W.Frag) : R2 := fun x y H Q => ∃ l k xs, x = .ref l ∧ y = .int k ∧ SqT K H l xs ∧ xs ≠ [] ∧ 1 ≤ k ∧ k ≤ 1000 ∧ xs.length ≤ 1000 ∧ (k = 1 → Q (.ref l) H) ∧ (2 ≤ k → ∀ p, H p = none → Q (.ref p) (upd H p (.tup (List.replicate k.toNat xs).flatten)))
theorem op_repT1 {X : Cx} : OpR X (binaryOp .Mult) (rRepT1 X.K) := by
  intro pins s σ H x y v u Q I rx ry h
  obtain ⟨l, k, xs, ex, ey, hT, full, one, most, few, q1, q2⟩ := h
  by_cases hk : k = 1
  · subst hk
    subst ex ey
    cases rx
    obtain ⟨tk, rfl⟩ := ry
    obtain ⟨its, r, ⟨ob, hob, hcl, c, hdt⟩, _⟩ := I.tuple hT
    obtain ⟨cls, dd, data, sl⟩ := ob
    cases (show cls = Value.type "tuple" from hcl)
    cases (show data = Data.seq its.toArray c from hdt)
    exact wpAny_binaryOp_repeat_ref (T := "tuple") (U := "int") (by decide) ⟨_, hob, rfl⟩ (fun z => typeIs_int z 1 tk) noFill_tuple_mul F.fills_int_mul F.slot_int_rmul repeat_tuple F.slot_int_index.lookup
      (call_meets F.slot_int_rmul (typeIs_int s 1 tk) F.entry_int_rmul (F.args_int_rmul_2 _ _) (int_rmul_tuple 1 tk l its.toArray c dd sl) ⟨hob, rfl, ⟨_, hob, rfl⟩,
        call_meets F.slot_tuple_mul ⟨_, hob, rfl⟩ F.entry_tuple_mul (F.args_tuple_mul_2 _ _) (tuple_mul1 l its.toArray c dd sl tk) ⟨hob, ⟨.ref l, H, I, rfl, q1 rfl⟩⟩⟩)
  · exact op_repT pins s σ H x y v u Q I rx ry ⟨l, k, xs, ex, ey, hT, full, by omega, most, few, q2 (by omega)⟩
theorem repA {K : PySem.W.Frag} {l : Addr} {xs : List V} {k : Int} {H : Hp} {Q : VK} (h : H l = some (.tup xs)) (ne : xs ≠ []) (k1 : 1 ≤ k) (k2 : k ≤ 1000) (hl : xs.length ≤ 1000) (q : ∀ p H', Same H H' → H' p = some (.tup (List.replicate k.toNat xs).flatten) → Q (.ref p) H') : rRepT1 K (.ref l) (.int k) H Q :=
  ⟨l, k, xs, rfl, rfl, SqT.of h, ne, k1, k2, hl, fun e => q l H (fun _ _ z => z) (by rw [h, e]; show _ = some (HO.tup (List.replicate 1 xs).flatten); simp), fun _ p np => q p _ (same_upd np) upd_same⟩

/-! ### tuple * int, the int from 0 on -/
theorem tuple_mul0 (l : Addr) (items : Array Value) (n : Nat) (dd : Option Addr) (sl : Array (Option Value)) (u : Tok) (hi : items.isEmpty = false) :
    Meets (Builtin.«tuple.__mul__» ⟨[.ref l, .int 0 u], []⟩) (fun _ R s => s.heap.get? l = some { cls := .type "tuple", dict := dd, data := .seq items n, slots := sl } ∧
      R (.ok (.ret (Value.ref s.heap.objs.size))) { s with heap := s.heap.push { cls := Value.type "tuple", data := Data.seq #[] }, toks := s.toks }) :=
  .of_wp fun prog w A R s h => by
    obtain ⟨hp, g, d, tk, os⟩ := s
    obtain ⟨hl, h⟩ := h
    have f1 := AutoSeq1.idx_int
    have c1 : (items.isEmpty || (0 : Int) == 1) = false := by rw [hi]; rfl
    have c2 : (decide ((0 : Int) ≤ 0) || items.isEmpty) = true := rfl
    wp_walk using wpAny_loadPart' hl
    repeat (first
      | (refine wpAny_ite_false (decide_eq_false (by decide)) ?_; wp_walk using wpAny_loadPart' hl)
      | (refine wpAny_ite_false (decide_eq_false (by rw [c1]; exact Bool.false_ne_true)) ?_; wp_walk using wpAny_loadPart' hl)
      | (refine wpAny_ite_true (decide_eq_true c2) ?_; wp_walk using wpAny_loadPart' hl))
    exact ⟨_, rfl, h⟩
def rRepT0 (K : PySem.W.Frag) : R2 := fun x y H Q => ∃ l k xs, x = .ref l ∧ y = .int k ∧ SqT K H l xs ∧ xs ≠ [] ∧ 0 ≤ k ∧ k ≤ 1000 ∧ xs.length ≤ 1000 ∧ (k = 1 → Q (.ref l) H) ∧ (k ≠ 1 → ∀ p, H p = none → Q (.ref p) (upd H p (.tup (List.replicate k.toNat xs).flatten)))
theorem op_repT0 {X : Cx} : OpR X (binaryOp .Mult) (rRepT0 X.K) := by
  intro pins s σ H x y v u Q I rx ry h
  obtain ⟨l, k, xs, ex, ey, hT, full, k0, most, few, q1, q2⟩ := h
  by_cases hk : k = 0
  · subst hk
    subst ex ey
    cases rx
    obtain ⟨tk, rfl⟩ := ry
    obtain ⟨its, r, ⟨⟨cls, dd, data, sl⟩, ho, hc, n, hd⟩, hs⟩ := I.tuple hT
    simp only at hc hd
    subst hc hd
    have hle : its.length = xs.length := r.length.symm
    have hi : its.toArray.isEmpty = false := by
      cases its with
      | nil => exact absurd (List.eq_nil_of_length_eq_zero hle.symm) full
      | cons a b => rfl
    refine wpAny_binaryOp_repeat_ref (T := "tuple") (U := "int") (by decide) ⟨_, ho, rfl⟩ (fun s' => typeIs_int s' 0 tk) noFill_tuple_mul F.fills_int_mul F.slot_int_rmul repeat_tuple F.slot_int_index.lookup
      (call_meets F.slot_int_rmul (typeIs_int s 0 tk) F.entry_int_rmul (F.args_int_rmul_2 _ _) (int_rmul_tuple 0 tk l its.toArray n dd sl)
        ⟨ho, rfl, ⟨_, ho, rfl⟩, call_meets F.slot_tuple_mul ⟨_, ho, rfl⟩ F.entry_tuple_mul (F.args_tuple_mul_2 _ _) (tuple_mul0 l its.toArray n dd sl tk hi) ⟨ho, ?_⟩⟩)
    refine ⟨.ref s.heap.objs.size, _, I.laid (t' := s.toks) (o := .tup (List.replicate (0 : Int).toNat xs).flatten) (fun b ob q => Heap.get?_push_of_some _ q) (Nat.le_refl _) ?_, rfl, q2 (by decide) _ (I.hok.fresh (Nat.le_refl _))⟩
    exact ⟨Nat.zero_le _, [], .nil, IsTup.new _ _⟩
  · exact op_repT1 pins s σ H x y v u Q I rx ry ⟨l, k, xs, ex, ey, hT, full, by omega, most, few, q1, fun h => q2 (by omega)⟩
theorem repA0 {K : PySem.W.Frag} {l : Addr} {xs : List V} {k : Int} {H : Hp} {Q : VK} (h : H l = some (.tup xs)) (ne : xs ≠ []) (k1 : 0 ≤ k) (k2 : k ≤ 1000) (hl : xs.length ≤ 1000) (q : ∀ p H', Same H H' → H' p = some (.tup (List.replicate k.toNat xs).flatten) → Q (.ref p) H') : rRepT0 K (.ref l) (.int k) H Q :=
  ⟨l, k, xs, rfl, rfl, SqT.of h, ne, k1, k2, hl, fun e => q l H (fun _ _ z => z) (by rw [h, e]; show _ = some (HO.tup (List.replicate 1 xs).flatten); simp), fun _ p np => q p _ (same_upd np) upd_same⟩

/-! ### drawn delays -/
def sp_far (K : PySem.W.Frag) : Sp := fun vs H Q _ => ∃ (d l : Addr) (n : Int), vs = [.ref d] ∧ DeckC H d l n ∧ n ≤ 100000000 ∧ ∀ H' v, DeckC H' d l (n + 2) → Fr d l H H' → 0 ≤ v → v < 1000000000000000000000000000000 → Q (.int v) H'
theorem ok_far (T : Tx w K mg) : FnOk P w K mg base CX0 3 T.f_far T.fd_far ["_law_deck_here"] (sp_far K) := by
  refine T.F_far.ok sc_far (fun vs H Q E h => ?_) (fun cdv A outer s H vs Q E hr h => ?_)
  · obtain ⟨d, l, n, rfl, _⟩ := h
    rfl
  · obtain ⟨d, l, n, rfl, D, hn, q⟩ := h
    refine ⟨_, (pss_one (ps_ret (pe_op op_add (pe_op op_mulW (pe_call (ok_take T) (hr.mono (by decide)) (by rfl) T.g_take T.F_take.kp T.b_take .nil pass0 (pa_cons (pv 0) (pa_cons (pe_op op_pow pe_int pe_int) pa_nil))) (pe_op op_pow pe_int pe_int)) (pe_call (ok_take T) (hr.mono (by decide)) (by rfl) T.g_take T.F_take.kp T.b_take .nil pass0 (pa_cons (pv 0) (pa_cons (pe_op op_pow pe_int pe_int) pa_nil)))))), ?_⟩
    have e15 : (10 : Int) ^ (15 : Int).toNat = 1000000000000000 := by decide +kernel
    refine ⟨.ref d, rfl, 10, 15, rfl, rfl, ⟨by decide, by decide, by decide⟩, ?_⟩
    refine ⟨d, l, 1000000000000000, _, (by show [V.ref d, V.int (10 ^ (15 : Int).toNat)] = _; rw [e15]), D, by omega, by decide, by decide, fun H1 x D1 fr1 x0 x1 => ?_⟩
    refine ⟨10, 15, rfl, rfl, ⟨by decide, by decide, by decide⟩, ?_⟩
    refine ⟨x, 1000000000000000, rfl, (by show V.int (10 ^ (15 : Int).toNat) = _; rw [e15]), wide_mul (a := 60) (b := 60) (Nat.lt_of_lt_of_le (show x.natAbs < 1000000000000000 by omega) (by decide)) (by decide) (by decide) (by decide) (by decide), ?_⟩
    refine ⟨.ref d, rfl, 10, 15, rfl, rfl, ⟨by decide, by decide, by decide⟩, ?_⟩
    refine ⟨d, l, 1000000000000000, _, (by show [V.ref d, V.int (10 ^ (15 : Int).toNat)] = _; rw [e15]), D1, by omega, by decide, by decide, fun H2 y D2 fr2 y0 y1 => ?_⟩
    exact ⟨_, _, rfl, rfl, q H2 _ (D2.mono (by omega)) (fr1.trans fr2) (by omega) (by omega)⟩
theorem rep_ints (n : Nat) (x : Int) : (List.replicate n [V.int x]).flatten = (List.replicate n x).map V.int := by
  induction n with
  | zero => rfl
  | succ n ih =>
    rw [List.replicate_succ, List.flatten_cons, ih, List.replicate_succ]
    rfl
theorem del_put {H H6 : Hp} {d l OB : Addr} {n : Int} {j : Nat} {b : List Int} {z : Int} (oB : OB ≠ d ∧ OB ≠ l) (nO : H OB = none) (D6 : DeckC H6 d l (n + 3 + 3 * (j : Nat) + 3)) (fr : Fr d l H H6) (hB : H6 OB = some (.lst (b.map V.int))) (lb : b.length = j) (j40 : j < 40) (hb : ∀ x ∈ b, 0 ≤ x ∧ x ≤ 1000000000000000000000000000000) (z0 : 0 ≤ z) (z1 : z ≤ 1000000000000000000000000000000) :
    ∃ acc, H6 OB = some (.lst acc) ∧ acc.length < sizeLine ∧ DeckC (upd H6 OB (.lst (acc ++ [.int z]))) d l (n + 3 + 3 * ((j + 1 : Nat) : Int)) ∧ Fr d l H (upd H6 OB (.lst (acc ++ [.int z]))) ∧ ∃ b' : List Int, upd H6 OB (.lst (acc ++ [.int z])) OB = some (.lst (b'.map V.int)) ∧ b'.length = j + 1 ∧ ∀ x ∈ b', 0 ≤ x ∧ x ≤ 1000000000000000000000000000000 := by
  refine ⟨_, hB, ?_, (D6.upd oB.1 oB.2).mono (by push_cast; omega), Fr.upd fr nO, b ++ [z], by rw [upd_same, List.map_append]; rfl, by rw [List.length_append, lb]; rfl, fun x hx => ?_⟩
  · rw [List.length_map, lb]
    exact Nat.lt_of_lt_of_le (show j < 64 by omega) (by decide)
  · rcases List.mem_append.mp hx with z | z
    · exact hb x z
    · rw [List.mem_singleton.mp z]
      exact ⟨z0, z1⟩
def sp_delays (K : PySem.W.Frag) : Sp := fun vs H Q _ => ∃ (d l : Addr) (n : Int) (k : Nat), vs = [.ref d, .int (k : Nat)] ∧ DeckC H d l n ∧ n ≤ 90000000 ∧ k ≤ 40 ∧ ∀ r H' (ds : List Int), DeckC H' d l (n + 123) → Fr d l H H' → H' r = some (.tup (ds.map V.int)) → ds.length = k → (∀ x ∈ ds, 0 ≤ x ∧ x ≤ 1000000000000000000000000000000) → Q (.ref r) H'
theorem ok_delays (T : Tx w K mg) : FnOk P w K mg base CX0 4 T.f_delays T.fd_delays ["_law_deck_here", "_law_many"] (sp_delays K) := by
  refine T.F_delays.ok sc_delays (fun vs H Q E h => ?_) (fun cdv A outer s H vs Q E hr h => ?_)
  · obtain ⟨d, l, n, k, rfl, _⟩ := h
    rfl
  · obtain ⟨d, l, n, k, rfl, D, hn, k40, q⟩ := h
    refine ⟨_, (pss_cons (ps_set (i := 2) sc_delays.nd rfl (by first | exact .inl rfl | exact .inr rfl) (pe_call (ok_take T) (hr.mono (by decide)) (by rfl) T.g_take T.F_take.kp T.b_take .nil pass0 (pa_cons (pv 0) (pa_cons pe_int pa_nil)))) (pss_cons (ps_set (i := 3) sc_delays.nd rfl (by first | exact .inl rfl | exact .inr rfl) (pe_callB (call_min2 rfl) (by rfl) T.m_min (by decide +kernel) (pa_cons (pe_call (ok_far T) (hr.mono (by decide)) (by rfl) T.g_far T.F_far.kp T.b_far .nil pass0 (pa_cons (pv 0) pa_nil)) (pa_cons (pe_op op_sub (pe_op op_pow pe_int pe_int) pe_int) pa_nil)))) (pss_cons (ps_if (pt_cmpR op_eq (pv 2) pe_int (nomark _)) (pss_one (ps_ret (pe_op op_repT0 (pe_tup (pa_cons (pv 3) pa_nil)) (pv 1)))) pss_nil) (pss_cons (ps_if (pt_cmpR op_eq (pv 2) pe_int (nomark _)) (pss_one (ps_ret (pe_callTy call_tuple_of (by rfl) T.m_tuple (by decide +kernel) (pa_cons (pe_lc (own := [("_law_k", 4)]) (by rfl) sc_delays.nd (pi_range1 (by rfl) T.m_range (pa_cons (pv 1) pa_nil)) (blkOk_by (own := [("_law_k", 4)]) (N := ["_law_deck_here", "_law_many", "_law_way", "_law_far_here", "_law_k"]) (sc := defScope s_delays) (by decide +kernel)) (fun _ _ _ _ _ => (pg_name (i := 4) sc_delays.nd rfl (by first | exact .inl rfl | exact .inr rfl))) (fun _ _ _ _ _ => pts_nil) (fun _ _ _ _ _ => (pe_op op_add (pv 3) (pv 4)))) pa_nil)))) pss_nil) (pss_cons (ps_if (pt_cmpR op_eq (pv 2) pe_int (nomark _)) (pss_one (ps_ret (pe_callTy call_tuple_of (by rfl) T.m_tuple (by decide +kernel) (pa_cons (pe_lc (own := [("_law_k", 4)]) (by rfl) sc_delays.nd (pi_range1 (by rfl) T.m_range (pa_cons (pv 1) pa_nil)) (blkOk_by (own := [("_law_k", 4)]) (N := ["_law_deck_here", "_law_many", "_law_way", "_law_far_here", "_law_k"]) (sc := defScope s_delays) (by decide +kernel)) (fun _ _ _ _ _ => (pg_name (i := 4) sc_delays.nd rfl (by first | exact .inl rfl | exact .inr rfl))) (fun _ _ _ _ _ => pts_nil) (fun _ _ _ _ _ => (pe_op op_sub (pe_op op_pow pe_int pe_int) (pv 4)))) pa_nil)))) pss_nil) (pss_cons (ps_if (pt_cmpR op_eq (pv 2) pe_int (nomark _)) (pss_one (ps_ret (pe_callTy call_tuple_of (by rfl) T.m_tuple (by decide +kernel) (pa_cons (pe_lc (own := [("_law_k", 4)]) (by rfl) sc_delays.nd (pi_range1 (by rfl) T.m_range (pa_cons (pv 1) pa_nil)) (blkOk_by (own := [("_law_k", 4)]) (N := ["_law_deck_here", "_law_many", "_law_way", "_law_far_here", "_law_k"]) (sc := defScope s_delays) (by decide +kernel)) (fun _ _ _ _ _ => (pg_name (i := 4) sc_delays.nd rfl (by first | exact .inl rfl | exact .inr rfl))) (fun _ _ _ _ _ => pts_nil) (fun _ _ _ _ _ => (pe_op op_add (pe_call (ok_far T) (hr.mono (by decide)) (by rfl) T.g_far T.F_far.kp T.b_far .nil pass0 (pa_cons (pv 0) pa_nil)) (pe_call (ok_take T) (hr.mono (by decide)) (by rfl) T.g_take T.F_take.kp T.b_take .nil pass0 (pa_cons (pv 0) (pa_cons pe_int pa_nil)))))) pa_nil)))) pss_nil) (pss_one (ps_ret (pe_callTy call_tuple_of (by rfl) T.m_tuple (by decide +kernel) (pa_cons (pe_lc (own := [("_law_k", 4)]) (by rfl) sc_delays.nd (pi_range1 (by rfl) T.m_range (pa_cons (pv 1) pa_nil)) (blkOk_by (own := [("_law_k", 4)]) (N := ["_law_deck_here", "_law_many", "_law_way", "_law_far_here", "_law_k"]) (sc := defScope s_delays) (by decide +kernel)) (fun _ _ _ _ _ => (pg_name (i := 4) sc_delays.nd rfl (by first | exact .inl rfl | exact .inr rfl))) (fun _ _ _ _ _ => pts_nil) (fun _ _ _ _ _ => (pe_call (ok_take T) (hr.mono (by decide)) (by rfl) T.g_take T.F_take.kp T.b_take .nil pass0 (pa_cons (pv 0) (pa_cons pe_int pa_nil))))) pa_nil)))))))))), ?_⟩
    refine ⟨.ref d, rfl, d, l, 6, _, rfl, D, by omega, by decide, by decide, fun H1 way D1 fr1 w0 w1 => ?_⟩
    refine ⟨.ref d, rfl, d, l, _, rfl, D1, by omega, fun H2 fx D2 fr2 x0 x1 => ?_⟩
    have e30 : (10 : Int) ^ (30 : Int).toNat = 1000000000000000000000000000000 := by decide +kernel
    refine ⟨10, 30, rfl, rfl, ⟨by decide, by decide, by decide⟩, _, 40, rfl, rfl, ?_⟩
    obtain ⟨fv, hfv, f0, f1⟩ : ∃ fv : Int, (if (10 : Int) ^ (30 : Int).toNat - 40 < fx then (10 : Int) ^ (30 : Int).toNat - 40 else fx) = fv ∧ 0 ≤ fv ∧ fv ≤ 999999999999999999999999999960 := by
      rw [e30]
      by_cases z : (1000000000000000000000000000000 : Int) - 40 < fx
      · exact ⟨_, if_pos z, by decide, by decide⟩
      · exact ⟨fx, if_neg z, x0, by omega⟩
    have fr02 := fr1.trans fr2
    have D2' : DeckC H2 d l (n + 3) := D2.mono (by omega)
    refine ⟨_, _, rfl, ?_⟩
    show gName 3 (V.int (if (10 : Int) ^ (30 : Int).toNat - 40 < fx then (10 : Int) ^ (30 : Int).toNat - 40 else fx)) _ _ _
    rw [hfv]
    have em : ((k : Nat) : Int).toNat = k := by omega
    have fin : ∀ (OB : Addr) (H' : Hp) (b : List Int), DeckC H' d l (n + 3 + 3 * (k : Nat)) → Fr d l H H' → b.length = k → (∀ x ∈ b, 0 ≤ x ∧ x ≤ 1000000000000000000000000000000) → ∀ tb, H' tb = none → Q (.ref tb) (upd H' tb (.tup (b.map V.int))) := fun OB H' b D' fr' lb hb tb ntb => q tb _ b ((D'.same (same_upd ntb)).mono (by omega)) (fr'.trans (Fr.of (same_upd ntb))) upd_same lb hb
    refine ⟨.int way, rfl, rfl, _, rfl, ite2 (fun _ => ?_) (fun _ => ?_)⟩
    · refine ⟨.int fv, rfl, sl1, fun p np => ?_⟩
      have s3 := same_upd (o := (HO.tup [V.int fv])) np
      have h3 : upd H2 p (HO.tup [V.int fv]) p = some (HO.tup [V.int fv]) := upd_same
      generalize upd H2 p (HO.tup [V.int fv]) = H3 at s3 h3 ⊢
      refine ⟨.int (k : Nat), rfl, repA0 h3 (List.cons_ne_nil _ _) (by omega) (by omega) (show 1 ≤ 1000 by decide) fun r H4 s4 h4 => ?_⟩
      refine q r H4 (List.replicate k fv) ((D2'.same (s3.trans s4)).mono (by omega)) (fr02.trans (Fr.of (s3.trans s4))) ?_ (List.length_replicate ..) fun x hx => ?_
      · rw [h4, em, rep_ints]
      · rw [List.eq_of_mem_replicate hx]
        exact ⟨f0, by omega⟩
    refine ⟨.int way, rfl, rfl, _, rfl, ite2 (fun _ => ?_) (fun _ => ?_)⟩
    · refine ⟨.int (k : Nat), rfl, k, rfl, by omega, by omega, fun OB nOB => ?_⟩
      have oB := D2'.off nOB
      have nO0 : H OB = none := none_of_frC fr02 D2' nOB
      refine lc_range (lo := 0) (n := ((k : Nat) : Int).toNat) (fun j H' => DeckC H' d l (n + 3 + 3 * (j : Nat)) ∧ Fr d l H H' ∧ ∃ b : List Int, H' OB = some (.lst (b.map V.int)) ∧ b.length = j ∧ ∀ x ∈ b, 0 ≤ x ∧ x ≤ 1000000000000000000000000000000)
        ⟨(D2'.same (same_upd nOB)).mono (by omega), fr02.trans (Fr.new nOB), [], upd_same, rfl, fun x hx => by cases hx⟩ ?_ ?_
      · rintro j H4 hj ⟨D4, fr4, b, hB, lb, hb⟩
        have hj : j < k := by omega
        refine ⟨rfl, .int fv, rfl, .int (0 + (j : Nat)), rfl, _, _, rfl, rfl, ?_⟩
        exact del_put oB nO0 (D4.mono (by omega)) fr4 hB lb (by omega) hb (by omega) (by omega)
      rintro H4 ⟨D4, fr4, b, hB, lb, hb⟩
      rw [em] at lb D4
      exact ⟨OB, _, rfl, .inl ⟨SqL.of hB, fun tb ntb => fin OB H4 b D4 fr4 lb hb tb ntb⟩⟩
    refine ⟨.int way, rfl, rfl, _, rfl, ite2 (fun _ => ?_) (fun _ => ?_)⟩
    · refine ⟨.int (k : Nat), rfl, k, rfl, by omega, by omega, fun OB nOB => ?_⟩
      have oB := D2'.off nOB
      have nO0 : H OB = none := none_of_frC fr02 D2' nOB
      refine lc_range (lo := 0) (n := ((k : Nat) : Int).toNat) (fun j H' => DeckC H' d l (n + 3 + 3 * (j : Nat)) ∧ Fr d l H H' ∧ ∃ b : List Int, H' OB = some (.lst (b.map V.int)) ∧ b.length = j ∧ ∀ x ∈ b, 0 ≤ x ∧ x ≤ 1000000000000000000000000000000)
        ⟨(D2'.same (same_upd nOB)).mono (by omega), fr02.trans (Fr.new nOB), [], upd_same, rfl, fun x hx => by cases hx⟩ ?_ ?_
      · rintro j H4 hj ⟨D4, fr4, b, hB, lb, hb⟩
        have hj : j < k := by omega
        refine ⟨rfl, 10, 30, rfl, rfl, ⟨by decide, by decide, by decide⟩, .int (0 + (j : Nat)), rfl, _, _, rfl, rfl, ?_⟩
        exact del_put oB nO0 (D4.mono (by omega)) fr4 hB lb (by omega) hb (by rw [e30]; omega) (by rw [e30]; omega)
      rintro H4 ⟨D4, fr4, b, hB, lb, hb⟩
      rw [em] at lb D4
      exact ⟨OB, _, rfl, .inl ⟨SqL.of hB, fun tb ntb => fin OB H4 b D4 fr4 lb hb tb ntb⟩⟩
    refine ⟨.int way, rfl, rfl, _, rfl, ite2 (fun _ => ?_) (fun _ => ?_)⟩
    · refine ⟨.int (k : Nat), rfl, k, rfl, by omega, by omega, fun OB nOB => ?_⟩
      have oB := D2'.off nOB
      have nO0 : H OB = none := none_of_frC fr02 D2' nOB
      refine lc_range (lo := 0) (n := ((k : Nat) : Int).toNat) (fun j H' => DeckC H' d l (n + 3 + 3 * (j : Nat)) ∧ Fr d l H H' ∧ ∃ b : List Int, H' OB = some (.lst (b.map V.int)) ∧ b.length = j ∧ ∀ x ∈ b, 0 ≤ x ∧ x ≤ 1000000000000000000000000000000)
        ⟨(D2'.same (same_upd nOB)).mono (by omega), fr02.trans (Fr.new nOB), [], upd_same, rfl, fun x hx => by cases hx⟩ ?_ ?_
      · rintro j H4 hj ⟨D4, fr4, b, hB, lb, hb⟩
        have hj : j < k := by omega
        refine ⟨rfl, .ref d, rfl, d, l, _, rfl, D4, by omega, fun H5 x D5 fr5 x0 x1 => ?_⟩
        refine ⟨.ref d, rfl, d, l, 2, _, rfl, D5, by omega, by decide, by decide, fun H6 y D6 fr6 y0 y1 => ?_⟩
        refine ⟨_, _, rfl, rfl, ?_⟩
        exact del_put oB nO0 (D6.mono (by omega)) ((fr4.trans fr5).trans fr6) (fr6 _ _ oB.1 oB.2 (fr5 _ _ oB.1 oB.2 hB)) lb (by omega) hb (by omega) (by omega)
      rintro H4 ⟨D4, fr4, b, hB, lb, hb⟩
      rw [em] at lb D4
      exact ⟨OB, _, rfl, .inl ⟨SqL.of hB, fun tb ntb => fin OB H4 b D4 fr4 lb hb tb ntb⟩⟩
    · refine ⟨.int (k : Nat), rfl, k, rfl, by omega, by omega, fun OB nOB => ?_⟩
      have oB := D2'.off nOB
      have nO0 : H OB = none := none_of_frC fr02 D2' nOB
      refine lc_range (lo := 0) (n := ((k : Nat) : Int).toNat) (fun j H' => DeckC H' d l (n + 3 + 3 * (j : Nat)) ∧ Fr d l H H' ∧ ∃ b : List Int, H' OB = some (.lst (b.map V.int)) ∧ b.length = j ∧ ∀ x ∈ b, 0 ≤ x ∧ x ≤ 1000000000000000000000000000000)
        ⟨(D2'.same (same_upd nOB)).mono (by omega), fr02.trans (Fr.new nOB), [], upd_same, rfl, fun x hx => by cases hx⟩ ?_ ?_
      · rintro j H4 hj ⟨D4, fr4, b, hB, lb, hb⟩
        have hj : j < k := by omega
        refine ⟨rfl, .ref d, rfl, d, l, 4, _, rfl, D4, by omega, by decide, by decide, fun H6 y D6 fr6 y0 y1 => ?_⟩
        exact del_put oB nO0 (D6.mono (by omega)) (fr4.trans fr6) (fr6 _ _ oB.1 oB.2 hB) lb (by omega) hb (by omega) (by omega)
      rintro H4 ⟨D4, fr4, b, hB, lb, hb⟩
      rw [em] at lb D4
      exact ⟨OB, _, rfl, .inl ⟨SqL.of hB, fun tb ntb => fin OB H4 b D4 fr4 lb hb tb ntb⟩⟩

end
end Gk

set_option Elab.async false
set_option linter.all false
set_option maxRecDepth 100000
set_option maxHeartbeats 1000000
set_option pp.maxSteps 1500
set_option pp.deepTerms false
namespace Gk
open PySem PySem.Spec PyProof.Rows L2
section
variable {P : Program} {w : World} {K : PySem.W.Frag} {mg : Str → Option Value} {base : Heap}
/-! ### is a form shown rightly -/
theorem kII : kitB "int" "int" = some true := by decide +kernel
theorem kIB : kitB "int" "bool" = some false := by decide +kernel
theorem kTT : kitB "tuple" "tuple" = some true := by decide +kernel
theorem eqv_selfs : ∀ r : List Int, PyData.eqvAll (r.map PyData.int) (r.map PyData.int) = true
  | [] => rfl
  | x :: r => by
    show ((x == x) && PyData.eqvAll (r.map PyData.int) (r.map PyData.int)) = true
    rw [eqv_selfs r, beq_self_eq_true]
    rfl
theorem lay_ints : ∀ r : List Int, PyData.canLayAll0 (r.map PyData.int) = true
  | [] => rfl
  | x :: r => by
    show (PyData.canLay0 (.int x) && PyData.canLayAll0 (r.map PyData.int)) = true
    rw [lay_ints r]
    rfl
theorem depth_ints : ∀ r : List Int, PyData.depthAll (r.map PyData.int) = 0
  | [] => rfl
  | x :: r => by
    show max 0 (PyData.depthAll (r.map PyData.int)) = 0
    rw [depth_ints r]
    rfl
theorem sh_row (r : List Int) : SeqAt.shaped (rowD r) = true := by
  unfold SeqAt.shaped rowD
  rw [Bool.and_eq_true]
  refine ⟨?_, decide_eq_true ?_⟩
  · simp only [PyData.canLay0, lay_ints]
  · simp only [PyData.depth, depth_ints]
    decide
def sp_shown_right (T : Tx w K mg) : Sp := fun vs H Q _ => ∃ (v c : V) (f : Fm) (m : Nat) (a b : List Int), vs = [v, c] ∧ Tk H v f.d ∧ f.ok m = true ∧ f.dep ≤ 22 ∧ f.cnt ≤ 900 ∧ Tk H c (chD a b) ∧ a.length = m ∧ b.length = m ∧ Row01 a ∧ Row01 b ∧ Tabs H T.tabs ∧ ∀ H', Gr H H' → Q (.bl true) H'
theorem ok_shown_right (T : Tx w K mg) (B : Tb base T) : FnOk P w K mg base CX0 57 T.f_shown_right T.fd_shown_right ["_law_form_here", "_law_change_here"] (sp_shown_right T) := by
  refine T.F_shown_right.ok sc_shown_right (fun vs H Q E h => ?_) (fun cdv A outer s H vs Q E hr h => ?_)
  · obtain ⟨v, c, f, m, a, b, rfl, _⟩ := h
    rfl
  · obtain ⟨v, c, f, m, a, b, rfl, tk, ok, de, cf, tc, la, lb, a01, b01, tabs, q⟩ := h
    refine ⟨_, (pss_cons (ps_set (i := 2) sc_shown_right.nd rfl (by first | exact .inl rfl | exact .inr rfl) (pe_call (ok_form_shown T B) (hr.mono (by decide)) (by rfl) T.g_form_shown T.F_form_shown.kp T.b_form_shown .nil pass0 (pa_cons (pv 0) (pa_cons (pv 1) pa_nil)))) (pss_cons (ps_if (pt_not (pt_val (pe_ix ix_tup (pe_call (ok_word T) (hr.mono (by decide)) (by rfl) T.g_word T.F_word.kp T.b_word .nil pass0 (pa_cons (pv 0) (pa_cons (pv 1) pa_nil))) pe_int (fun _ _ => rfl)))) (pss_one (ps_ret (pe_cmpR op_isN (pv 2) pe_non (nomark _)))) pss_nil) (pss_cons (ps_if (pw_or (pt_not (pt_val (pe_callB call_isi (by rfl) T.m_isinstance (by decide +kernel) (pa_cons (pv 2) (pa_cons (pe_bltn (v := .ty "tuple") (u := .type "tuple") (by rfl) T.m_tuple (by decide +kernel) rfl) pa_nil))))) (pw_or (pt_cmpR op_ne (pe_callB call_len_seq (by rfl) T.m_len PySem.boot_len (pa_cons (pv 2) pa_nil)) (pe_call (ok_leaves T) (hr.mono (by decide)) (by rfl) T.g_leaves T.F_leaves.kp T.b_leaves .nil pass0 (pa_cons (pv 0) pa_nil)) (nomark _)) (pw_or1 (pt_cmpR (op_neD hr.units) (pe_call (ok_form_shown T B) (hr.mono (by decide)) (by rfl) T.g_form_shown T.F_form_shown.kp T.b_form_shown .nil pass0 (pa_cons (pv 0) (pa_cons (pv 1) pa_nil))) (pv 2) (nomark _))))).pt (pss_one (ps_ret pe_bl)) pss_nil) (pss_cons (ps_if (pt_cmpR (op_neD hr.units) (pe_lc (own := [("_law_one", 3)]) (by rfl) sc_shown_right.nd (pi_tup (pv 2)) (blkOk_by (own := [("_law_one", 3)]) (N := ["_law_form_here", "_law_change_here", "_law_told", "_law_one"]) (sc := defScope s_shown_right) (by decide +kernel)) (fun _ _ _ _ _ => (pg_name (i := 3) sc_shown_right.nd rfl (by first | exact .inl rfl | exact .inr rfl))) (fun _ _ _ _ _ => (pts_one (PW.pt (pw_or (pt_val (pe_callB (show CallR _ _ (rIsi K) from call_isi) (by rfl) T.m_isinstance (by decide +kernel) (pa_cons (pv 3) (pa_cons (pe_bltn (v := .ty "bool") (u := .type "bool") (by rfl) T.m_bool (by decide +kernel) rfl) pa_nil)))) (pw_or (pt_not (pt_val (pe_callB (show CallR _ _ (rIsi K) from call_isi) (by rfl) T.m_isinstance (by decide +kernel) (pa_cons (pv 3) (pa_cons (pe_bltn (v := .ty "int") (u := .type "int") (by rfl) T.m_int (by decide +kernel) rfl) pa_nil))))) (pw_or1 (pt_cmpR (show OpR _ _ (rIn K true) from op_notIn_seq) (pv 3) (pe_tup (pa_cons pe_int (pa_cons pe_int (pa_cons pe_int pa_nil)))) rfl))))))) (fun _ _ _ _ _ => (pv 3))) (pe_lst pa_nil) (nomark _)) (pss_one (ps_ret pe_bl)) pss_nil) (pss_one (ps_ret (pe_cmpR op_gt (pe_callB call_len_seq (by rfl) T.m_len PySem.boot_len (pa_cons (pe_ix ix_tup (pe_call (ok_wave T) (hr.mono (by decide)) (by rfl) T.g_wave T.F_wave.kp T.b_wave .nil pass0 (pa_cons (pv 0) (pa_cons (pv 1) (pa_cons (pv 2) pa_nil)))) pe_int (fun _ _ => rfl)) pa_nil)) pe_int (nomark _)))))))), ?_⟩
    have tm : T.P_most_of_and ∈ T.tabs := by simp [Tx.tabs]
    have ti : T.P_input_delay ∈ T.tabs := by simp [Tx.tabs]
    have okt := Fm.tri_ok a01 b01 f
    by_cases fro : 1 < (f.tri a b).num
    · refine ⟨v, rfl, c, rfl, v, c, f, m, a, b, rfl, tk, ok, de, by omega, tc, la, lb, a01, b01, tabs _ tm, tabs _ ti, (fun z => absurd fro z), fun _ r1 H1 g1 h1 => ?_⟩
      have hp : (1 - f.wo a, f.wo a) ∈ pw (f.wd a b) := by
        show _ ∈ pw (f.tri a b).wt
        rw [Tri.wt_bi okt]
        have m1 : (f.tri a b).mb = true := decide_eq_true fro
        rw [m1]
        rcases Fm.wo01 a01 la ok with z | z <;> rw [z] <;> (show _ ∈ [((0 : Int), (0 : Int)), (0, 1), (1, 0), (1, 1)]) <;> decide
      have L := Fm.late_ok a01 b01 f _ ok hp
      generalize hD : f.late a b (1 - f.wo a, f.wo a) = D at h1 L
      have lD : D.length ≤ 900 := by rw [L.len]; exact Nat.le_trans (Fm.ins_cnt f) cf
      refine ⟨v, rfl, c, rfl, v, c, f, m, a, b, rfl, tk.gr g1, ok, de, tc.gr g1, la, lb, a01, b01, fun p2 H2 s2 h2 => ?_⟩
      have g2 := g1.trans (Gr.of s2)
      have h12 := s2 _ _ h1
      rw [decide_eq_true fro] at h2
      refine ⟨p2, _, 2, .bl true, rfl, rfl, SqT.of h2, rfl, _, rfl, iteF ?_⟩
      refine ⟨.ref r1, rfl, _, _, _, _, _, rfl, .ty _, .base (.tup h12), kit_ty kTT, _, rfl, iteF ?_⟩
      refine ⟨.ref r1, rfl, r1, _, rfl, .inr (SqT.of h12), v, rfl, v, f, m, rfl, tk.gr g2, ok, by omega, fun H3 s3 => ?_⟩
      have g3 := g2.trans (Gr.of s3)
      refine ⟨rfl, _, rfl, ?_⟩
      rw [List.length_map, L.len, decide_eq_true rfl]
      refine iteF ?_
      refine ⟨v, rfl, c, rfl, v, c, f, m, a, b, rfl, tk.gr g3, ok, de, by omega, tc.gr g3, la, lb, a01, b01, g3.2 _ (tabs _ tm), g3.2 _ (tabs _ ti), (fun z => absurd fro z), fun _ r4 H4 g4 h4 => ?_⟩
      rw [hD] at h4
      have g04 := g3.trans g4
      have h14 := g4.tup (s3 _ _ h12)
      have tD1 : Tk H4 (.ref r1) (rowD D) := .tup h14 (TkAll.ints D)
      have tD4 : Tk H4 (.ref r4) (rowD D) := .tup h4 (TkAll.ints D)
      refine ⟨.ref r1, rfl, rowD D, rowD D, tD4.dp', tD1.dp', sh_row D, sh_row D, _, rfl, ?_⟩
      rw [show PyData.eqv (rowD D) (rowD D) = true from eqv_selfs D]
      refine iteF ?_
      refine ⟨.ref r1, rfl, r1, rfl, ⟨_, SqT.of h14⟩, fun E0 nE0 => ?_⟩
      refine lc_tup (K := K) (a := r1) (xs := D.map V.int) (fun j H' => Same H4 (hd1 E0 H') ∧ H' E0 = some (.lst [])) ⟨hd1_of (same_upd nE0) nE0, upd_same⟩ (fun j H' _ hP => SqT.of (hd1_le _ _ (hP.1 _ _ h14))) ?_ ?_
      · rintro j u H5 hu ⟨s5, hE⟩
        obtain ⟨x, hx, rfl⟩ := vints_at hu
        obtain ⟨x0, x2⟩ := L.bd x (List.mem_of_getElem? hx)
        have nin : ∀ x : Int, 0 ≤ x → x ≤ 2 → (if true = true then !inV (.int x) [V.int 0, V.int 1, V.int 2] else inV (.int x) [V.int 0, V.int 1, V.int 2]) = false := fun x h0 h2 => by
          have : x = 0 ∨ x = 1 ∨ x = 2 := by omega
          rcases this with rfl | rfl | rfl <;> decide +kernel
        refine ⟨rfl, .int x, rfl, _, _, _, _, _, rfl, .ty _, .base (.int _), kit_ty kIB, _, rfl, iteF ?_⟩
        refine ⟨.int x, rfl, _, _, _, _, _, rfl, .ty _, .base (.int _), kit_ty kII, _, rfl, iteF ?_⟩
        refine ⟨.int x, rfl, sl3, fun t nt => ?_⟩
        have s6 := same_upd (o := HO.tup [V.int 0, V.int 1, V.int 2]) nt
        refine ⟨t, _, rfl, .inr (SqT.of upd_same), rfl, rfl, _, rfl, ?_⟩
        rw [nin x x0 x2]
        exact iteF ⟨s5.trans (hd1_same s6), s6 _ _ hE⟩
      · rintro H5 ⟨s5, hE⟩
        have k5 : Same H4 H5 := fun b o e => hd1_le _ _ (s5 _ _ e)
        refine ⟨Nat.zero_le _, fun e1 ne1 => ?_⟩
        have s6 := same_upd (o := (HO.lst [])) ne1
        have h6 : upd H5 e1 (HO.lst []) e1 = some (HO.lst []) := upd_same
        generalize upd H5 e1 (HO.lst []) = H6 at s6 h6 ⊢
        have k6 := k5.trans s6
        have g06 := g04.trans (Gr.of k6)
        refine ⟨.list [], .list [], .lst (SqL.of (s6 _ _ hE)) .nil, .lst (SqL.of h6) .nil, rfl, rfl, _, rfl, iteF ?_⟩
        refine ⟨v, rfl, c, rfl, .ref r1, rfl, v, c, r1, f, m, a, b, D, rfl, tk.gr g06, ok, de, tc.gr g06, la, lb, a01, b01, k6 _ _ h14, by rw [L.len]; exact Nat.le_refl _, by omega, fun d hd => (L.bd d hd).1, fun r7 H7 x s7 t7 W7 => ?_⟩
        obtain ⟨wa, wt, e7, hwa, hwt⟩ := t7.wv_inv
        cases e7
        refine ⟨r7, _, 1, .ref wt, rfl, rfl, SqT.of hwa, at_1 _ _ _, wt, _, rfl, .inr (SqT.of hwt), _, _, rfl, rfl, ?_⟩
        have two : 1 < x.2.length := by
          refine W7.twice ?_ ?_
          · show f.vt a b 0 D ≠ f.vt a b (-1) D
            rw [L.z, L.m1]
            have := Fm.wo01 a01 la ok
            show 1 - f.wo a ≠ f.wo a
            omega
          · show f.vt a b 1 D ≠ f.vt a b 0 D
            rw [L.z, L.o]
            have := Fm.wo01 a01 la ok
            show f.wo a ≠ 1 - f.wo a
            omega
        have e1 : decide ((1 : Int) < (((x.2.map V.int).length : Nat) : Int)) = true := decide_eq_true (by rw [List.length_map]; omega)
        have q7 := q H7 (g06.trans (Gr.of s7))
        rw [← e1] at q7
        exact q7
    · refine ⟨v, rfl, c, rfl, v, c, f, m, a, b, rfl, tk, ok, de, by omega, tc, la, lb, a01, b01, tabs _ tm, tabs _ ti, (fun _ H1 g1 => ?_), fun z => absurd z fro⟩
      refine ⟨v, rfl, c, rfl, v, c, f, m, a, b, rfl, tk.gr g1, ok, de, tc.gr g1, la, lb, a01, b01, fun p2 H2 s2 h2 => ?_⟩
      rw [decide_eq_false fro] at h2
      refine ⟨p2, _, 2, .bl false, rfl, rfl, SqT.of h2, rfl, _, rfl, iteT ?_⟩
      exact ⟨.non, rfl, rfl, q H2 (g1.trans (Gr.of s2))⟩

end
end Gk

set_option Elab.async false
set_option linter.all false
set_option maxRecDepth 100000
set_option maxHeartbeats 1000000
set_option pp.maxSteps 1500
set_option pp.deepTerms false
namespace Gk
open PySem PySem.Spec PyProof.Rows L2
mutual
theorem Tk.sh {H : Hp} : ∀ {v : V} {d : PyData}, Tk H v d → noL d = true → Sh H v d
  | _, _, .bl b, _ => .bl b
  | _, _, .int i, _ => .int i
  | _, _, .str x, _ => .str x
  | _, _, .lst h t, n => by cases n
  | _, _, .tup h t, n => .tup h (t.sh n)
theorem TkAll.sh {H : Hp} : ∀ {vs : List V} {ds : List PyData}, TkAll H vs ds → noLs ds = true → ShAll H vs ds
  | _, _, .nil, _ => .nil
  | _, _, .cons (d := d) (ds := ds) h t, n => by
    have n' : noL d = true ∧ noLs ds = true := Bool.and_eq_true_iff.mp n
    exact .cons (h.sh n'.1) (t.sh n'.2)
end

/-! ### many great waves shown -/
mutual
theorem gd_short {B : Nat} (hB : B < 10 ^ 38) : ∀ {d : PyData}, gd B d = true → d.leavesShort 40 = true
  | .none, _ => rfl
  | .bool _, _ => rfl
  | .int i, e => by
    have := PySem.int_text_length_le10 (a := i) (k := 38) (by decide) (Nat.lt_of_le_of_lt (of_decide_eq_true e) hB)
    refine decide_eq_true ?_
    show (Str.ofString (toString i)).length ≤ 40
    rw [str_len]
    omega
  | .str x, e => by
    show (x.cps.toList.all fun c => decide (c < 16 ^ 8)) = true
    refine List.all_eq_true.mpr fun c hc => decide_eq_true (Nat.lt_trans (of_decide_eq_true (List.all_eq_true.mp e c hc)) (by decide))
  | .list _, e => gds_short hB e
  | .tuple _, e => gds_short hB e
  | .dict [], _ => rfl
  | .dict (_ :: _), e => by cases e
theorem gds_short {B : Nat} (hB : B < 10 ^ 38) : ∀ {l : List PyData}, gds B l = true → PyData.leavesShortAll 40 l = true
  | [], _ => rfl
  | _ :: _, e => by
    have e' := Bool.and_eq_true_iff.mp e
    exact Bool.and_eq_true_iff.mpr ⟨gd_short hB e'.1, gds_short hB e'.2⟩
end
theorem Fit.fineG {B n m : Nat} {d : PyData} (h : Fit B n m d) (hB : B < 10 ^ 38) (hn : n ≤ 390000) (hm : m ≤ 50) : d.showable = true ∧ d.shown.length ≤ sizeLine ∧ d.depth ≤ 50 := by
  have s := gd_show (B := B) (Nat.lt_trans hB (by decide)) h.1
  refine ⟨s.1, ?_, Nat.le_trans h.2.2 hm⟩
  have := PyData.shown_le 40 (by decide) d (gd_short hB h.1)
  have e : sizeLine = 16777216 := by decide
  have := h.2.1
  rw [e]
  omega
theorem fitg_n {i : Int} (h0 : 0 ≤ i) (h1 : i < 2 ^ 106) : Fit (2 ^ 106) 106 0 (.int i) := by
  have : i.natAbs < 2 ^ 106 := by omega
  exact ⟨decide_eq_true (Nat.le_of_lt this), int_weight this, Nat.zero_le _⟩
theorem fitg_map {α : Type} {f : α → PyData} {B n M : Nat} : ∀ l : List α, (∀ x ∈ l, Fit B n M (f x)) → FitL B ((n + 1) * l.length) M (l.map f)
  | [], _ => ⟨rfl, Nat.le_refl _, Nat.zero_le _⟩
  | x :: r, h => by
    have a := (FitL.one (h x (List.mem_cons_self ..))).app (fitg_map (f := f) r fun y hy => h y (List.mem_cons_of_mem _ hy))
    exact ⟨a.1, Nat.le_trans a.2.1 (by rw [List.length_cons, Nat.mul_succ]; omega), a.2.2⟩
theorem fitg_wave {x : Int × List Int} (f01 : x.1 = 0 ∨ x.1 = 1) (hl : x.2.length ≤ 200) (bd : ∀ t ∈ x.2, 0 ≤ t ∧ t < 2 ^ 106) : Fit (2 ^ 106) 21403 2 (wvD x) := by
  have a : Fit (2 ^ 106) 1 1 (.int x.1) := ⟨decide_eq_true (by rcases f01 with z | z <;> rw [z] <;> decide), int_weight (by rcases f01 with z | z <;> rw [z] <;> decide), Nat.zero_le _⟩
  have b : Fit (2 ^ 106) 21400 1 (rowD x.2) := by
    have f := fitg_map (f := PyData.int) (B := 2 ^ 106) (n := 106) (M := 0) x.2 fun t ht => fitg_n (bd t ht).1 (bd t ht).2
    exact (Fit.tup f).mono (Nat.le_refl _) (by omega) (Nat.le_refl _)
  have ab := (FitL.one a).app (FitL.one b)
  exact (Fit.tup ab).mono (Nat.le_refl _) (by omega) (Nat.le_refl _)
theorem fitg_waves {ws : List (Int × List Int)} (h : ∀ x ∈ ws, (x.1 = 0 ∨ x.1 = 1) ∧ x.2.length ≤ 200 ∧ ∀ t ∈ x.2, 0 ≤ t ∧ t < 2 ^ 106) (hl : ws.length ≤ 18) : (PyData.tuple (ws.map wvD)).showable = true ∧ (PyData.tuple (ws.map wvD)).shown.length ≤ sizeLine ∧ (PyData.tuple (ws.map wvD)).depth ≤ 50 := by
  have f := fitg_map (f := wvD) (B := 2 ^ 106) (n := 21403) (M := 2) ws fun x hx => fitg_wave (h x hx).1 (h x hx).2.1 (h x hx).2.2
  exact (Fit.tup f).fineG (by decide) (by omega) (by decide)

section
variable {P : Program} {w : World} {K : PySem.W.Frag} {mg : Str → Option Value} {base : Heap}
/-! ### the law -/
theorem Fm.wave_in {a b : List Int} {f : Fm} {ds : List Int} {x : Int × List Int} (l : f.ins ≤ ds.length) (W : Wv x fun t => f.vt a b t ds) : ∀ t ∈ x.2, t ∈ ds := fun t ht => by
  have ne := (W.mem t).mp ht
  apply Classical.byContradiction
  intro no
  refine ne (Fm.vt_con (by omega) f ds l fun d hd k => no ?_).symm
  have : d = t := by omega
  rw [← this]
  exact List.mem_of_mem_take hd
theorem Tabs.frC {H H' : Hp} {Ps : List Addr} {d l : Addr} {n : Int} (t : Tabs H Ps) (D : DeckC H d l n) (f : Fr d l H H') : Tabs H' Ps := fun P hP => tab_frC D f (t P hP)
abbrev ChL := List (List Int × List Int)
def chF (p : List Int × List Int) : PyData := chD p.1 p.2
theorem noL_chF (p : List Int × List Int) : noL (chF p) = true := noL_ch _ _
def ChOk (m : Nat) (p : List Int × List Int) : Prop := p.1.length = m ∧ p.2.length = m ∧ Row01 p.1 ∧ Row01 p.2
theorem wave_fit {a b : List Int} {f : Fm} {ds : List Int} {x : Int × List Int} (l : f.ins ≤ ds.length) (c : f.cnt ≤ 40) (W : Wv x fun t => f.vt a b t ds) (bd : ∀ t ∈ ds, 0 ≤ t ∧ t ≤ 1000000000000000000000000000000) : (wvD x).showable = true ∧ (wvD x).shown.length ≤ sizeLine ∧ (wvD x).depth ≤ 50 := by
  have f1 : Fit (2 ^ 106) 21403 2 (wvD x) := fitg_wave W.f01 (by have := Fm.wave_few l W; have := Fm.ins_cnt f; omega) fun t ht => by
    have := bd t (Fm.wave_in l W t ht)
    exact ⟨this.1, Int.lt_of_le_of_lt this.2 (by decide)⟩
  exact f1.fineG (by decide) (by decide) (by decide)
def sp_law (K : PySem.W.Frag) (Ps : List Addr) : Sp := fun vs H Q _ => ∃ (a : Addr) (ns : List Int), vs = [.ref a] ∧ SqL K H a (ns.map V.int) ∧ ns.length ≤ 63 ∧ Tabs H Ps ∧ ∀ H', Q (.bl true) H'
theorem ok_law (T : Tx w K mg) (B : Tb base T) : FnG P w K mg base CX0 58 T.f_law T.fd_law ["_law_script"] (sp_law K T.tabs) := by
  refine okG0 T.F_law sc_law (fun vs H Q E h => ?_) (fun cdv A outer s H vs Q E nothing hr h => ?_)
  · obtain ⟨a, ns, rfl, _⟩ := h
    rfl
  · obtain ⟨a, ns, rfl, hS, hlen, tabs, q⟩ := h
    refine ⟨_, (pss_cons (ps_set (i := 1) sc_law.nd rfl (by first | exact .inl rfl | exact .inr rfl) (pe_call (ok_deck T) (hr.mono (by decide)) (by rfl) T.g_deck T.F_deck.kp T.b_deck .nil pass0 (pa_cons (pv 0) pa_nil))) (pss_cons (ps_for PassesOwn.never rfl (pi_range1 (by rfl) T.m_range (pa_cons pe_int pa_nil)) (pg_name (i := 2) sc_law.nd rfl (by first | exact .inl rfl | exact .inr rfl)) (pss_cons (ps_set (i := 3) sc_law.nd rfl (by first | exact .inl rfl | exact .inr rfl) (pe_op op_add pe_int (pe_call (ok_take T) (hr.mono (by decide)) (by rfl) T.g_take T.F_take.kp T.b_take .nil pass0 (pa_cons (pv 1) (pa_cons pe_int pa_nil))))) (pss_cons (ps_set (i := 4) sc_law.nd rfl (by first | exact .inl rfl | exact .inr rfl) (pe_call (ok_some_form T) (hr.mono (by decide)) (by rfl) T.g_some_form T.F_some_form.kp T.b_some_form .nil pass0 (pa_cons (pv 1) (pa_cons (pv 3) pa_nil)))) (pss_cons (ps_setLc (i := 5) (own := [("_law_k", 9)]) (by rfl) sc_law.nd rfl rfl (sw_true rfl rfl rfl (by decide +kernel)) (pi_range1 (by rfl) T.m_range (pa_cons pe_int pa_nil)) (blkOk_by (own := [("_law_k", 9)]) (N := ["_law_script", "_law_deck_here", "_law_turn", "_law_many", "_law_form_here", "_law_changes", "_law_again", "_law_delays_here", "_law_due", "_law_k", "_law_change_here"]) (sc := defScope s_law) (by decide +kernel)) (fun _ _ _ _ _ => (pg_name (i := 9) sc_law.nd rfl (by first | exact .inl rfl | exact .inr rfl))) (fun _ _ _ _ _ => pts_nil) (fun _ _ _ _ _ => (pe_call (ok_change T) (hr.mono (by decide)) (by rfl) T.g_change T.F_change.kp T.b_change .nil pass0 (pa_cons (pv 1) (pa_cons (pv 3) pa_nil))))) (pss_cons (ps_for PassesOwn.never rfl (pi_range1 (by rfl) T.m_range (pa_cons pe_int pa_nil)) (pg_name (i := 6) sc_law.nd rfl (by first | exact .inl rfl | exact .inr rfl)) (pss_cons (ps_set (i := 7) sc_law.nd rfl (by first | exact .inl rfl | exact .inr rfl) (pe_call (ok_delays T) (hr.mono (by decide)) (by rfl) T.g_delays T.F_delays.kp T.b_delays .nil pass0 (pa_cons (pv 1) (pa_cons (pe_call (ok_leaves T) (hr.mono (by decide)) (by rfl) T.g_leaves T.F_leaves.kp T.b_leaves .nil pass0 (pa_cons (pv 4) pa_nil)) pa_nil)))) (pss_cons (ps_setLc (i := 8) (own := [("_law_change_here", 10)]) (by rfl) sc_law.nd rfl rfl (sw_true rfl rfl rfl (by decide +kernel)) (pi_list (pe_slice sl_list (pv 5) po_none (po_some pe_int))) (blkOk_by (own := [("_law_change_here", 10)]) (N := ["_law_script", "_law_deck_here", "_law_turn", "_law_many", "_law_form_here", "_law_changes", "_law_again", "_law_delays_here", "_law_due", "_law_k", "_law_change_here"]) (sc := defScope s_law) (by decide +kernel)) (fun _ _ _ _ _ => (pg_name (i := 10) sc_law.nd rfl (by first | exact .inl rfl | exact .inr rfl))) (fun _ _ _ _ _ => pts_nil) (fun _ _ _ _ _ => (pe_call (ok_wave T) (hr.mono (by decide)) (by rfl) T.g_wave T.F_wave.kp T.b_wave .nil pass0 (pa_cons (pv 4) (pa_cons (pv 10) (pa_cons (pv 7) pa_nil)))))) (pss_one (ps_for PassesOwn.never rfl (pi_tup (pe_tup (pa_cons pe_int (pa_cons pe_int (pa_cons pe_int pa_nil))))) (pg_name (i := 9) sc_law.nd rfl (by first | exact .inl rfl | exact .inr rfl)) (pss_one (ps_if (pt_cmpR op_ne (pe_callB (call_repr nothing hr.units) (by rfl) T.m_repr (by decide +kernel) (pa_cons (pe_call (ok_form_wave T B) (hr.mono (by decide)) (by rfl) T.g_form_wave T.F_form_wave.kp T.b_form_wave .nil pass0 (pa_cons (pv 4) (pa_cons (pv 7) (pa_cons (pe_ix ix_list (pv 5) (pv 9) (fun _ _ => rfl)) pa_nil)))) pa_nil)) (pe_callB (call_repr nothing hr.units) (by rfl) T.m_repr (by decide +kernel) (pa_cons (pe_ix ix_list (pv 8) (pv 9) (fun _ _ => rfl)) pa_nil)) (nomark _)) (pss_one (ps_ret pe_bl)) pss_nil))))))) (pss_one (ps_for PassesOwn.never rfl (pi_list (pe_op op_cat (pv 5) (pe_slice sl_list (pv 5) po_none (po_some pe_int)))) (pg_name (i := 10) sc_law.nd rfl (by first | exact .inl rfl | exact .inr rfl)) (pss_one (ps_if (pt_not (pt_val (pe_call (ok_shown_right T B) (hr.mono (by decide)) (by rfl) T.g_shown_right T.F_shown_right.kp T.b_shown_right .nil pass0 (pa_cons (pv 4) (pa_cons (pv 10) pa_nil))))) (pss_one (ps_ret pe_bl)) pss_nil))))))))) (pss_one (ps_ret (pe_cmpR (op_eqD hr.units) (pe_call (ok_form_wave T B) (hr.mono (by decide)) (by rfl) T.g_form_wave T.F_form_wave.kp T.b_form_wave .nil pass0 (pa_cons (pe_tup (pa_cons pe_str (pa_cons pe_int pa_nil))) (pa_cons (pe_tup (pa_cons pe_int pa_nil)) (pa_cons (pe_tup (pa_cons (pe_tup (pa_cons pe_int pa_nil)) (pa_cons (pe_tup (pa_cons pe_int pa_nil)) pa_nil))) pa_nil)))) (pe_tup (pa_cons pe_int (pa_cons (pe_tup (pa_cons pe_int pa_nil)) pa_nil))) (nomark _)))))), ?_⟩
    have tl : T.P_later ∈ T.tabs := by simp [Tx.tabs]
    refine ⟨.ref a, rfl, a, ns, rfl, hS, hlen, fun H1 d l s1 D1 => ?_⟩
    have t1 : Tabs H1 T.tabs := fun P hP => (Gr.of s1).2 _ (tabs P hP)
    refine ⟨6, rfl, by decide, by decide, ?_⟩
    refine for_range (lo := 0) (n := (6 : Int).toNat) (fun i σ H' => ∃ y2 y3 y4 y5 y6 y7 y8 y9 y10, σ = [some (.ref a), some (.ref d), y2, y3, y4, y5, y6, y7, y8, y9, y10] ∧ DeckC H' d l (2500 * i) ∧ Tabs H' T.tabs) ⟨_, _, _, _, _, _, _, _, _, rfl, D1.mono (by omega), t1⟩ ?_ ?_
    rotate_left
    · rintro σ H2 ⟨y2, y3, y4, y5, y6, y7, y8, y9, y10, rfl, D2, t2⟩
      refine ⟨sl2, fun p1 np1 => ?_⟩
      have s3 := same_upd (o := (HO.tup [V.str (Str.ofString "in"), V.int 0])) np1
      have h3 : upd H2 p1 (HO.tup [V.str (Str.ofString "in"), V.int 0]) p1 = some (HO.tup [V.str (Str.ofString "in"), V.int 0]) := upd_same
      generalize upd H2 p1 (HO.tup [V.str (Str.ofString "in"), V.int 0]) = H3 at s3 h3 ⊢
      refine ⟨sl1, fun p2 np2 => ?_⟩
      have s4 := same_upd (o := (HO.tup [V.int 5])) np2
      have h4 : upd H3 p2 (HO.tup [V.int 5]) p2 = some (HO.tup [V.int 5]) := upd_same
      generalize upd H3 p2 (HO.tup [V.int 5]) = H4 at s4 h4 ⊢
      refine ⟨sl1, fun p3 np3 => ?_⟩
      have s5 := same_upd (o := (HO.tup [V.int 1])) np3
      have h5 : upd H4 p3 (HO.tup [V.int 1]) p3 = some (HO.tup [V.int 1]) := upd_same
      generalize upd H4 p3 (HO.tup [V.int 1]) = H5 at s5 h5 ⊢
      refine ⟨sl1, fun p4 np4 => ?_⟩
      have s6 := same_upd (o := (HO.tup [V.int 0])) np4
      have h6 : upd H5 p4 (HO.tup [V.int 0]) p4 = some (HO.tup [V.int 0]) := upd_same
      generalize upd H5 p4 (HO.tup [V.int 0]) = H6 at s6 h6 ⊢
      refine ⟨sl2, fun p5 np5 => ?_⟩
      have s7 := same_upd (o := (HO.tup [V.ref p3, V.ref p4])) np5
      have h7 : upd H6 p5 (HO.tup [V.ref p3, V.ref p4]) p5 = some (HO.tup [V.ref p3, V.ref p4]) := upd_same
      generalize upd H6 p5 (HO.tup [V.ref p3, V.ref p4]) = H7 at s7 h7 ⊢
      have s67 := s6.trans s7
      have s47 := s5.trans s67
      have s27 := s3.trans (s4.trans s47)
      have tf7 : Tk H7 (.ref p1) (Fm.inp 0).d := .tup ((s4.trans s47) _ _ h3) (.cons (.str _) (.cons (.int _) .nil))
      have tc7 : Tk H7 (.ref p5) (chD [1] [0]) := .tup h7 (.cons (.tup (s67 _ _ h5) (.cons (.int _) .nil)) (.cons (.tup (s7 _ _ h6) (.cons (.int _) .nil)) .nil))
      refine ⟨.ref p1, .ref p5, p2, .inp 0, 1, [1], [0], [5], rfl, tf7, by decide, by decide, s47 _ _ h4, by decide, by decide, (fun x hx => by rw [List.mem_singleton.mp hx]; decide), by decide, tc7, rfl, rfl, (fun x hx => by rw [List.mem_singleton.mp hx]; exact .inr rfl), (fun x hx => by rw [List.mem_singleton.mp hx]; exact .inl rfl), (Gr.of s27).2 _ (t2 _ tl), fun r H8 x g8 t8 W8 => ?_⟩
      have W0 : Wv (1, [5]) (fun t => (Fm.inp 0).vt [1] [0] t [5]) := ((in_wv (x := 1) (y := 0) (.inr rfl) (.inl rfl)).shift (d := 5) (by decide)).ext fun t => by
        show (if 0 ≤ t - 5 then (0 : Int) else 1) = (if (5 : Int) ≤ t then 0 else 1)
        by_cases z : (5 : Int) ≤ t
        · rw [if_pos z, if_pos (by omega)]
        · rw [if_neg z, if_neg (by omega)]
      have ex := W8.uniq W0
      subst ex
      refine ⟨sl1, fun p6 np6 => ?_⟩
      have s9 := same_upd (o := (HO.tup [V.int 5])) np6
      have h9 : upd H8 p6 (HO.tup [V.int 5]) p6 = some (HO.tup [V.int 5]) := upd_same
      generalize upd H8 p6 (HO.tup [V.int 5]) = H9 at s9 h9 ⊢
      refine ⟨sl2, fun p7 np7 => ?_⟩
      have sA := same_upd (o := (HO.tup [V.int 1, V.ref p6])) np7
      have hA : upd H9 p7 (HO.tup [V.int 1, V.ref p6]) p7 = some (HO.tup [V.int 1, V.ref p6]) := upd_same
      generalize upd H9 p7 (HO.tup [V.int 1, V.ref p6]) = HA at sA hA ⊢
      have tA : Tk HA (.ref p7) (wvD (1, [5])) := .tup hA (.cons (.int _) (.cons (.tup (sA _ _ h9) (.cons (.int _) .nil)) .nil))
      refine ⟨wvD (1, [5]), wvD (1, [5]), ((t8.same s9).same sA).dp', tA.dp', rfl, rfl, ?_⟩
      exact q HA
    rintro i σ H2 hi ⟨y2, y3, y4, y5, y6, y7, y8, y9, y10, rfl, D2, t2⟩
    have i6 : (i : Int) ≤ 5 := by have : i < 6 := hi; omega
    refine ⟨.ref d, rfl, d, l, 6, _, rfl, D2, by omega, by decide, by decide, fun H3 mx D3 fr3 m0 m1 => ⟨_, _, rfl, rfl, ?_⟩⟩
    have t3 := t2.frC D2 fr3
    obtain ⟨mx, rfl⟩ := Int.eq_ofNat_of_zero_le m0
    obtain ⟨m, hm, m1', m6⟩ : ∃ m : Nat, (1 + ((mx : Nat) : Int)) = ((m : Nat) : Int) ∧ 1 ≤ m ∧ m ≤ 6 := ⟨1 + mx, by omega, by omega, by omega⟩
    show gName 3 (V.int (1 + ((mx : Nat) : Int))) _ _ _
    rw [hm]
    refine ⟨.ref d, rfl, .int (m : Nat), rfl, d, l, _, m, rfl, D3, by omega, m1', m6, fun v H4 D4 fr4 fm => ?_⟩
    have t4 := t3.frC D3 fr4
    obtain ⟨f, tf, okf, cf, df⟩ := fm
    refine ⟨3, rfl, by decide, by decide, fun C nC => ?_⟩
    have oC := D4.off nC
    refine lc_range (lo := 0) (n := (3 : Int).toNat) (fun j H' => DeckC H' d l (2500 * i + 1601 + 14 * (j : Nat)) ∧ Fr d l H4 H' ∧ ∃ vs, ∃ cs : ChL, H' C = some (.lst vs) ∧ TkAll H' vs (cs.map chF) ∧ cs.length = j ∧ ∀ p ∈ cs, ChOk m p)
      ⟨(D4.same (same_upd nC)).mono (by omega), Fr.new nC, [], [], upd_same, .nil, rfl, fun p hp => by cases hp⟩ ?_ ?_
    · rintro j H5 hj ⟨D5, fr5, vs, cs, hC, tcs, lc, okc⟩
      have hj : j < 3 := hj
      refine ⟨rfl, .ref d, rfl, .int (m : Nat), rfl, d, l, _, m, rfl, D5, by omega, m1', m6, fun r H6 x y D6 fr6 tc lx ly x01 y01 => ?_⟩
      have hC6 := fr6 _ _ oC.1 oC.2 hC
      refine ⟨vs, hC6, ?_, (D6.upd oC.1 oC.2).mono (by push_cast; omega), Fr.upd (fr5.trans fr6) nC, vs ++ [.ref r], cs ++ [(x, y)], upd_same, ?_, by rw [List.length_append, lc]; rfl, fun p hp => ?_⟩
      · rw [tcs.length, List.length_map, lc]
        exact Nat.lt_of_lt_of_le (show j < 64 by omega) (by decide)
      · rw [List.map_append]
        exact ((tcs.ts (Ts.frC D5 fr6) (noLs_map noL_chF _)).ts (Ts.set hC6) (noLs_map noL_chF _)).append (.cons (tc.ts (Ts.set hC6) (noL_ch _ _)) .nil)
      · rcases List.mem_append.mp hp with z | z
        · exact okc p z
        · rw [List.mem_singleton.mp z]; exact ⟨lx, ly, x01, y01⟩
    rintro H5 ⟨D5, fr5, vs, cs, hC, tcs, lc, okc⟩
    have lc : cs.length = 3 := lc
    have D5 : DeckC H5 d l (2500 * i + 1650) := D5.mono (by have : (3 : Int).toNat = 3 := rfl; omega)
    have t5 := t4.frC D4 fr5
    have tf5 := tf.ts (Ts.frC D4 fr5) (Fm.noL f)
    have lvs : vs.length = 3 := by rw [tcs.length, List.length_map, lc]
    refine ⟨3, rfl, by decide, by decide, ?_⟩
    refine for_range (lo := 0) (n := (3 : Int).toNat) (fun j σ H' => ∃ y6 y7 y8 y9 y10, σ = [some (.ref a), some (.ref d), some (.int (0 + (i : Nat))), some (.int (m : Nat)), some v, some (.ref C), y6, y7, y8, y9, y10] ∧ DeckC H' d l (2500 * i + 1650 + 123 * (j : Nat)) ∧ Tabs H' T.tabs ∧ Tk H' v f.d ∧ H' C = some (.lst vs) ∧ TkAll H' vs (cs.map chF))
      ⟨_, _, _, _, _, rfl, D5.mono (by omega), t5, tf5, hC, tcs⟩ ?_ ?_
    · rintro j σ H6 hj ⟨y6, y7, y8, y9, y10, rfl, D6, t6, tf6, hC6, tcs6⟩
      have hj : j < 3 := hj
      refine ⟨.ref d, rfl, v, rfl, v, f, m, rfl, tf6, okf, by omega, fun H7 s7 => ?_⟩
      have D7 := D6.same s7
      have ins40 := Fm.ins_cnt f
      refine ⟨d, l, _, f.ins, rfl, D7, by omega, by omega, fun dp H8 ds D8 fr8 hdp lds bds => ?_⟩
      have ts68 : Ts H6 H8 := (Ts.same s7).trans (Ts.frC D7 fr8)
      have tf8 := tf6.ts ts68 (Fm.noL f)
      have tcs8 := tcs6.ts ts68 (noLs_map noL_chF _)
      have hC8 := fr8 _ _ oC.1 oC.2 (s7 _ _ hC6)
      have t8 : Tabs H8 T.tabs := (show Tabs H7 T.tabs from fun P hP => (Gr.of s7).2 _ (t6 P hP)).frC D7 fr8
      have cut2 : cutV vs none (some 2) = vs.take 2 := cut_to (k := 2)
      refine ⟨.ref C, rfl, 2, rfl, C, vs, rfl, SqL.of hC8, fun sp nsp => ?_⟩
      rw [cut2]
      have s9 := same_upd (o := (HO.lst (vs.take 2))) nsp
      have h9 : upd H8 sp (HO.lst (vs.take 2)) sp = some (HO.lst (vs.take 2)) := upd_same
      generalize upd H8 sp (HO.lst (vs.take 2)) = H9 at s9 h9 ⊢
      refine ⟨sp, rfl, ⟨_, SqL.of h9⟩, fun E0 nE0 => ?_⟩
      have atc : ∀ {H' : Hp} {k : Nat} {u : V}, TkAll H' vs (cs.map chF) → vs[k]? = some u → ∃ p, cs[k]? = some p ∧ Tk H' u (chD p.1 p.2) ∧ ChOk m p := fun tt hu => by
        obtain ⟨p, hp, tp⟩ := tt.at hu
        exact ⟨p, hp, tp, okc p (List.mem_of_getElem? hp)⟩
      refine lc_list (K := K) (a := sp) (xs := vs.take 2) (fun k H' => Same H9 (hd1 E0 H') ∧ ∃ us, ∃ ws : List (Int × List Int), H' E0 = some (.lst us) ∧ TkAll H' us (ws.map wvD) ∧ ws.length = k ∧ ∀ (z : Nat) x p, ws[z]? = some x → cs[z]? = some p → Wv x (fun t => f.vt p.1 p.2 t ds))
        ⟨hd1_of (same_upd nE0) nE0, [], [], upd_same, .nil, rfl, fun z x p h => by cases h⟩ (fun k H' _ hP => SqL.of (hd1_le _ _ (hP.1 _ _ h9))) ?_ ?_
      · rintro k u HA hu ⟨sA, us, ws, hE, tws, lw, okw⟩
        have k2 : k < 2 := by
          have := (List.getElem?_eq_some_iff.mp hu).1
          rw [List.length_take] at this
          omega
        rw [List.getElem?_take_of_lt k2] at hu
        have s9A : Same H9 HA := fun b o z => hd1_le _ _ (sA b o z)
        have s8A := s9.trans s9A
        obtain ⟨p, hp, tp, o1, o2, o3, o4⟩ := atc (tcs8.same s8A) hu
        refine ⟨rfl, v, rfl, u, rfl, .ref dp, rfl, v, u, dp, f, m, p.1, p.2, ds, rfl, tf8.same s8A, okf, by omega, tp, o1, o2, o3, o4, s8A _ _ hdp, by omega, by omega, fun x hx => (bds x hx).1, fun r HB x sB tB WB => ?_⟩
        have hEB := sB _ _ hE
        refine ⟨us, hEB, ?_, (sA.trans (hd1_same sB)).trans hd1_upd, us ++ [.ref r], ws ++ [x], upd_same, ?_, by rw [List.length_append, lw]; rfl, fun z y p' hy hp' => ?_⟩
        · rw [tws.length, List.length_map, lw]
          exact Nat.lt_of_lt_of_le (show k < 64 by omega) (by decide)
        · rw [List.map_append]
          exact ((tws.same sB).ts (Ts.set hEB) (noLs_map noL_wv _)).append (.cons (tB.ts (Ts.set hEB) (noL_wv _)) .nil)
        · by_cases zz : z < ws.length
          · rw [List.getElem?_append_left zz] at hy
            exact okw z y p' hy hp'
          · rw [List.getElem?_append_right (by omega)] at hy
            have ez : z = ws.length := by
              have := (List.getElem?_eq_some_iff.mp hy).1
              simp at this
              omega
            subst ez
            rw [Nat.sub_self] at hy
            cases Option.some.inj hy
            rw [lw, hp] at hp'
            cases Option.some.inj hp'
            exact WB
      rintro HA ⟨sA, us, ws, hE, tws, lw, okw⟩
      rw [List.length_take, lvs] at lw
      have lw : ws.length = 2 := lw
      have s9A : Same H9 HA := fun b o z => hd1_le _ _ (sA b o z)
      have s8A := s9.trans s9A
      refine ⟨sl3, fun tt ntt => ?_⟩
      have sB := same_upd (o := (HO.tup [V.int 0, V.int 1, V.int 0])) ntt
      have hB : upd HA tt (HO.tup [V.int 0, V.int 1, V.int 0]) tt = some (HO.tup [V.int 0, V.int 1, V.int 0]) := upd_same
      generalize upd HA tt (HO.tup [V.int 0, V.int 1, V.int 0]) = HB at sB hB ⊢
      have s8B := s8A.trans sB
      have g8B : Gr H8 HB := Gr.of s8B
      refine ⟨tt, rfl, ⟨_, SqT.of hB⟩, for_tup (K := K) (a := tt) (xs := [V.int 0, V.int 1, V.int 0]) (fun z σ H' => ∃ y9 y10, σ = [some (.ref a), some (.ref d), some (.int (0 + (i : Nat))), some (.int (m : Nat)), some v, some (.ref C), some (.int (0 + (j : Nat))), some (.ref dp), some (.ref E0), y9, y10] ∧ Gr HB H') ⟨_, _, rfl, Gr.refl⟩ (fun z σ H' _ ⟨_, _, _, g⟩ => SqT.of (g.tup hB)) ?_ ?_⟩
      · rintro z kv σ HD hkv ⟨y9, y10, rfl, gD⟩
        obtain ⟨k, k2, rfl⟩ : ∃ k : Nat, k < 2 ∧ kv = V.int (k : Nat) := by
          match z, hkv with
          | 0, h => exact ⟨0, by decide, (Option.some.inj h).symm⟩
          | 1, h => exact ⟨1, by decide, (Option.some.inj h).symm⟩
          | 2, h => exact ⟨0, by decide, (Option.some.inj h).symm⟩
          | z + 3, h => cases h
        have g8D := g8B.trans gD
        have tcD := tcs8.gr g8D
        obtain ⟨u, hu⟩ : ∃ u, vs[k]? = some u := ⟨_, List.getElem?_eq_getElem (by omega)⟩
        obtain ⟨p, hp, tp, o1, o2, o3, o4⟩ := atc tcD hu
        obtain ⟨x, hx⟩ : ∃ x, ws[k]? = some x := ⟨_, List.getElem?_eq_getElem (by omega)⟩
        have Wx := okw k x p hx hp
        refine ⟨v, rfl, .ref dp, rfl, .ref C, rfl, .int (k : Nat), rfl, C, vs, (k : Nat), u, rfl, rfl, SqL.of (g8D.lst hC8), atI_nat hu, ?_⟩
        refine ⟨v, u, dp, f, m, p.1, p.2, ds, rfl, tf8.gr g8D, okf, by omega, g8D.tup hdp, by omega, by omega, (fun x hx => (bds x hx).1), by omega, tp, o1, o2, o3, o4, g8D.2 _ (t8 _ tl), fun r HE' x' gE tE WE => ?_⟩
        have ex := WE.uniq Wx
        subst ex
        obtain ⟨f1, f2, f3⟩ := wave_fit (by omega) cf WE bds
        have gBE := gD.trans gE
        have twsE := (tws.same sB).gr gBE
        obtain ⟨w', hw', tw'⟩ := twsE.at' hx
        refine ⟨.ref r, wvD x', rfl, tE.sh (noL_wv x'), f1, f2, f3, .ref E0, rfl, .int (k : Nat), rfl, E0, us, (k : Nat), w', rfl, rfl, SqL.of (gBE.lst (sB _ _ hE)), atI_nat hw', w', wvD x', rfl, tw'.sh (noL_wv x'), f1, f2, f3, rfl, _, rfl, ?_⟩
        rw [decide_eq_true rfl]
        exact iteF ⟨_, _, rfl, gBE⟩
      · rintro σ HD ⟨y9, y10, rfl, gD⟩
        have g8D := g8B.trans gD
        exact ⟨_, _, _, _, _, rfl, (D8.gr g8D).mono (by push_cast; omega), (fun P hP => g8D.2 _ (t8 P hP)), tf8.gr g8D, g8D.lst hC8, tcs8.gr g8D⟩
    · rintro σ H6 ⟨y6, y7, y8, y9, y10, rfl, D6, t6, tf6, hC6, tcs6⟩
      have cut1 : cutV vs none (some 1) = vs.take 1 := cut_to (k := 1)
      refine ⟨.ref C, rfl, .ref C, rfl, 1, rfl, C, vs, rfl, SqL.of hC6, fun sp nsp => ?_⟩
      rw [cut1]
      have s7 := same_upd (o := (HO.lst (vs.take 1))) nsp
      have h7 : upd H6 sp (HO.lst (vs.take 1)) sp = some (HO.lst (vs.take 1)) := upd_same
      generalize upd H6 sp (HO.lst (vs.take 1)) = H7 at s7 h7 ⊢
      refine ⟨C, sp, vs, vs.take 1, rfl, rfl, s7 _ _ hC6, h7, by rw [List.length_take, lvs]; decide, fun cp ncp => ?_⟩
      have s8 := same_upd (o := (HO.lst (vs ++ vs.take 1))) ncp
      have h8 : upd H7 cp (HO.lst (vs ++ vs.take 1)) cp = some (HO.lst (vs ++ vs.take 1)) := upd_same
      generalize upd H7 cp (HO.lst (vs ++ vs.take 1)) = H8 at s8 h8 ⊢
      have g68 := Gr.of (s7.trans s8)
      have t8 : Tabs H8 T.tabs := fun P hP => g68.2 _ (t6 P hP)
      refine ⟨cp, rfl, ⟨_, SqL.of h8⟩, for_list (K := K) (a := cp) (xs := vs ++ vs.take 1) (fun z σ H' => ∃ y6 y7 y8 y9 y10, σ = [some (.ref a), some (.ref d), some (.int (0 + (i : Nat))), some (.int (m : Nat)), some v, some (.ref C), y6, y7, y8, y9, y10] ∧ Gr H8 H') ⟨_, _, _, _, _, rfl, Gr.refl⟩ (fun z σ H' _ ⟨_, _, _, _, _, _, g⟩ => SqL.of (g.lst h8)) ?_ ?_⟩
      · rintro z u σ H9 hu ⟨y6, y7, y8, y9, y10, rfl, g9⟩
        have g69 := g68.trans g9
        have uv : u ∈ vs := (List.mem_append.mp (List.mem_of_getElem? hu)).elim id List.mem_of_mem_take
        obtain ⟨k, hk⟩ := List.getElem?_of_mem uv
        obtain ⟨p, hp, tp⟩ := (tcs6.gr g69).at hk
        obtain ⟨o1, o2, o3, o4⟩ := okc p (List.mem_of_getElem? hp)
        refine ⟨v, rfl, u, rfl, v, u, f, m, p.1, p.2, rfl, tf6.gr g69, okf, by omega, by omega, tp, o1, o2, o3, o4, (fun P hP => g69.2 _ (t6 P hP)), fun HA gA => ⟨true, rfl, iteF ?_⟩⟩
        exact ⟨_, _, _, _, _, rfl, g9.trans gA⟩
      · rintro σ H9 ⟨y6, y7, y8, y9, y10, rfl, g9⟩
        have g69 := g68.trans g9
        exact ⟨_, _, _, _, _, _, _, _, _, rfl, (D6.gr g69).mono (by have : (3 : Int).toNat = 3 := rfl; push_cast; omega), fun P hP => g69.2 _ (t6 P hP)⟩

end
def d_inner_of : He.DefD := ⟨("inner_of", none), "inner_of", "inner_of", defArgs s_inner_of, defBody s_inner_of, defScope s_inner_of, [], []⟩
def d_still_worth : He.DefD := ⟨("still_worth", none), "still_worth", "still_worth", defArgs s_still_worth, defBody s_still_worth, defScope s_still_worth, [], []⟩
def d_choices_of : He.DefD := ⟨("choices_of", none), "choices_of", "choices_of", defArgs s_choices_of, defBody s_choices_of, defScope s_choices_of, [], []⟩
def d_table_worth : He.DefD := ⟨("table_worth", none), "table_worth", "table_worth", defArgs s_table_worth, defBody s_table_worth, defScope s_table_worth, [], []⟩
def d_pairs_of : He.DefD := ⟨("pairs_of", none), "pairs_of", "pairs_of", defArgs s_pairs_of, defBody s_pairs_of, defScope s_pairs_of, [], []⟩
def d_pair_by : He.DefD := ⟨("pair_by", none), "pair_by", "pair_by", defArgs s_pair_by, defBody s_pair_by, defScope s_pair_by, [], []⟩
def d_pairs_for : He.DefD := ⟨("pairs_for", none), "pairs_for", "pairs_for", defArgs s_pairs_for, defBody s_pairs_for, defScope s_pairs_for, [], []⟩
def d_input_wave : He.DefD := ⟨("input_wave", none), "input_wave", "input_wave", defArgs s_input_wave, defBody s_input_wave, defScope s_input_wave, [], []⟩
def d_later : He.DefD := ⟨("later", none), "later", "later", defArgs s_later, defBody s_later, defScope s_later, [], []⟩
def d_gate_wave : He.DefD := ⟨("gate_wave", none), "gate_wave", "gate_wave", defArgs s_gate_wave, defBody s_gate_wave, defScope s_gate_wave, [], []⟩
def d_turns_of : He.DefD := ⟨("turns_of", none), "turns_of", "turns_of", defArgs s_turns_of, defBody s_turns_of, defScope s_turns_of, [], []⟩
def d_input_delay : He.DefD := ⟨("input_delay", none), "input_delay", "input_delay", defArgs s_input_delay, defBody s_input_delay, defScope s_input_delay, [], []⟩
def d_form_word : He.DefD := ⟨("form_word", none), "form_word", "form_word", defArgs s_form_word, defBody s_form_word, defScope s_form_word, [], []⟩
def d_most_of : He.DefD := ⟨("most_of", none), "most_of", "most_of", defArgs s_most_of, defBody s_most_of, defScope s_most_of, [], []⟩
def d_about : He.DefD := ⟨("about", none), "about", "about", defArgs s_about, defBody s_about, defScope s_about, [], []⟩
def d_most_of_and : He.DefD := ⟨("most_of_and", none), "most_of_and", "most_of_and", defArgs s_most_of_and, defBody s_most_of_and, defScope s_most_of_and, [], []⟩
def d_form_wave : He.DefD := ⟨("form_wave", none), "form_wave", "form_wave", defArgs s_form_wave, defBody s_form_wave, defScope s_form_wave, [], []⟩
def d_wave_from : He.DefD := ⟨("wave_from", none), "wave_from", "wave_from", defArgs s_wave_from, defBody s_wave_from, defScope s_wave_from, [], []⟩
def d_form_table : He.DefD := ⟨("form_table", none), "form_table", "form_table", defArgs s_form_table, defBody s_form_table, defScope s_form_table, [], []⟩
def d_form_shown : He.DefD := ⟨("form_shown", none), "form_shown", "form_shown", defArgs s_form_shown, defBody s_form_shown, defScope s_form_shown, [], []⟩
def d_lates_by : He.DefD := ⟨("lates_by", none), "lates_by", "lates_by", defArgs s_lates_by, defBody s_lates_by, defScope s_lates_by, [], []⟩
def d_deck : He.DefD := ⟨("_law_deck", none), "_law_deck", "_law_deck", defArgs s_deck, defBody s_deck, defScope s_deck, [], []⟩
def d_mixed : He.DefD := ⟨("_law_mixed", none), "_law_mixed", "_law_mixed", defArgs s_mixed, defBody s_mixed, defScope s_mixed, [], []⟩
def d_take : He.DefD := ⟨("_law_take", none), "_law_take", "_law_take", defArgs s_take, defBody s_take, defScope s_take, [], []⟩
def d_form : He.DefD := ⟨("_law_form", none), "_law_form", "_law_form", defArgs s_form, defBody s_form, defScope s_form, [], []⟩
def d_inner : He.DefD := ⟨("_law_inner", none), "_law_inner", "_law_inner", defArgs s_inner, defBody s_inner, defScope s_inner, [], []⟩
def d_count : He.DefD := ⟨("_law_count", none), "_law_count", "_law_count", defArgs s_count, defBody s_count, defScope s_count, [], []⟩
def d_some_form : He.DefD := ⟨("_law_some_form", none), "_law_some_form", "_law_some_form", defArgs s_some_form, defBody s_some_form, defScope s_some_form, [], []⟩
def d_tower : He.DefD := ⟨("_law_tower", none), "_law_tower", "_law_tower", defArgs s_tower, defBody s_tower, defScope s_tower, [], []⟩
def d_worth : He.DefD := ⟨("_law_worth", none), "_law_worth", "_law_worth", defArgs s_worth, defBody s_worth, defScope s_worth, [], []⟩
def d_pairs : He.DefD := ⟨("_law_pairs", none), "_law_pairs", "_law_pairs", defArgs s_pairs, defBody s_pairs, defScope s_pairs, [], []⟩
def d_word : He.DefD := ⟨("_law_word", none), "_law_word", "_law_word", defArgs s_word, defBody s_word, defScope s_word, [], []⟩
def d_leaves : He.DefD := ⟨("_law_leaves", none), "_law_leaves", "_law_leaves", defArgs s_leaves, defBody s_leaves, defScope s_leaves, [], []⟩
def d_change : He.DefD := ⟨("_law_change", none), "_law_change", "_law_change", defArgs s_change, defBody s_change, defScope s_change, [], []⟩
def d_read_at : He.DefD := ⟨("_law_read_at", none), "_law_read_at", "_law_read_at", defArgs s_read_at, defBody s_read_at, defScope s_read_at, [], []⟩
def d_wave : He.DefD := ⟨("_law_wave", none), "_law_wave", "_law_wave", defArgs s_wave, defBody s_wave, defScope s_wave, [], []⟩
def d_far : He.DefD := ⟨("_law_far", none), "_law_far", "_law_far", defArgs s_far, defBody s_far, defScope s_far, [], []⟩
def d_delays : He.DefD := ⟨("_law_delays", none), "_law_delays", "_law_delays", defArgs s_delays, defBody s_delays, defScope s_delays, [], []⟩
def d_shown_right : He.DefD := ⟨("_law_shown_right", none), "_law_shown_right", "_law_shown_right", defArgs s_shown_right, defBody s_shown_right, defScope s_shown_right, [], []⟩
def d_law : He.DefD := ⟨("law", none), "law", "law", defArgs s_law, defBody s_law, defScope s_law, [], []⟩
def fn : List He.DefD := [d_inner_of, d_still_worth, d_choices_of, d_table_worth, d_pairs_of, d_pair_by, d_pairs_for, d_input_wave, d_later, d_gate_wave, d_turns_of, d_input_delay, d_form_word, d_most_of, d_about, d_most_of_and, d_form_wave, d_wave_from, d_form_table, d_form_shown, d_lates_by, d_deck, d_mixed, d_take, d_form, d_inner, d_count, d_some_form, d_tower, d_worth, d_pairs, d_word, d_leaves, d_change, d_read_at, d_wave, d_far, d_delays, d_shown_right, d_law]
def fa : List He.Fa := [.glo "inner_of", .glo "still_worth", .glo "choices_of", .glo "table_worth", .glo "pairs_of", .glo "pair_by", .glo "pairs_for", .glo "input_wave", .glo "later", .glo "gate_wave", .glo "turns_of", .glo "input_delay", .glo "form_word", .glo "most_of", .glo "about", .glo "most_of_and", .glo "form_wave", .glo "wave_from", .glo "form_table", .glo "form_shown", .glo "lates_by", .glo "_law_deck", .glo "_law_mixed", .glo "_law_take", .glo "_law_form", .glo "_law_inner", .glo "_law_count", .glo "_law_some_form", .glo "_law_tower", .glo "_law_worth", .glo "_law_pairs", .glo "_law_word", .glo "_law_leaves", .glo "_law_change", .glo "_law_read_at", .glo "_law_wave", .glo "_law_far", .glo "_law_delays", .glo "_law_shown_right", .glo "law", .free "bool", .free "enumerate", .free "int", .free "isinstance", .free "len", .free "list", .free "max", .free "min", .free "range", .free "repr", .free "reversed", .free "set", .free "sorted", .free "sum", .free "tuple", .free "zip", .glo "STILL"]
def tf : List He.Defn := [("later", none), ("input_delay", none), ("most_of_and", none)]
abbrev RR : PySem.W.OpenRow := PySem.W.OpenLaw.row PySem.Challenge.rw_glitchnet_k57_waves_of_forms
def yes : PySem.W.Frag → Bool := fun K => (KdS.kdB K "STILL" [(("one" : PySem.Str), KdS.Kv.i 1), (("nought" : PySem.Str), KdS.Kv.i 0)] && true)
def ts : List He.Tab := [(fun K => He.ga K "STILL", [("one" : PySem.Str), ("nought" : PySem.Str)])]
abbrev hk : PySem.W.Hook := He.hookX 4 fa fn ts tf yes
def ob (s : PySem.W.SharedT) : He.AlX := He.obsX 4 fa fn ts tf yes (HandSHeadRun.getT s)
theorem ob_eq (s : PySem.W.SharedT) : ob s = hk.obs s.abs := He.obsX_eq (HandSHeadRun.getT_eq s)
theorem run_false (w : World) : HandSHeadRun.RunEq RR (PySem.W.view RR.prog [47]) hk ob 3000 [("STILL" : PySem.Str), ("inner_of" : PySem.Str), ("still_worth" : PySem.Str), ("choices_of" : PySem.Str), ("table_worth" : PySem.Str), ("pairs_of" : PySem.Str), ("pair_by" : PySem.Str), ("pairs_for" : PySem.Str), ("input_wave" : PySem.Str), ("later" : PySem.Str), ("gate_wave" : PySem.Str), ("turns_of" : PySem.Str), ("input_delay" : PySem.Str), ("form_word" : PySem.Str), ("most_of" : PySem.Str), ("about" : PySem.Str), ("most_of_and" : PySem.Str), ("form_wave" : PySem.Str), ("wave_from" : PySem.Str), ("form_table" : PySem.Str), ("form_shown" : PySem.Str), ("lates_by" : PySem.Str), ("_law_deck" : PySem.Str), ("_law_mixed" : PySem.Str), ("_law_take" : PySem.Str), ("_law_form" : PySem.Str), ("_law_inner" : PySem.Str), ("_law_count" : PySem.Str), ("_law_some_form" : PySem.Str), ("_law_tower" : PySem.Str), ("_law_worth" : PySem.Str), ("_law_pairs" : PySem.Str), ("_law_word" : PySem.Str), ("_law_leaves" : PySem.Str), ("_law_change" : PySem.Str), ("_law_read_at" : PySem.Str), ("_law_wave" : PySem.Str), ("_law_far" : PySem.Str), ("_law_delays" : PySem.Str), ("_law_shown_right" : PySem.Str)] (w.withFollow "special-get-raises" false) := by
  intro os
  kernel_rfl
theorem run_true (w : World) : HandSHeadRun.RunEq RR (PySem.W.view RR.prog [47]) hk ob 3000 [("STILL" : PySem.Str), ("inner_of" : PySem.Str), ("still_worth" : PySem.Str), ("choices_of" : PySem.Str), ("table_worth" : PySem.Str), ("pairs_of" : PySem.Str), ("pair_by" : PySem.Str), ("pairs_for" : PySem.Str), ("input_wave" : PySem.Str), ("later" : PySem.Str), ("gate_wave" : PySem.Str), ("turns_of" : PySem.Str), ("input_delay" : PySem.Str), ("form_word" : PySem.Str), ("most_of" : PySem.Str), ("about" : PySem.Str), ("most_of_and" : PySem.Str), ("form_wave" : PySem.Str), ("wave_from" : PySem.Str), ("form_table" : PySem.Str), ("form_shown" : PySem.Str), ("lates_by" : PySem.Str), ("_law_deck" : PySem.Str), ("_law_mixed" : PySem.Str), ("_law_take" : PySem.Str), ("_law_form" : PySem.Str), ("_law_inner" : PySem.Str), ("_law_count" : PySem.Str), ("_law_some_form" : PySem.Str), ("_law_tower" : PySem.Str), ("_law_worth" : PySem.Str), ("_law_pairs" : PySem.Str), ("_law_word" : PySem.Str), ("_law_leaves" : PySem.Str), ("_law_change" : PySem.Str), ("_law_read_at" : PySem.Str), ("_law_wave" : PySem.Str), ("_law_far" : PySem.Str), ("_law_delays" : PySem.Str), ("_law_shown_right" : PySem.Str)] (w.withFollow "special-get-raises" true) := by
  intro os
  kernel_rfl
theorem run (w : World) : HandSHeadRun.RunEq RR (PySem.W.view RR.prog [47]) hk ob 3000 [("STILL" : PySem.Str), ("inner_of" : PySem.Str), ("still_worth" : PySem.Str), ("choices_of" : PySem.Str), ("table_worth" : PySem.Str), ("pairs_of" : PySem.Str), ("pair_by" : PySem.Str), ("pairs_for" : PySem.Str), ("input_wave" : PySem.Str), ("later" : PySem.Str), ("gate_wave" : PySem.Str), ("turns_of" : PySem.Str), ("input_delay" : PySem.Str), ("form_word" : PySem.Str), ("most_of" : PySem.Str), ("about" : PySem.Str), ("most_of_and" : PySem.Str), ("form_wave" : PySem.Str), ("wave_from" : PySem.Str), ("form_table" : PySem.Str), ("form_shown" : PySem.Str), ("lates_by" : PySem.Str), ("_law_deck" : PySem.Str), ("_law_mixed" : PySem.Str), ("_law_take" : PySem.Str), ("_law_form" : PySem.Str), ("_law_inner" : PySem.Str), ("_law_count" : PySem.Str), ("_law_some_form" : PySem.Str), ("_law_tower" : PySem.Str), ("_law_worth" : PySem.Str), ("_law_pairs" : PySem.Str), ("_law_word" : PySem.Str), ("_law_leaves" : PySem.Str), ("_law_change" : PySem.Str), ("_law_read_at" : PySem.Str), ("_law_wave" : PySem.Str), ("_law_far" : PySem.Str), ("_law_delays" : PySem.Str), ("_law_shown_right" : PySem.Str)] w := by
  have e := World.withFollow_self w "special-get-raises"
  cases hb : w.params.followText "special-get-raises" <;> rw [hb] at e
  · rw [← e]
    exact run_false w
  · rw [← e]
    exact run_true w
theorem facts {w : World} {K : PySem.W.Frag} {h : Heap} {mg : Str → Option Value} {f : Addr} (X : K.In h) (G : h.Ns mainGlobals mg) (hfa : mg ("law" : Str) = some (.ref f)) (c : He.SaysX fa fn ts tf yes w h K) : LawAtG PySem.Challenge.rw_glitchnet_k57_waves_of_forms w K CX0 58 63 "_law_script" mg f h := by
  obtain ⟨fd0, D0⟩ := c.t.d.def_ 0 (d := d_inner_of) rfl
  have F0 : Fun K "inner_of" "inner_of" s_inner_of (He.fAd K ("inner_of", none)) fd0 := fun_of D0
  have b0 := F0.binds (ps := ["form"]) fun _ _ _ _ _ _ us hl => match us, hl with | [_], _ => rfl
  obtain ⟨fd1, D1⟩ := c.t.d.def_ 1 (d := d_still_worth) rfl
  have F1 : Fun K "still_worth" "still_worth" s_still_worth (He.fAd K ("still_worth", none)) fd1 := fun_of D1
  have b1 := F1.binds (ps := ["form"]) fun _ _ _ _ _ _ us hl => match us, hl with | [_], _ => rfl
  obtain ⟨fd2, D2⟩ := c.t.d.def_ 2 (d := d_choices_of) rfl
  have F2 : Fun K "choices_of" "choices_of" s_choices_of (He.fAd K ("choices_of", none)) fd2 := fun_of D2
  have b2 := F2.binds (ps := ["lists"]) fun _ _ _ _ _ _ us hl => match us, hl with | [_], _ => rfl
  obtain ⟨fd3, D3⟩ := c.t.d.def_ 3 (d := d_table_worth) rfl
  have F3 : Fun K "table_worth" "table_worth" s_table_worth (He.fAd K ("table_worth", none)) fd3 := fun_of D3
  have b3 := F3.binds (ps := ["table", "worths"]) fun _ _ _ _ _ _ us hl => match us, hl with | [_, _], _ => rfl
  obtain ⟨fd4, D4⟩ := c.t.d.def_ 4 (d := d_pairs_of) rfl
  have F4 : Fun K "pairs_of" "pairs_of" s_pairs_of (He.fAd K ("pairs_of", none)) fd4 := fun_of D4
  have b4 := F4.binds (ps := ["word"]) fun _ _ _ _ _ _ us hl => match us, hl with | [_], _ => rfl
  obtain ⟨fd5, D5⟩ := c.t.d.def_ 5 (d := d_pair_by) rfl
  have F5 : Fun K "pair_by" "pair_by" s_pair_by (He.fAd K ("pair_by", none)) fd5 := fun_of D5
  have b5 := F5.binds (ps := ["table", "pairs"]) fun _ _ _ _ _ _ us hl => match us, hl with | [_, _], _ => rfl
  obtain ⟨fd6, D6⟩ := c.t.d.def_ 6 (d := d_pairs_for) rfl
  have F6 : Fun K "pairs_for" "pairs_for" s_pairs_for (He.fAd K ("pairs_for", none)) fd6 := fun_of D6
  have b6 := F6.binds (ps := ["table", "options", "wanted"]) fun _ _ _ _ _ _ us hl => match us, hl with | [_, _, _], _ => rfl
  obtain ⟨fd7, D7⟩ := c.t.d.def_ 7 (d := d_input_wave) rfl
  have F7 : Fun K "input_wave" "input_wave" s_input_wave (He.fAd K ("input_wave", none)) fd7 := fun_of D7
  have b7 := F7.binds (ps := ["before", "after"]) fun _ _ _ _ _ _ us hl => match us, hl with | [_, _], _ => rfl
  obtain ⟨fd8, D8⟩ := c.t.d.def_ 8 (d := d_later) rfl
  have F8 : Fun K "later" "later" s_later (He.fAd K ("later", none)) fd8 := fun_of D8
  have b8 := F8.binds (ps := ["wave", "delay"]) fun _ _ _ _ _ _ us hl => match us, hl with | [_, _], _ => rfl
  obtain ⟨fd9, D9⟩ := c.t.d.def_ 9 (d := d_gate_wave) rfl
  have F9 : Fun K "gate_wave" "gate_wave" s_gate_wave (He.fAd K ("gate_wave", none)) fd9 := fun_of D9
  have b9 := F9.binds (ps := ["table", "waves"]) fun _ _ _ _ _ _ us hl => match us, hl with | [_, _], _ => rfl
  obtain ⟨fd10, D10⟩ := c.t.d.def_ 10 (d := d_turns_of) rfl
  have F10 : Fun K "turns_of" "turns_of" s_turns_of (He.fAd K ("turns_of", none)) fd10 := fun_of D10
  have b10 := F10.binds (ps := ["waves"]) fun _ _ _ _ _ _ us hl => match us, hl with | [_], _ => rfl
  obtain ⟨fd11, D11⟩ := c.t.d.def_ 11 (d := d_input_delay) rfl
  have F11 : Fun K "input_delay" "input_delay" s_input_delay (He.fAd K ("input_delay", none)) fd11 := fun_of D11
  have b11 := F11.binds (ps := ["word", "pair"]) fun _ _ _ _ _ _ us hl => match us, hl with | [_, _], _ => rfl
  obtain ⟨fd12, D12⟩ := c.t.d.def_ 12 (d := d_form_word) rfl
  have F12 : Fun K "form_word" "form_word" s_form_word (He.fAd K ("form_word", none)) fd12 := fun_of D12
  have b12 := F12.binds (ps := ["form", "change"]) fun _ _ _ _ _ _ us hl => match us, hl with | [_, _], _ => rfl
  obtain ⟨fd13, D13⟩ := c.t.d.def_ 13 (d := d_most_of) rfl
  have F13 : Fun K "most_of" "most_of" s_most_of (He.fAd K ("most_of", none)) fd13 := fun_of D13
  have b13 := F13.binds (ps := ["form", "change"]) fun _ _ _ _ _ _ us hl => match us, hl with | [_, _], _ => rfl
  obtain ⟨fd14, D14⟩ := c.t.d.def_ 14 (d := d_about) rfl
  have F14 : Fun K "about" "about" s_about (He.fAd K ("about", none)) fd14 := fun_of D14
  have b14 := F14.binds (ps := ["most"]) fun _ _ _ _ _ _ us hl => match us, hl with | [_], _ => rfl
  obtain ⟨fd15, D15⟩ := c.t.d.def_ 15 (d := d_most_of_and) rfl
  have F15 : Fun K "most_of_and" "most_of_and" s_most_of_and (He.fAd K ("most_of_and", none)) fd15 := fun_of D15
  have b15 := F15.binds (ps := ["parts"]) fun _ _ _ _ _ _ us hl => match us, hl with | [_], _ => rfl
  obtain ⟨fd16, D16⟩ := c.t.d.def_ 16 (d := d_form_wave) rfl
  have F16 : Fun K "form_wave" "form_wave" s_form_wave (He.fAd K ("form_wave", none)) fd16 := fun_of D16
  have b16 := F16.binds (ps := ["form", "delays", "change"]) fun _ _ _ _ _ _ us hl => match us, hl with | [_, _, _], _ => rfl
  obtain ⟨fd17, D17⟩ := c.t.d.def_ 17 (d := d_wave_from) rfl
  have F17 : Fun K "wave_from" "wave_from" s_wave_from (He.fAd K ("wave_from", none)) fd17 := fun_of D17
  have b17 := F17.binds (ps := ["form", "lates", "change"]) fun _ _ _ _ _ _ us hl => match us, hl with | [_, _, _], _ => rfl
  obtain ⟨fd18, D18⟩ := c.t.d.def_ 18 (d := d_form_table) rfl
  have F18 : Fun K "form_table" "form_table" s_form_table (He.fAd K ("form_table", none)) fd18 := fun_of D18
  have b18 := F18.binds (ps := ["form"]) fun _ _ _ _ _ _ us hl => match us, hl with | [_], _ => rfl
  obtain ⟨fd19, D19⟩ := c.t.d.def_ 19 (d := d_form_shown) rfl
  have F19 : Fun K "form_shown" "form_shown" s_form_shown (He.fAd K ("form_shown", none)) fd19 := fun_of D19
  have b19 := F19.binds (ps := ["form", "change"]) fun _ _ _ _ _ _ us hl => match us, hl with | [_, _], _ => rfl
  obtain ⟨fd20, D20⟩ := c.t.d.def_ 20 (d := d_lates_by) rfl
  have F20 : Fun K "lates_by" "lates_by" s_lates_by (He.fAd K ("lates_by", none)) fd20 := fun_of D20
  have b20 := F20.binds (ps := ["form", "change", "pair"]) fun _ _ _ _ _ _ us hl => match us, hl with | [_, _, _], _ => rfl
  obtain ⟨fd21, D21⟩ := c.t.d.def_ 21 (d := d_deck) rfl
  have F21 : Fun K "_law_deck" "_law_deck" s_deck (He.fAd K ("_law_deck", none)) fd21 := fun_of D21
  have b21 := F21.binds (ps := ["_law_script"]) fun _ _ _ _ _ _ us hl => match us, hl with | [_], _ => rfl
  obtain ⟨fd22, D22⟩ := c.t.d.def_ 22 (d := d_mixed) rfl
  have F22 : Fun K "_law_mixed" "_law_mixed" s_mixed (He.fAd K ("_law_mixed", none)) fd22 := fun_of D22
  have b22 := F22.binds (ps := ["_law_cell", "_law_k"]) fun _ _ _ _ _ _ us hl => match us, hl with | [_, _], _ => rfl
  obtain ⟨fd23, D23⟩ := c.t.d.def_ 23 (d := d_take) rfl
  have F23 : Fun K "_law_take" "_law_take" s_take (He.fAd K ("_law_take", none)) fd23 := fun_of D23
  have b23 := F23.binds (ps := ["_law_deck_here", "_law_most"]) fun _ _ _ _ _ _ us hl => match us, hl with | [_, _], _ => rfl
  obtain ⟨fd24, D24⟩ := c.t.d.def_ 24 (d := d_form) rfl
  have F24 : Fun K "_law_form" "_law_form" s_form (He.fAd K ("_law_form", none)) fd24 := fun_of D24
  have b24 := F24.binds (ps := ["_law_deck_here", "_law_many", "_law_deep", "_law_left"]) fun _ _ _ _ _ _ us hl => match us, hl with | [_, _, _, _], _ => rfl
  obtain ⟨fd25, D25⟩ := c.t.d.def_ 25 (d := d_inner) rfl
  have F25 : Fun K "_law_inner" "_law_inner" s_inner (He.fAd K ("_law_inner", none)) fd25 := fun_of D25
  have b25 := F25.binds (ps := ["_law_form_here"]) fun _ _ _ _ _ _ us hl => match us, hl with | [_], _ => rfl
  obtain ⟨fd26, D26⟩ := c.t.d.def_ 26 (d := d_count) rfl
  have F26 : Fun K "_law_count" "_law_count" s_count (He.fAd K ("_law_count", none)) fd26 := fun_of D26
  have b26 := F26.binds (ps := ["_law_form_here"]) fun _ _ _ _ _ _ us hl => match us, hl with | [_], _ => rfl
  obtain ⟨fd27, D27⟩ := c.t.d.def_ 27 (d := d_some_form) rfl
  have F27 : Fun K "_law_some_form" "_law_some_form" s_some_form (He.fAd K ("_law_some_form", none)) fd27 := fun_of D27
  have b27 := F27.binds (ps := ["_law_deck_here", "_law_many"]) fun _ _ _ _ _ _ us hl => match us, hl with | [_, _], _ => rfl
  obtain ⟨fd28, D28⟩ := c.t.d.def_ 28 (d := d_tower) rfl
  have F28 : Fun K "_law_tower" "_law_tower" s_tower (He.fAd K ("_law_tower", none)) fd28 := fun_of D28
  have b28 := F28.binds (ps := ["_law_deck_here", "_law_many"]) fun _ _ _ _ _ _ us hl => match us, hl with | [_, _], _ => rfl
  obtain ⟨fd29, D29⟩ := c.t.d.def_ 29 (d := d_worth) rfl
  have F29 : Fun K "_law_worth" "_law_worth" s_worth (He.fAd K ("_law_worth", none)) fd29 := fun_of D29
  have b29 := F29.binds (ps := ["_law_form_here", "_law_row"]) fun _ _ _ _ _ _ us hl => match us, hl with | [_, _], _ => rfl
  obtain ⟨fd30, D30⟩ := c.t.d.def_ 30 (d := d_pairs) rfl
  have F30 : Fun K "_law_pairs" "_law_pairs" s_pairs (He.fAd K ("_law_pairs", none)) fd30 := fun_of D30
  have b30 := F30.binds (ps := ["_law_form_here", "_law_change_here"]) fun _ _ _ _ _ _ us hl => match us, hl with | [_, _], _ => rfl
  obtain ⟨fd31, D31⟩ := c.t.d.def_ 31 (d := d_word) rfl
  have F31 : Fun K "_law_word" "_law_word" s_word (He.fAd K ("_law_word", none)) fd31 := fun_of D31
  have b31 := F31.binds (ps := ["_law_form_here", "_law_change_here"]) fun _ _ _ _ _ _ us hl => match us, hl with | [_, _], _ => rfl
  obtain ⟨fd32, D32⟩ := c.t.d.def_ 32 (d := d_leaves) rfl
  have F32 : Fun K "_law_leaves" "_law_leaves" s_leaves (He.fAd K ("_law_leaves", none)) fd32 := fun_of D32
  have b32 := F32.binds (ps := ["_law_form_here"]) fun _ _ _ _ _ _ us hl => match us, hl with | [_], _ => rfl
  obtain ⟨fd33, D33⟩ := c.t.d.def_ 33 (d := d_change) rfl
  have F33 : Fun K "_law_change" "_law_change" s_change (He.fAd K ("_law_change", none)) fd33 := fun_of D33
  have b33 := F33.binds (ps := ["_law_deck_here", "_law_many"]) fun _ _ _ _ _ _ us hl => match us, hl with | [_, _], _ => rfl
  obtain ⟨fd34, D34⟩ := c.t.d.def_ 34 (d := d_read_at) rfl
  have F34 : Fun K "_law_read_at" "_law_read_at" s_read_at (He.fAd K ("_law_read_at", none)) fd34 := fun_of D34
  have b34 := F34.binds (ps := ["_law_form_here", "_law_change_here", "_law_delays_here", "_law_time"]) fun _ _ _ _ _ _ us hl => match us, hl with | [_, _, _, _], _ => rfl
  obtain ⟨fd35, D35⟩ := c.t.d.def_ 35 (d := d_wave) rfl
  have F35 : Fun K "_law_wave" "_law_wave" s_wave (He.fAd K ("_law_wave", none)) fd35 := fun_of D35
  have b35 := F35.binds (ps := ["_law_form_here", "_law_change_here", "_law_delays_here"]) fun _ _ _ _ _ _ us hl => match us, hl with | [_, _, _], _ => rfl
  obtain ⟨fd36, D36⟩ := c.t.d.def_ 36 (d := d_far) rfl
  have F36 : Fun K "_law_far" "_law_far" s_far (He.fAd K ("_law_far", none)) fd36 := fun_of D36
  have b36 := F36.binds (ps := ["_law_deck_here"]) fun _ _ _ _ _ _ us hl => match us, hl with | [_], _ => rfl
  obtain ⟨fd37, D37⟩ := c.t.d.def_ 37 (d := d_delays) rfl
  have F37 : Fun K "_law_delays" "_law_delays" s_delays (He.fAd K ("_law_delays", none)) fd37 := fun_of D37
  have b37 := F37.binds (ps := ["_law_deck_here", "_law_many"]) fun _ _ _ _ _ _ us hl => match us, hl with | [_, _], _ => rfl
  obtain ⟨fd38, D38⟩ := c.t.d.def_ 38 (d := d_shown_right) rfl
  have F38 : Fun K "_law_shown_right" "_law_shown_right" s_shown_right (He.fAd K ("_law_shown_right", none)) fd38 := fun_of D38
  have b38 := F38.binds (ps := ["_law_form_here", "_law_change_here"]) fun _ _ _ _ _ _ us hl => match us, hl with | [_, _], _ => rfl
  obtain ⟨fd39, D39⟩ := c.t.d.def_ 39 (d := d_law) rfl
  have F39 : Fun K "law" "law" s_law (He.fAd K ("law", none)) fd39 := fun_of D39
  have b39 := F39.binds (ps := ["_law_script"]) fun _ _ _ _ _ _ us hl => match us, hl with | [_], _ => rfl
  have mo := c.more
  obtain ⟨y0, mo⟩ := He.ba mo
  have e := hfa.symm.trans (He.glo_ok X G (c.t.d.fact 39 (f := .glo "law") rfl))
  cases e
  let T : Tx w K mg := { f_inner_of := _, fd_inner_of := _, F_inner_of := F0, g_inner_of := He.glo_ok X G (c.t.d.fact 0 (f := .glo "inner_of") rfl), b_inner_of := b0, f_still_worth := _, fd_still_worth := _, F_still_worth := F1, g_still_worth := He.glo_ok X G (c.t.d.fact 1 (f := .glo "still_worth") rfl), b_still_worth := b1, f_choices_of := _, fd_choices_of := _, F_choices_of := F2, g_choices_of := He.glo_ok X G (c.t.d.fact 2 (f := .glo "choices_of") rfl), b_choices_of := b2, f_table_worth := _, fd_table_worth := _, F_table_worth := F3, g_table_worth := He.glo_ok X G (c.t.d.fact 3 (f := .glo "table_worth") rfl), b_table_worth := b3, f_pairs_of := _, fd_pairs_of := _, F_pairs_of := F4, g_pairs_of := He.glo_ok X G (c.t.d.fact 4 (f := .glo "pairs_of") rfl), b_pairs_of := b4, f_pair_by := _, fd_pair_by := _, F_pair_by := F5, g_pair_by := He.glo_ok X G (c.t.d.fact 5 (f := .glo "pair_by") rfl), b_pair_by := b5, f_pairs_for := _, fd_pairs_for := _, F_pairs_for := F6, g_pairs_for := He.glo_ok X G (c.t.d.fact 6 (f := .glo "pairs_for") rfl), b_pairs_for := b6, f_input_wave := _, fd_input_wave := _, F_input_wave := F7, g_input_wave := He.glo_ok X G (c.t.d.fact 7 (f := .glo "input_wave") rfl), b_input_wave := b7, f_later := _, fd_later := _, F_later := F8, g_later := He.glo_ok X G (c.t.d.fact 8 (f := .glo "later") rfl), b_later := b8, c_later := (He.cT K ("later", none)).1, P_later := (He.cT K ("later", none)).2, cd_later := code_of F8, f_gate_wave := _, fd_gate_wave := _, F_gate_wave := F9, g_gate_wave := He.glo_ok X G (c.t.d.fact 9 (f := .glo "gate_wave") rfl), b_gate_wave := b9, f_turns_of := _, fd_turns_of := _, F_turns_of := F10, g_turns_of := He.glo_ok X G (c.t.d.fact 10 (f := .glo "turns_of") rfl), b_turns_of := b10, f_input_delay := _, fd_input_delay := _, F_input_delay := F11, g_input_delay := He.glo_ok X G (c.t.d.fact 11 (f := .glo "input_delay") rfl), b_input_delay := b11, c_input_delay := (He.cT K ("input_delay", none)).1, P_input_delay := (He.cT K ("input_delay", none)).2, cd_input_delay := code_of F11, f_form_word := _, fd_form_word := _, F_form_word := F12, g_form_word := He.glo_ok X G (c.t.d.fact 12 (f := .glo "form_word") rfl), b_form_word := b12, f_most_of := _, fd_most_of := _, F_most_of := F13, g_most_of := He.glo_ok X G (c.t.d.fact 13 (f := .glo "most_of") rfl), b_most_of := b13, f_about := _, fd_about := _, F_about := F14, g_about := He.glo_ok X G (c.t.d.fact 14 (f := .glo "about") rfl), b_about := b14, f_most_of_and := _, fd_most_of_and := _, F_most_of_and := F15, g_most_of_and := He.glo_ok X G (c.t.d.fact 15 (f := .glo "most_of_and") rfl), b_most_of_and := b15, c_most_of_and := (He.cT K ("most_of_and", none)).1, P_most_of_and := (He.cT K ("most_of_and", none)).2, cd_most_of_and := code_of F15, f_form_wave := _, fd_form_wave := _, F_form_wave := F16, g_form_wave := He.glo_ok X G (c.t.d.fact 16 (f := .glo "form_wave") rfl), b_form_wave := b16, f_wave_from := _, fd_wave_from := _, F_wave_from := F17, g_wave_from := He.glo_ok X G (c.t.d.fact 17 (f := .glo "wave_from") rfl), b_wave_from := b17, f_form_table := _, fd_form_table := _, F_form_table := F18, g_form_table := He.glo_ok X G (c.t.d.fact 18 (f := .glo "form_table") rfl), b_form_table := b18, f_form_shown := _, fd_form_shown := _, F_form_shown := F19, g_form_shown := He.glo_ok X G (c.t.d.fact 19 (f := .glo "form_shown") rfl), b_form_shown := b19, f_lates_by := _, fd_lates_by := _, F_lates_by := F20, g_lates_by := He.glo_ok X G (c.t.d.fact 20 (f := .glo "lates_by") rfl), b_lates_by := b20, f_deck := _, fd_deck := _, F_deck := F21, g_deck := He.glo_ok X G (c.t.d.fact 21 (f := .glo "_law_deck") rfl), b_deck := b21, f_mixed := _, fd_mixed := _, F_mixed := F22, g_mixed := He.glo_ok X G (c.t.d.fact 22 (f := .glo "_law_mixed") rfl), b_mixed := b22, f_take := _, fd_take := _, F_take := F23, g_take := He.glo_ok X G (c.t.d.fact 23 (f := .glo "_law_take") rfl), b_take := b23, f_form := _, fd_form := _, F_form := F24, g_form := He.glo_ok X G (c.t.d.fact 24 (f := .glo "_law_form") rfl), b_form := b24, f_inner := _, fd_inner := _, F_inner := F25, g_inner := He.glo_ok X G (c.t.d.fact 25 (f := .glo "_law_inner") rfl), b_inner := b25, f_count := _, fd_count := _, F_count := F26, g_count := He.glo_ok X G (c.t.d.fact 26 (f := .glo "_law_count") rfl), b_count := b26, f_some_form := _, fd_some_form := _, F_some_form := F27, g_some_form := He.glo_ok X G (c.t.d.fact 27 (f := .glo "_law_some_form") rfl), b_some_form := b27, f_tower := _, fd_tower := _, F_tower := F28, g_tower := He.glo_ok X G (c.t.d.fact 28 (f := .glo "_law_tower") rfl), b_tower := b28, f_worth := _, fd_worth := _, F_worth := F29, g_worth := He.glo_ok X G (c.t.d.fact 29 (f := .glo "_law_worth") rfl), b_worth := b29, f_pairs := _, fd_pairs := _, F_pairs := F30, g_pairs := He.glo_ok X G (c.t.d.fact 30 (f := .glo "_law_pairs") rfl), b_pairs := b30, f_word := _, fd_word := _, F_word := F31, g_word := He.glo_ok X G (c.t.d.fact 31 (f := .glo "_law_word") rfl), b_word := b31, f_leaves := _, fd_leaves := _, F_leaves := F32, g_leaves := He.glo_ok X G (c.t.d.fact 32 (f := .glo "_law_leaves") rfl), b_leaves := b32, f_change := _, fd_change := _, F_change := F33, g_change := He.glo_ok X G (c.t.d.fact 33 (f := .glo "_law_change") rfl), b_change := b33, f_read_at := _, fd_read_at := _, F_read_at := F34, g_read_at := He.glo_ok X G (c.t.d.fact 34 (f := .glo "_law_read_at") rfl), b_read_at := b34, f_wave := _, fd_wave := _, F_wave := F35, g_wave := He.glo_ok X G (c.t.d.fact 35 (f := .glo "_law_wave") rfl), b_wave := b35, f_far := _, fd_far := _, F_far := F36, g_far := He.glo_ok X G (c.t.d.fact 36 (f := .glo "_law_far") rfl), b_far := b36, f_delays := _, fd_delays := _, F_delays := F37, g_delays := He.glo_ok X G (c.t.d.fact 37 (f := .glo "_law_delays") rfl), b_delays := b37, f_shown_right := _, fd_shown_right := _, F_shown_right := F38, g_shown_right := He.glo_ok X G (c.t.d.fact 38 (f := .glo "_law_shown_right") rfl), b_shown_right := b38, f_law := _, fd_law := _, F_law := F39, g_law := He.glo_ok X G (c.t.d.fact 39 (f := .glo "law") rfl), b_law := b39, m_bool := He.free_ok X G (c.t.d.fact 40 (f := .free "bool") rfl), m_enumerate := He.free_ok X G (c.t.d.fact 41 (f := .free "enumerate") rfl), m_int := He.free_ok X G (c.t.d.fact 42 (f := .free "int") rfl), m_isinstance := He.free_ok X G (c.t.d.fact 43 (f := .free "isinstance") rfl), m_len := He.free_ok X G (c.t.d.fact 44 (f := .free "len") rfl), m_list := He.free_ok X G (c.t.d.fact 45 (f := .free "list") rfl), m_max := He.free_ok X G (c.t.d.fact 46 (f := .free "max") rfl), m_min := He.free_ok X G (c.t.d.fact 47 (f := .free "min") rfl), m_range := He.free_ok X G (c.t.d.fact 48 (f := .free "range") rfl), m_repr := He.free_ok X G (c.t.d.fact 49 (f := .free "repr") rfl), m_reversed := He.free_ok X G (c.t.d.fact 50 (f := .free "reversed") rfl), m_set := He.free_ok X G (c.t.d.fact 51 (f := .free "set") rfl), m_sorted := He.free_ok X G (c.t.d.fact 52 (f := .free "sorted") rfl), m_sum := He.free_ok X G (c.t.d.fact 53 (f := .free "sum") rfl), m_tuple := He.free_ok X G (c.t.d.fact 54 (f := .free "tuple") rfl), m_zip := He.free_ok X G (c.t.d.fact 55 (f := .free "zip") rfl), A_STILL := _, gA_STILL := He.glo_ok X G (c.t.d.fact 56 (f := .glo "STILL") rfl), kd_STILL := c.t.tab 0, kv_STILL := KdS.kdB_ok y0 }
  refine ⟨fd39, tf.map (He.cT K), sp_law K T.tabs, ?_, ?_, ?_, ?_, ?_, ?_⟩
  · rintro p hp
    obtain ⟨d, hd, rfl⟩ := List.mem_map.mp hp
    exact c.empty d hd
  · rintro p hp
    obtain ⟨d, hd, rfl⟩ := List.mem_map.mp hp
    exact c.out d hd
  · rintro p hp
    obtain ⟨d, hd, rfl⟩ := List.mem_map.mp hp
    exact PySem.W.codeHd_of_K X (c.hd d hd)
  · obtain ⟨oc, od, kV, doc, pm, an, cdv, ct, osl, rfl, lk, hcd⟩ := F39.ex
    exact fun s v => .of_eq rfl
  · intro H a ns hl hbits hT hS
    refine ⟨a, ns, rfl, hS, hl, fun P hP => ?_, fun _ => rfl⟩
    have hP : P ∈ (tf.map (He.cT K)).map (·.2) := hP
    obtain ⟨p, hp, rfl⟩ := List.mem_map.mp hP
    exact ⟨#[], hT p hp, by trivial⟩
  · intro base KB GB hTB
    have B : Tb base T := ⟨tab_of (hTB (He.cT K ("later", none)) (List.mem_map.mpr ⟨_, (show (("later", none) : He.Defn) ∈ tf by decide), rfl⟩)), tab_of (hTB (He.cT K ("input_delay", none)) (List.mem_map.mpr ⟨_, (show (("input_delay", none) : He.Defn) ∈ tf by decide), rfl⟩)), tab_of (hTB (He.cT K ("most_of_and", none)) (List.mem_map.mpr ⟨_, (show (("most_of_and", none) : He.Defn) ∈ tf by decide), rfl⟩))⟩
    exact ok_law T B
end Gk
open PySem PySem.W PyProof.Rows
set_option maxRecDepth 100000 in
set_option maxHeartbeats 0 in
theorem PySem.Challenge.cw_glitchnet_k57_waves_of_forms_holds : PySem.Challenge.rw_glitchnet_k57_waves_of_forms.Holds := by
  w_on; o_law
  refine HandSHeadRun.head_any (r := OpenLaw.row PySem.Challenge.rw_glitchnet_k57_waves_of_forms) (q := view (OpenLaw.row PySem.Challenge.rw_glitchnet_k57_waves_of_forms).prog [47]) (H := Gk.hk) (ob := Gk.ob) (M := 3000) (loose := [("STILL" : PySem.Str), ("inner_of" : PySem.Str), ("still_worth" : PySem.Str), ("choices_of" : PySem.Str), ("table_worth" : PySem.Str), ("pairs_of" : PySem.Str), ("pair_by" : PySem.Str), ("pairs_for" : PySem.Str), ("input_wave" : PySem.Str), ("later" : PySem.Str), ("gate_wave" : PySem.Str), ("turns_of" : PySem.Str), ("input_delay" : PySem.Str), ("form_word" : PySem.Str), ("most_of" : PySem.Str), ("about" : PySem.Str), ("most_of_and" : PySem.Str), ("form_wave" : PySem.Str), ("wave_from" : PySem.Str), ("form_table" : PySem.Str), ("form_shown" : PySem.Str), ("lates_by" : PySem.Str), ("_law_deck" : PySem.Str), ("_law_mixed" : PySem.Str), ("_law_take" : PySem.Str), ("_law_form" : PySem.Str), ("_law_inner" : PySem.Str), ("_law_count" : PySem.Str), ("_law_some_form" : PySem.Str), ("_law_tower" : PySem.Str), ("_law_worth" : PySem.Str), ("_law_pairs" : PySem.Str), ("_law_word" : PySem.Str), ("_law_leaves" : PySem.Str), ("_law_change" : PySem.Str), ("_law_read_at" : PySem.Str), ("_law_wave" : PySem.Str), ("_law_far" : PySem.Str), ("_law_delays" : PySem.Str), ("_law_shown_right" : PySem.Str)]) (d := HandSHeadRun.topDef (OpenLaw.row PySem.Challenge.rw_glitchnet_k57_waves_of_forms).prog 47) (kwd := []) Gk.ob_eq
    (by kernel_rfl) (fun s => by kernel_rfl) Gk.run (by kernel_rfl) (by kernel_rfl) (by kernel_rfl) (by rfl) (by first | assumption | decide +kernel) (by decide +kernel) ⟨rfl, rfl, rfl, rfl, rfl, by decide +kernel⟩ ?hw ?hc
  case hw => w_witness2
  case hc =>
    refine Gk.walk_GT (l := PySem.Challenge.rw_glitchnet_k57_waves_of_forms) (n := 63) (k := 58) (x := "_law_script") (CX := fun _ => L2.CX0) rfl (by decide) (by kernel_rfl) ⟨rfl, by decide, by decide⟩ ?F (fun _ _ _ _ _ z => z)
    intro w mg fa h Y G hmg0
    obtain ⟨K, KX, c⟩ := Y
    have hmg : mg ("law" : PySem.Str) = some (.ref fa) := by
      have e : (HandSHeadRun.topDef (OpenLaw.row PySem.Challenge.rw_glitchnet_k57_waves_of_forms).prog 47).name = ("law" : PySem.Str) := by kernel_rfl
      rw [← e]
      exact hmg0
    exact ⟨K, KX, Gk.facts KX G hmg c⟩
